import PyProof.Rows.All
import Wide.All
import OpenK.AllK
import Wide.FinOn
import Lean
import PyProof.EqAt
import PyProof.EqKinds
import PyProof.TupleCall
import PyProof.P3Eq
import PyProof.NeKinds
import PyProof.NsDelKeeps
import PyProof.RulesAs
import PyProof.ExcAttrAll.ValueError
import PyProof.DictUpdate
import KE.KDictLaws
import PySem.Challenge.RW_looprank_k34_whole_alike_needs_as_many
set_option Elab.async false
set_option linter.all false
set_option maxRecDepth 100000
def Ca:=@PySem.wpAny_bind
def Tb:=@PySem.Heap.get?_push_of_some
def Bb:=@List.mem_cons_of_mem
def xb:=@List.mem_cons_self
def Pc:=@List.getElem?_eq_getElem
def cc:=@List.mem_singleton
def Kd:=@List.getElem?_eq_some_iff
def Zc:=@List.mem_append_right
def kb:=@PySem.wpAny_pure
def Cb:=@Nat.le_refl
def Nb:=@List.mem_cons
def Dd:=@List.mem_append_left
def Pd:=@PySem.Heap.get?_push_size
def La:=@if_neg
def dc:=@PySem.Heap.lt_size
def Qc:=@List.mem_range
def Na:=@if_pos
def Cd:=@decide_eq_false
def Ed:=@List.mem_append
def ue:=@Nat.lt_of_lt_of_le
def xf:=@List.getD_eq_getElem?_getD
def ve:=@List.getElem?_set
def uc:=@List.length_map
def Rc:=@List.mem_map
def De:=@List.size_toArray
def Ld:=@decide_eq_true
def je:=@List.mem_filter
def Hd:=@Nat.ne_of_lt
def Ef:=@Bool.false_ne_true
def we:=@List.length_append
def Qd:=@List.length_cons
def wc:=@List.map_cons
def Ff:=@decide_eq_true_eq
def cf:=@PySem.PassesOwn.never
def Zd:=@Nat.le_trans
def Wf:=@List.getElem_mem
def Vi:=@List.getElem?_append_left
def Wi:=@Array.getElem?_eq_getElem
def Gf:=@List.nodup_cons
def Hf:=@List.map_append
def Vg:=@List.getElem?_map
def Uh:=@List.mem_of_getElem?
def Vh:=@PySem.mem_of_lookup
def qg:=@PySem.Heap.size_push
def Zk:=@Classical.byContradiction
def rg:=@Int.toNat_natCast
def jl:=@List.length_eq_zero_iff
def Xi:=@List.map_congr_left
def Cg:=@Nat.lt_irrefl
def ug:=@List.map_map
def Ci:=@List.length_singleton
def Yj:=@beq_eq_false_iff_ne
def Yi:=@List.nodup_append
def kl:=@List.getElem?_set_ne
def Dm:=@PySem.Heap.get?_update_self
def ll:=@List.replicate_succ
def Em:=@List.mem_iff_getElem?
def Ah:=@PySem.wpAny_holding
def Zj:=@of_decide_eq_true
def au:=@List.eraseIdx_eq_take_drop_succ
def bo:=@PySem.Heap.get?_update_other
def Zi:=@Option.some.inj
def vg:=@List.length_set
def Wg:=@List.lookup_cons
def wl:=@List.append_assoc
def xl:=@Array.getElem?_toList
def Fq:=@PySem.F.plainAttrs_dict
def ak:=@PySem.wpAny_ite_split
def Gq:=@PySem.F.plainAttrs_list
def Hq:=@PySem.wpAny_callSpecial?_slot
def io:=@List.mem_iff_getElem
def Al:=@List.any_eq_true
def Bl:=@PySem.wpAny_call_entry
def bu:=@List.getElem?_append_right
def du:=@Nat.mod_two_eq_zero_or_one
def Iq:=@PySem.F.slot_dict_get
def Bh:=@beq_iff_eq
def jo:=@List.flatten_cons
def Zy:=@PyProof.Rows.callWith_type1
def fu:=@List.getElem?_set_self
def Wh:=@PySem.wpAny_mono
def Xh:=@PySem.W.mg_none_of
def Jq:=@PySem.tupleKind_room_in1
def Kq:=@List.filter_cons_of_pos
def Lq:=@List.filter_cons_of_neg
def Mq:=@PySem.wpAny_setField_rec
def Di:=@List.append_nil
def tf:=@Ne.symm
def az:=@List.mem_of_find?_eq_some
def Fm:=@PySem.wpAny_seqItems
def gu:=@Nat.eq_of_testBit_eq
def iu:=@List.exists_mem_of_ne_nil
def ju:=@List.drop_eq_getElem_cons
def ku:=@PySem.Around.under_plainId
def Nq:=@PySem.wpAny_truthy_bool
def oo:=@PySem.wpAny_passesOwn
def Oq:=@List.take_of_length_le
def Pq:=@PySem.wpAny_newObj_type
def Qq:=@PySem.wpAny_setState_of
def Dl:=@Nat.add_zero
def Gm:=@PySem.wpAny_standAt
def nu:=@List.length_pos_iff
def bz:=@PySem.wpAny_getItem_str_slice
def ou:=@PySem.Heap.SameBut.update
def qu:=@PySem.wpAny_setEntries_of
def Sq:=@Nat.lt_succ_self
def cz:=@PySem.F.slot_list_append
def Tq:=@decide_eq_decide
def Uq:=@PySem.wpAny_askSetting
def Dg:=@Nat.zero_le
def dz:=@PySem.Calls.callWith_builtin
def gz:=@PySem.F.entry_dict_get
def su:=@List.getElem?_cons_succ
def Hm:=@PySem.call_meetsIn
def Vq:=@Bool.eq_iff_iff
def Wq:=@Int.toNat_of_nonneg
def Im:=@List.length_range
def iz:=@List.getElem?_eq_none
def jz:=@PySem.exec_Assign_Name_used
def mz:=@PySem.F.slot_zip_next
def nz:=@Array.getD_eq_getD_getElem?
def Xq:=@PySem.codeAny_builtin
def Jm:=@PySem.F.called_set
def oz:=@PySem.Obj.isFreed_of_fields
def tu:=@List.any_eq_false
def wu:=@List.ext_getElem?
def VF:=@Array.getElem?_eq_some_iff
def Yq:=@Int.emod_lt_of_pos
def XF:=@List.pairwise_iff_getElem
def Zq:=@PySem.wpAny_setField
def xu:=@List.all_eq_true
def pz:=@List.filterMap_cons
def Km:=@PySem.sizeLine_eq
def Lm:=@Int.emod_nonneg
def qz:=@List.filter_eq_self
def uz:=@List.getElem?_range
def qo:=@PySem.codeAny_mono
def Mm:=@List.foldl_cons
def vz:=@PySem.Calls.spliced_cons
def wz:=@PySem.wpAny_Call_Name_kw
def yz:=@PySem.F.slot_list_pop
def ZX:=@List.findIdx?_eq_some_iff_getElem
def ar:=@PySem.wpAny_attempt
def YF:=@PyProof.Rows.F.plain_set_update_loop
def zz:=@PySem.Obj.data_mapFields
def yY:=@List.pairwise_iff_forall_sublist
def ZF:=@List.pairwise_lt_range
def Nm:=@PySem.call_meets
def AY:=@List.eraseIdxIfInBounds_toArray
def BY:=@List.takeWhile_append_dropWhile
def Az:=@PySem.wpAny_pyIter_list
def so:=@PySem.wpAny_field
def Bz:=@PySem.fits_of_scanBound
def yu:=@List.Perm.refl
def br:=@List.any_map
def dr:=@Nat.zero_testBit
def kG:=@List.length_filter_le
def CY:=@List.Nodup.length_le_of_subset
def AG:=@List.getElem?_toArray
def BG:=@PySem.builtinLookup_eq_fast
def Cz:=@List.range'_succ
def Dz:=@PySem.wpAny_isInstance
def CG:=@PySem.Calls.evalArgs_plain
def DG:=@PySem.wpAny_updateSeq_pair
def uo:=@List.any_cons
def zu:=@List.zip_cons_cons
def Au:=@PySem.plainId_quiet
def DY:=@PySem.F.slot_dict_setdefault
def Ez:=@PySem.wpAny_execs_nil
def EG:=@PySem.W.plainGet_of
def Fz:=@List.length_nil
def FG:=@List.toList_toArray
def Gz:=@PySem.post_val_or_str
def EY:=@PySem.Calls.Name_function_global
def FY:=@Int.fdiv_eq_ediv_of_nonneg
def GY:=@List.dropWhile_cons_of_pos
def HY:=@List.dropWhile_cons_of_neg
def IY:=@List.takeWhile_cons_of_pos
def JY:=@List.takeWhile_cons_of_neg
def KY:=@List.length_eraseIdx_of_lt
def Bu:=@Nat.le_of_lt
def GG:=@Int.natCast_nonneg
def Cu:=@Nat.le_of_eq
def HG:=@PySem.W.callWith_K
def Du:=@Nat.lt_trans
def Eu:=@Nat.zero_add
def Fu:=@List.nodup_range
def LY:=@List.getLast?_eq_getElem?
def MY:=@List.mem_or_eq_of_mem_set
def Hz:=@PySem.wpAny_fieldsOf
def NY:=@PySem.F.plain_extend_loop
def IG:=@PySem.Calls.spliced_nil
def OY:=@Option.isSome_iff_exists
def JG:=@Option.isSome_map
def KG:=@List.mem_range'_1
def vo:=@List.nodup_nil
def LG:=@Nat.le_of_succ_le
def ir:=@PySem.wpAny_rule
def PY:=@PySem.F.type_list_append
def MG:=@Nat.lt_succ_of_lt
def QY:=@PySem.F.slot_dict_update
def RY:=@PySem.F.slot_dict_values
def Om:=@Nat.le_succ
def SY:=@PySem.F.args_list_append_2
def Gu:=@List.nil_append
def Iz:=@Bool.false_or
def TY:=@PySem.F.args_dict_get_2
def UY:=@PySem.F.args_dict_get_3
def Hu:=@Bool.and_eq_true
def Iu:=@Nat.not_lt_zero
def VY:=@decide_eq_false_iff_not
def Jz:=@PySem.wpAny_onRaise
def WY:=@PySem.F.slot_list_index
def XY:=@PySem.F.slot_dict_items
def YY:=@PySem.F.plain_list_iadd
def NG:=@List.getElem_map
def OG:=@List.take_length
def ZY:=@PySem.W.cellsFrom_some
def AZ:=@Nat.testBit_lt_two_pow
def BZ:=@List.length_pos_of_mem
def CZ:=@List.find?_cons_of_pos
def DZ:=@List.find?_cons_of_neg
def EZ:=@List.range_succ_eq_map
def FZ:=@Nat.lt_of_succ_lt_succ
def GZ:=@PySem.F.entry_zip_next
def Kz:=@Nat.ne_of_gt
def QG:=@List.of_mem_zip
def Lz:=@Nat.succ_mul
def HZ:=@PySem.F.type_dict_get
def IZ:=@Classical.choose_spec
def JZ:=@List.mem_of_mem_erase
def RG:=@List.find?_some
def KZ:=@List.eq_nil_or_concat
def LZ:=@List.concat_eq_append
def SG:=@PySem.wpAny_specialOf
def MZ:=@PyProof.Rows.boot_set
def UG:=@PySem.typeLookup_type
def NZ:=@PySem.F.type_list_pop
def OZ:=@List.dropLast_eq_take
def Ju:=@PySem.intKind_is
def PZ:=@List.getLast?_append
def QZ:=@Nat.mul_le_mul_right
def RZ:=@Nat.pow_le_pow_right
def TZ:=@List.findIdx?_isSome
def UZ:=@List.range_eq_range'
def VZ:=@List.getElem_toArray
def WZ:=@Array.getElem_toList
def VG:=@Nat.mul_le_mul
def WG:=@Nat.testBit_or
def Mz:=@List.drop_length
def XG:=@List.zip_map'
def YG:=@Int.ofNat_inj
def ZG:=@Nat.mul_comm
def kH:=@List.map_nil
def AH:=@Nat.zero_mul
namespace L2
open PySem PySem.Spec PyProof.Rows
abbrev gb:=Sum Int Str
def Pn:gb->Value->Bool
 |.inl k,v=>Value.isInt k v
 |.inr x,v=>Value.isStrOf x v
def bM4(w:World):gb->Int
 |.inl k=>hashInt k
 |.inr x=>hashStr w x
def fZ:∀{k:gb}{v:Value},Pn k v=true->(∃i t,k=Sum.inl i/\v=Value.int i t)\/(∃x t,k=Sum.inr x/\v=Value.str x t)
 |.inl i,v,h=>by
  obtain⟨t,e⟩:=Value.isInt_shape (k:=i) (v:=v) h;exact .inl ⟨i,t,rfl,e⟩
 |.inr x,v,h=>by
  obtain⟨t,e⟩:=Value.isStrOf_shape (x:=x) (v:=v) h;exact .inr ⟨x,t,rfl,e⟩
def v7(i:Int)(t:Tok):Pn (.inl i) (.int i t)=true:=by simp[Pn,Value.isInt]
def z7(x:Str)(t:Tok):Pn (.inr x) (.str x t)=true:=by simp[Pn,Value.isStrOf]
def PU(a b:Int):decide ((Sum.inl a:gb)=Sum.inl b)=(a==b):=by
 by_cases e:a=b
 .subst e;simp
 .have h:¬ (Sum.inl a:gb)=Sum.inl b:=λq=>e (Sum.inl.inj q)
  rw[Cd h];exact(Yj.mpr e).symm
def QU(a b:Str):decide ((Sum.inr a:gb)=Sum.inr b)=decide (a=b):=by
 by_cases e:a=b
 .subst e;simp
 .have h:¬ (Sum.inr a:gb)=Sum.inr b:=λq=>e (Sum.inr.inj q)
  rw[Cd h,Cd e]
def RU(a:Int)(b:Str):decide ((Sum.inl a:gb)=Sum.inr b)=false:=Cd (λq=>nomatch q)
def SU(a:Str)(b:Int):decide ((Sum.inr a:gb)=Sum.inl b)=false:=Cd (λq=>nomatch q)
def dN(prog:Program)(w:World):PySem.KeyKind prog w gb where
 is:=Pn
 hash:=bM4 w
 inj:=λv a b ha hb=>by
  rcases fZ ha with ⟨i,t,rfl,rfl⟩|⟨x,t,rfl,rfl⟩
  .rcases fZ hb with ⟨j,u,rfl,e⟩|⟨y,u,rfl,e⟩
   .injection e with e1 _;rw[e1]
   .exact nomatch e
  .rcases fZ hb with ⟨j,u,rfl,e⟩|⟨y,u,rfl,e⟩
   .exact nomatch e
   .injection e with e1 _;rw[e1]
 byValue:=λk v h=>by
  rcases fZ h with ⟨i,t,rfl,rfl⟩|⟨x,t,rfl,rfl⟩ <;> rfl
 pyHash:=λhv h=>by
  rcases fZ hv with ⟨i,t,rfl,rfl⟩|⟨x,t,rfl,rfl⟩
  .exact wpAny_pyHash_int h
  .exact wpAny_pyHash_str h
 eqBool:=λhu hv h=>by
  rcases fZ hu with ⟨i,t,rfl,rfl⟩|⟨x,t,rfl,rfl⟩
  .rcases fZ hv with ⟨j,u,rfl,rfl⟩|⟨y,u,rfl,rfl⟩
   .rw[PU]at h;exact wpAny_eqBool_int h
   .rw[RU]at h;exact SeqAt.EqAt.int_str i t y u _ _ _ _ h
  .rcases fZ hv with ⟨j,u,rfl,rfl⟩|⟨y,u,rfl,rfl⟩
   .rw[SU]at h;exact SeqAt.EqAt.str_int x t j u _ _ _ _ h
   .rw[QU]at h;exact wpAny_eqBool_str h
 «strs» := λk x t v h=>by
  rcases fZ h with ⟨i,u,rfl,e⟩|⟨y,u,rfl,e⟩
  .exact nomatch e
  .injection e with e1 _
   subst e1;cases v<;>rfl
def E5(prog:Program)(w:World)(i:Int)(t:Tok):(dN prog w).is (.inl i) (.int i t)=true:=v7 i t
def F5(prog:Program)(w:World)(x:Str)(t:Tok):(dN prog w).is (.inr x) (.str x t)=true:=z7 x t
end L2
namespace L2
open PySem PySem.Spec PyProof.Rows
inductive V where
 |Gb|bl (b:Bool)|int (i:Int)|str (x:Str)|Nz (b:Array UInt8)|qr (b:UInt64)|ref (a:Addr)|ty (n:String)
 deriving DecidableEq
def RelV:V->Value->Prop
 |.Gb,u=>u=Value.none
 |.bl b,u=>u=Value.bool b
 |.int i,u=>∃t,u=Value.int i t
 |.str x,u=>∃t,u=Value.str x t
 |.Nz b,u=>∃t,u=Value.bytes b t
 |.qr b,u=>∃t,u=Value.float b t
 |.ref a,u=>u=Value.ref a
 |.ty n,u=>u=Value.type n
abbrev Ea:List V->List Value->Prop:=Paired RelV
theorem Ea.length{xs:List V}{us:List Value}(r:Ea xs us):xs.length=us.length:=Paired.length r
theorem Ea.get:∀{xs:List V}{us:List Value}{i:Nat}{x:V},Ea xs us->xs[i]?=some x->∃u,us[i]?=some u/\RelV x u
 |_,_,_,_,.nil,e=>by simp at e
 |_,_,0,_,.cons r _,e=>by simp at e;subst e;exact⟨_,rfl,r⟩
 |_,_,i+1,x,.cons _ t,e=>by
  obtain⟨u,h1,h2⟩:=Ea.get (i:=i) (x:=x) t (by simpa using e)
  exact⟨u,by simpa using h1,h2⟩
theorem Ea.set{x:V}{u:Value}(r:RelV x u):∀{xs:List V}{us:List Value}(i:Nat),Ea xs us->Ea (xs.set i x) (us.set i u)
 |_,_,_,.nil=>.nil
 |_,_,0,.cons _ t=>.cons r t
 |_,_,i+1,.cons q t=>.cons q (Ea.set r i t)
theorem Ea.append:∀{xs ys:List V}{us ws:List Value},Ea xs us->Ea ys ws->Ea (xs++ys) (us++ws)
 |_,_,_,_,.nil,s=>s
 |_,_,_,_,.cons r t,s=>.cons r (Ea.append t s)
theorem Ea.take:∀{xs:List V}{us:List Value}(n:Nat),Ea xs us->Ea (xs.take n) (us.take n)
 |_,_,0,_=>.nil
 |_,_,_+1,.nil=>.nil
 |_,_,n+1,.cons r t=>.cons r (Ea.take n t)
theorem Ea.drop:∀{xs:List V}{us:List Value}(n:Nat),Ea xs us->Ea (xs.drop n) (us.drop n)
 |_,_,0,r=>r
 |_,_,_+1,.nil=>.nil
 |_,_,n+1,.cons _ t=>Ea.drop n t
def xM:Option V->Option Value->Prop
 |some v,some u=>RelV v u
 |none,none=>True
 |_,_=>False
def KV{κ:Type}:List (κ×V)->List (κ×Value)->Prop:=Paired λ(p:κ×V)(q:κ×Value)=>p.1=q.1/\RelV p.2 q.2
def kV:gb->V
 |.inl i=>.int i
 |.inr x=>.str x
inductive HO where
 |lst (xs:List V)
 |tup (xs:List V)
 |dK (ma:List (gb×V))|dT (ma:List (List gb×V))
 |set (S:Int->Bool) (n:Nat)
 |ins (C dx:Addr) (fs:List (Str×V))
 |own (x:Addr)
 |xd (fs:List (Str×V))
 |met (f x:Addr)
 |uk (lo hi:Int)
 |ci (o:Obj) (u:HO)
 |xn (ps:Array Value)
 |ext (φ:Heap->Prop)
abbrev Hp:=Addr->Option HO
def Ua(H:Hp)(a:Addr)(o:HO):Hp:=λb=>if b=a then some o else H b
def bL{H:Hp}{a:Addr}{o:HO}:Ua H a o a=some o:=by unfold Ua;rw[Na rfl]
def bF{H:Hp}{a b:Addr}{o:HO}(h:b≠a):Ua H a o b=H b:=by unfold Ua;rw[La h]
def bJ6{H:Hp}{a b:Addr}{o u:HO}(h:H a=some o)(h':H b=some u)(d:o≠u):a≠b:=by
 intro e;subst e;rw[h]at h';exact d (Zi h')
def bB{H:Hp}{a b:Addr}{o:HO}(h:H a=some o)(h':H b=none):a≠b:=by
 intro e;subst e;rw[h]at h';cases h'
section
variable(P:Program)(w:World)
def mK(H:Hp)(h:Heap)(a:Addr):HO->Prop
 |.lst xs=>xs.length<=sizeLine/\∃(Ga:List Value)(n:Nat),Ea xs Ga/\h.get? a=some {cls:=.type "list",data:=.seq Ga.toArray n}
 |.tup xs=>xs.length<=sizeLine/\∃Ga:List Value,Ea xs Ga/\IsTup h a Ga.toArray
 |.dK ma=>ma.length<=sizeLine/\(a==sysModules)=false/\∃vs,KV ma vs/\h.DictOf (dN P w) a vs
 |.dT ma=>ma.length<=sizeLine/\(a==sysModules)=false/\∃xs:List (List gb×Addr×Value),
   Paired (λ(p:List gb×V)(q:List gb×Addr×Value)=>p.1=q.1/\H q.2.1=some (.tup (p.1.map kV))/\RelV p.2 q.2.2) ma xs/\
   ∃o es ep,h.get? a=some o/\o.ExactDict/\o.data=.dict es ep/\es.toList=xs.map (entryOfKey (tupleKind (dN P w)))/\(xs.map (·.1)).Nodup
 |.set S n=>h.SetOf (intKind P w) a S n
 |.ins C dx fs=>H dx=some (.own a)/\fs.length<=1000/\dx≠a/\h.get? a=some (PySem.W.instObj C dx)/\
   ∃mA,h.Ns1 dx mA/\(∀f,xM (fs.lookup f) (mA f))/\PySem.Within mA (fs.map (·.1))
 |.own _=>∃o,h.get? a=some o
 |.xd fs=>∃mA,h.Ns1 a mA/\∀f,xM (fs.lookup f) (mA f)
 |.uk lo hi=>∃t u v,h.get? a=some {cls:=.type "range",data:=.fields #[.int lo t,.int hi u,.int 1 v]}
 |.ci o u=>h.get? a=some o/\mK H h a u
 |.xn ps=>h.get? a=some {cls:=.none,data:=.fields ps}
 |.met f x=>h.get? a=some (PySem.W.methodObj (.ref f) (.ref x))
 |.ext φ=>φ h/\(∃o,h.get? a=some o)/\∀h1 h2:Heap,φ h1->(∀o,h1.get? a=some o->h2.get? a=some o)->φ h2
def Od(H:Hp)(h:Heap):Prop:=∀a o,H a=some o->mK P w H h a o
end
section
variable{P:Program}{w:World}{H H':Hp}{h h':Heap}{a:Addr}{o:HO}
theorem mK.lt(x:mK P w H h a o):a<h.objs.size:=by
 cases o with
 |lst xs=>obtain⟨_,_,_,_,e⟩:=x;exact dc e
 |tup xs=>obtain⟨_,_,_,p⟩:=x;exact p.lt
 |dK ma=>obtain⟨_,_,_,_,o,_,_,e,_⟩:=x;exact dc e
 |dT ma=>obtain⟨_,_,_,_,o,_,_,e,_⟩:=x;exact dc e
 |set S n=>obtain⟨o,_,_,_,e,_⟩:=x;exact dc e
 |ins C dx fs=>obtain⟨_,_,_,e,_⟩:=x;exact dc e
 |own y=>obtain⟨_,e⟩:=x;exact dc e
 |xd fs=>obtain⟨_,⟨_,_,_,e,_⟩,_⟩:=x;exact dc e
 |uk lo hi=>obtain⟨_,_,_,e⟩:=x;exact dc e
 |ci ob u=>obtain⟨e,_⟩:=x;exact dc e
 |xn ps=>exact dc (show h.get? a=some _ from x)
 |met f y=>exact dc (show h.get? a=some _ from x)
 |ext φ=>obtain⟨_,⟨_,e⟩,_⟩:=x;exact dc e
theorem Paired.gp{α β:Type}{F G:α->β->Prop}:∀{l₁:List α}{l₂:List β},Paired F l₁ l₂->(∀a b,F a b->G a b)->Paired G l₁ l₂
 |_,_,.nil,_=>.nil
 |_,_,.cons r t,f=>.cons (f _ _ r) (Paired.gp t f)
def mK.Ae(x:mK P w H h a o)(k:∀b u,(b=a\/H b=some (.own a))->h.get? b=some u->h'.get? b=some u)
  (ho:∀b,H b=some (.own a)->H' b=some (.own a)) (ht:∀b xs,H b=some (.tup xs)->H' b=some (.tup xs)):mK P w H' h' a o:=by
 induction o with
 |lst xs=>obtain⟨z,Ga,n,r,e⟩:=x;exact⟨z,Ga,n,r,k _ _ (.inl rfl) e⟩
 |tup xs=>obtain⟨z,Ga,r,ob,e,c⟩:=x;exact⟨z,Ga,r,ob,k _ _ (.inl rfl) e,c⟩
 |dK ma=>obtain⟨z,y,vs,r,ob,es,ep,e,c⟩:=x;exact⟨z,y,vs,r,ob,es,ep,k _ _ (.inl rfl) e,c⟩
 |dT ma=>
  obtain⟨z,y,xs,r,ob,es,ep,e,c⟩:=x;exact⟨z,y,xs,Paired.gp r λp q z=>⟨z.1,ht _ _ z.2.1,z.2.2⟩,ob,es,ep,k _ _ (.inl rfl) e,c⟩
 |set S n=>obtain⟨ob,es,ep,t,e,c⟩:=x;exact⟨ob,es,ep,t,k _ _ (.inl rfl) e,c⟩
 |ins C dx fs=>
  obtain⟨d,z,ne,e,mA,⟨od,es,ep,e2,c⟩,r⟩:=x;exact⟨ho _ d,z,ne,k _ _ (.inl rfl) e,mA,⟨od,es,ep,k _ _ (.inr d) e2,c⟩,r⟩
 |own y=>obtain⟨ob,e⟩:=x;exact⟨ob,k _ _ (.inl rfl) e⟩
 |xd fs=>obtain⟨mA,⟨od,es,ep,e,c⟩,r⟩:=x;exact⟨mA,⟨od,es,ep,k _ _ (.inl rfl) e,c⟩,r⟩
 |uk lo hi=>obtain⟨t,u,v,e⟩:=x;exact⟨t,u,v,k _ _ (.inl rfl) e⟩
 |ci ob u ih=>obtain⟨e,q⟩:=x;exact⟨k _ _ (.inl rfl) e,ih q⟩
 |xn ps=>
  have e:h.get? a=some {cls:=.none,data:=.fields ps}:=x;show h'.get? a=some {cls:=.none,data:=.fields ps};exact k a _ (.inl rfl) e
 |met f y=>
  have e:h.get? a=some (PySem.W.methodObj (.ref f) (.ref y)):=x;show h'.get? a=some (PySem.W.methodObj (.ref f) (.ref y));exact k a _ (.inl rfl) e
 |ext φ=>obtain⟨p,⟨o,e⟩,st⟩:=x;exact⟨st _ _ p λo q=>k _ _ (.inl rfl) q,⟨o,k _ _ (.inl rfl) e⟩,st⟩
theorem Od.lt(x:Od P w H h)(e:H a=some o):a<h.objs.size:=(x a o e).lt
def Od.fresh(x:Od P w H h)(e:h.objs.size<=a):H a=none:=by
 cases q:H a with
 |none=>rfl
 |some u=>exact absurd (ue (x.lt q) e) (Cg _)
def Od.kept(x:Od P w H h)(k:∀b u,h.get? b=some u->h'.get? b=some u):Od P w H h':=λa o e=>
 (x a o e).Ae (λb u _ q=>k b u q) (λ_ q=>q) λ_ _ q=>q
def Od.laid(x:Od P w H h)(k:∀b u,h.get? b=some u->h'.get? b=some u)(hp:h.objs.size<=a)(new:mK P w (Ua H a o) h' a o):Od P w (Ua H a o) h':=λb u e=>by
 have hn:=x.fresh hp
 by_cases hb:b=a
 .subst hb;rw[bL]at e;cases e;exact new
 .rw[bF hb]at e;exact(x b u e).Ae (λc v _ q=>k c v q) (λc q=>by rw[bF (bB q hn)];exact q) λc xs q=>by rw[bF (bB q hn)];exact q
end
def Rd(H:Hp)(a:Addr)(u:HO):Prop:=H a=some u\/∃o,H a=some (.ci o u)
def Rd.ok{P:Program}{w:World}{H:Hp}{h:Heap}{a:Addr}{u:HO}(r:Rd H a u)(x:Od P w H h):mK P w H h a u:=by
 rcases r with r|⟨o,r⟩
 .exact x a u r
 .obtain⟨_,q⟩:=x a _ r;exact q
def yg:Option HO->Prop
 |some (.lst _)=>True
 |some (.dK _)=>True
 |some (.dT _)=>True
 |some (.set _ _)=>True
 |some (.ins _ _ _)=>True
 |some (.ext _)=>True
 |_=>False
section
variable{P:Program}{w:World}{H:Hp}{h h':Heap}{x e:Addr}{o':HO}
def Od.write(ok:Od P w H h)(mu:yg (H x))(he:e=x\/H e=some (.own x))(k:∀b u,b≠e->h.get? b=some u->h'.get? b=some u)(xr:∃u,h'.get? e=some u)
  (new:mK P w (Ua H x o') h' x o'):Od P w (Ua H x o') h':=λb u q=>by
 have Wv:∀c y,H c=some (.own y)->c≠x:=λc y r z=>by subst z;rw[r]at mu;exact mu
 have DJ:∀c xs,H c=some (.tup xs)->c≠x:=λc xs r z=>by subst z;rw[r]at mu;exact mu
 by_cases hb:b=x
 .subst hb;rw[bL]at q;cases q;exact new
 .rw[bF hb]at q
  by_cases hbe:b=e
  .have q':H b=some (.own x):=by
    rcases he with z|z
    .exact absurd (hbe.trans z) hb
    .rw[hbe];exact z
   rw[q]at q';cases q';obtain⟨v,hv⟩:=xr;exact⟨v,by rw[hbe];exact hv⟩
  .refine(ok b u q).Ae (λc v hc r=>k c v ?_ r) (λc r=>by rw[bF (Wv c b r)];exact r) λc xs r=>by rw[bF (DJ c xs r)];exact r
   rcases hc with rfl|hc
   .exact hbe
   .rintro rfl;rcases he with z|z
    .exact Wv c b hc z
    .rw[hc]at z;cases z;exact hb rfl
end
structure Un(fs ex:List Addr)(H H':Hp)(h h':Heap):Prop where
 keep:∀b o,h.get? b=some o->H b=none->b∉fs->b∉ex->h'.get? b=some o
 slot:∀b o,h.get? b=some o->H b=none->b∈fs->b∉ex->∃sl,h'.get? b=some {o with slots:=sl}
 free:∀b o,h.get? b=some o->H b=none->b∉ex->H' b=none
 there:∀b o,h.get? b=some o->b∉ex->∃o',h'.get? b=some o'
 ng:∀b xs,H b=some (.tup xs)->H' b=some (.tup xs)
 Af:∀b o u,H b=some (.ci o u)->H' b=some (.ci o u)
 lg:∀b ps,H b=some (.xn ps)->∃more,H' b=some (.xn (ps++more))
section
variable{fs fs' ex ex':List Addr}{H H1 H2:Hp}{h h1 h2 h':Heap}{a x e:Addr}{o:HO}
def Un.any(u:Un fs ex H H1 h h1){b:Addr}{ob:Obj}(q:h.get? b=some ob)(n:H b=none)(hx:b∉ex):∃sl,h1.get? b=some {ob with slots:=sl}:=by
 by_cases hb:b∈fs
 .exact u.slot b ob q n hb hx
 .exact⟨ob.slots,u.keep b ob q n hb hx⟩
def Un.kept(k:∀b u,h.get? b=some u->h'.get? b=some u):Un fs ex H H h h':=
 ⟨λb ob q _ _ _=>k b ob q,λb ob q _ _ _=>⟨ob.slots,k b ob q⟩,λ_ _ _ n _=>n,λb ob q _=>⟨ob,k b ob q⟩,λ_ _ q=>q,λ_ _ _ q=>q,λ_ ps q=>⟨#[],by rw[q];simp⟩⟩
def Un.refl:Un fs ex H H h h:=Un.kept λ_ _ q=>q
def Un.laid(k:∀b u,h.get? b=some u->h'.get? b=some u)(hp:h.objs.size<=a)(hn:H a=none):Un fs ex H (Ua H a o) h h' where
 keep:=λb u q _ _ _=>k b u q
 slot:=λb u q _ _ _=>⟨u.slots,k b u q⟩
 free:=λb u q n _=>by rw[bF (Hd (ue (dc q) hp))];exact n
 there:=λb u q _=>⟨u,k b u q⟩
 ng:=λb xs q=>by rw[bF (bB q hn)];exact q
 Af:=λb u xs q=>by rw[bF (bB q hn)];exact q
 lg:=λb ps q=>⟨#[],by rw[bF (bB q hn),q];simp⟩
def Un.write(mu:yg (H x))(he:e=x\/H e=some (.own x))(k:∀b u,b≠e->h.get? b=some u->h'.get? b=some u)(xr:∃u,h'.get? e=some u):Un fs ex H (Ua H x o) h h':=by
 have hx:∀b,H b=none->b≠x:=λb n z=>by subst z;rw[n]at mu;exact mu
 have hb:∀b,H b=none->b≠e:=λb n z=>by
  subst z;rcases he with r|r
  .exact hx b n r
  .rw[n]at r;cases r
 have hm:∀b u,H b=some u->¬ yg (some u)->b≠x:=λb u q nm z=>by subst z;rw[q]at mu;exact nm mu
 refine⟨λb u q n _ _=>k b u (hb b n) q,λb u q n _ _=>⟨u.slots,k b u (hb b n) q⟩,λb u q n _=>by rw[bF (hx b n)];exact n,λb u q _=>?_,
  λb xs q=>by rw[bF (hm b _ q λz=>z)];exact q,λb u xs q=>by rw[bF (hm b _ q λz=>z)];exact q,λb ps q=>⟨#[],by rw[bF (hm b _ q λz=>z),q];simp⟩⟩
 by_cases hbe:b=e
 .subst hbe;exact xr
 .exact⟨u,k b u hbe q⟩
end
def IA(h:Heap)(H:Hp):List Addr:=(List.range h.objs.size).filter λa=>(H a).isSome
def Nk(h:Heap)(H:Hp):Heap:=PySem.W.hideAll h (IA h H)
def A7(h:Heap)(H:Hp):(Nk h H).objs.size=h.objs.size:=PySem.W.hideAll_size _ _
def g9{h:Heap}{H:Hp}{b:Addr}{o:Obj}(e:h.get? b=some o)(n:H b=none):(Nk h H).get? b=some o:=
 PySem.W.hideAll_get _ e λhm=>by
  have q:(H b).isSome=true:=(je.mp hm).2;rw[n]at q;simp at q
def R'{h:Heap}{H:Hp}{b:Addr}{o:Obj}(e:(Nk h H).get? b=some o):h.get? b=some o/\H b=none:=by
 have e':h.get? b=some o:=PySem.W.of_hideAll (IA h H) e;refine⟨e',?_⟩;cases q:H b with
 |none=>rfl
 |some x=>
  have hm:b∈IA h H:=je.mpr ⟨Qc.mpr (dc e'),by simp[q]⟩
  have z:(Nk h H).get? b=none:=PySem.W.hideAll_none (IA h H) hm;rw[z]at e;cases e
def U'(g h:Heap)(L:Addr):List (Addr×Obj):=(List.range h.objs.size).filterMap λa=>if a=L\/(g.get? a).isSome=true then none else (h.get? a).map λo=>(a,o)
def rest(g h:Heap)(L d:Addr):List (Addr×Obj):=(U' g h L).filter λp=>decide (p.1≠d)
end L2
namespace L2
open PySem PySem.Spec PyProof.Rows
structure Mod(K:PySem.W.Frag)(mg:Str->Option Value)(base:Heap):Prop where
 Sv:K.In base
 glob:base.Ns mainGlobals mg
 blt:∃mb,base.Ns builtinsNs mb/\∀x:Str,x≠"__name__"->mb x=bootBuiltins x
 nolimit:base.NoLimit
structure Cx where
 prog:Program
 w:World
 K:PySem.W.Frag
 mg:Str->Option Value
 base:Heap
 A:Around
 N:List Str
 ua:Shared
 za:Hp
 env:Env
 outer:List Env
 stack:List Env
 ex:List Addr
 fn:Str->Bool
 calm:Bool
 pn:List (Addr×Obj)
 xe:Value->Shared->Prop
def bi(l:List Env):List Addr:=l.filterMap (·.frame)
abbrev Cx.fs(X:Cx):List Addr:=bi X.outer
def Sf(sc:Scope)(x:Str):Prop:=sc.names.lookup x=some .local\/sc.names.lookup x=some .cell\/sc.names.lookup x=some .free
def Loc(sc:Scope)(x:Str):Prop:=sc.names.lookup x=some .local\/sc.names.lookup x=some .cell
def Look(env:Env)(h:Heap)(m:Str->Option Value)(x:Str)(u:Value):Prop:=
 (env.kindOf x=some .local/\m x=some u)\/((env.kindOf x=some .cell\/env.kindOf x=some .free)/\∃c,env.cells.lookup x=some c/\h.IsCell c (some u))
structure Cx.Ok(X:Cx):Prop where
 mod:Mod X.K X.mg X.base
 kind:X.env.scope.kind=.function
 glob:X.env.globals=mainGlobals
 blt:X.env.builtins=builtinsNs
 above:X.ua.heap.objs.size<=X.env.locals
 inj:∀x y c,X.env.cells.lookup x=some c->X.env.cells.lookup y=some c->x=y
 has:∀x,(X.env.kindOf x=some .cell\/X.env.kindOf x=some .free)->∃c,X.env.cells.lookup x=some c
 Ku:∀x c,X.fn x=true->X.env.cells.lookup x=some c->X.ua.heap.objs.size<=c
 hd:X.calm=true->X.A.handled=none
 frames:X.A.frames=some X.stack
 EA:X.stack=X.outer\/(X.stack=X.env::X.outer/\X.env.frame=some X.env.locals)
 Rz:∀b∈X.ex,b≠X.env.locals/\∀x c,X.env.cells.lookup x=some c->c≠b
 bs:∀b o,X.base.get? b=some o->X.ua.heap.get? b=some o/\X.za b=none
 El:X.base.objs.size<=X.ua.heap.objs.size
 zj:∀b o,X.base.get? b=some o->b∉X.ex
 cj:∀b∈X.ex,b∉X.fs
 Me:X.ua.heap.FunFrames X.base X.outer
 Ao:∀b∈X.fs,X.za b=none
structure xa(X:Cx)(aa:List (Addr×Obj))(σ:List (Option V))(H:Hp)(s:Shared):Prop where
 ok:X.Ok
 os:s.os=X.ua.os
 bare:AllBare s.gens
 base:Un X.fs X.ex X.za H X.ua.heap s.heap
 loc:∃m,s.heap.Ns X.env.locals m/\∀(i:Nat)(x:Str)(v:V),X.N[i]?=some x->σ[i]?=some (some v)->Sf X.env.scope x->∃u,RelV v u/\Look X.env s.heap m x u
 cell:∀x c,X.env.cells.lookup x=some c->∃v,s.heap.IsCell c v
 free:H X.env.locals=none
 Td:∀x c,X.env.cells.lookup x=some c->H c=none
 pin:∀p∈X.pn++aa,s.heap.get? p.1=some p.2/\H p.1=none/\p.1≠X.env.locals/\p.1∉X.fs/\∀v,p.2.data≠.cell v
 Ra:Od X.prog X.w H s.heap
 len:σ.length=X.N.length
section
variable{X:Cx}{aa:List (Addr×Obj)}{σ:List (Option V)}{H H':Hp}{s:Shared}{h':Heap}
def Cx.Ok.BJ(ok:X.Ok){b:Addr}{o:Obj}(e:X.base.get? b=some o):b∉X.fs:=λhb=>by
 have:=(ok.Me.mem hb).1;rw[e]at this;cases this
theorem xa.bs(I:xa X aa σ H s):∀b o,X.base.get? b=some o->s.heap.get? b=some o/\H b=none:=λb o e=>
 ⟨I.base.keep b o (I.ok.bs b o e).1 (I.ok.bs b o e).2 (I.ok.BJ e) (I.ok.zj b o e),I.base.free b o (I.ok.bs b o e).1 (I.ok.bs b o e).2 (I.ok.zj b o e)⟩
def xa.bk(I:xa X aa σ H s):∀b o,X.base.get? b=some o->s.heap.get? b=some o:=λb o e=>(I.bs b o e).1
theorem xa.mod(I:xa X aa σ H s):Mod X.K X.mg X.base:=I.ok.mod
def xa.Nf(I:xa X aa σ H s):X.K.In s.heap:=I.ok.mod.Sv.keeps I.bk
theorem xa.lt(I:xa X aa σ H s):X.env.locals<s.heap.objs.size:=let ⟨_,hn,_⟩:=I.loc;hn.lt
def xa.sz(I:xa X aa σ H s):X.ua.heap.objs.size<=s.heap.objs.size:=Zd I.ok.above (Bu I.lt)
def xa.CJ(I:xa X aa σ H s){a:Addr}(h:s.heap.objs.size<=a):a∉X.fs:=λhb=>by
 obtain⟨_,o,ho,_⟩:=I.ok.Me.mem hb;exact absurd (ue (dc ho) (Zd I.sz h)) (Cg _)
def xa.xo(I:xa X aa σ H s):∀x c,X.env.cells.lookup x=some c->c≠X.env.locals:=λx c e z=>by
 obtain⟨v,o,ho,hd⟩:=I.cell x c e;obtain⟨m,⟨o',es,ep,nj,fi,_⟩,_⟩:=I.loc;rw[z,nj]at ho;cases ho;rw[fi]at hd;cases hd
theorem xa.Me(I:xa X aa σ H s):s.heap.FunFrames X.base X.outer:=by
 have all:∀(l:List Env),(∀b∈bi l,b∈X.fs)->X.ua.heap.FunFrames X.base l->s.heap.FunFrames X.base l:=by
  intro l
  induction l with
  |nil=>intro _ _;trivial
  |cons env r ih=>
   intro hs hl;obtain⟨hk,⟨L,o,hf,hn,ho,hd⟩,hr⟩:=hl;have hL:L∈X.fs:=hs L (by unfold bi;rw[pz,hf];exact xb)
   obtain⟨sl,e⟩:=I.base.slot L o ho (I.ok.Ao L hL) hL λz=>I.ok.cj L z hL
   exact⟨hk,⟨L,_,hf,hn,e,hd⟩,ih (λb hb=>hs b (by unfold bi;rw[pz,hf];exact Bb _ hb)) hr⟩
 exact all X.outer (λ_ hb=>hb) I.ok.Me
theorem xa.stack(I:xa X aa σ H s):s.heap.FunFrames X.base X.stack:=by
 rcases I.ok.EA with e|⟨e,hf⟩
 .rw[e];exact I.Me
 .rw[e];obtain⟨m,hn,_⟩:=I.loc;refine .cons (by rw[I.ok.kind];decide) hf hn ?_ I.Me
  exact Heap.get?_none_of_le (Zd I.ok.El I.ok.above)
def xa.rh(I:xa X aa σ H s):∀b∈bi X.stack,b∈X.env.locals::X.fs:=λb hb=>by
 rcases I.ok.EA with e|⟨e,hf⟩
 .rw[e]at hb;exact Bb _ hb
 .rw[e]at hb;unfold bi at hb;rw[pz,hf]at hb;exact hb
def xa.Nh(I:xa X aa σ H s):∀b∈bi X.stack,H b=none:=λb hb=>by
 rcases Nb.mp (I.rh b hb) with e|hb
 .rw[e];exact I.free
 .obtain⟨_,o,ho,_⟩:=I.ok.Me.mem hb;exact I.base.free b o ho (I.ok.Ao b hb) λz=>I.ok.cj b z hb
def xa.step{g':Array GenState}{t':Nat}{d':Drawn}{ch:List Addr}(I:xa X aa σ H s)
  (Vm:∀b∈ch,(b∈X.ex\/X.ua.heap.objs.size<=b)/\b≠X.env.locals/\(∀x c,X.env.cells.lookup x=some c->c≠b)/\∀p∈X.pn++aa,p.1≠b)
  (keep:∀b o,b≠X.env.locals->b∉X.fs->b∉ch->s.heap.get? b=some o->H b=none->h'.get? b=some o)
  (slot:∀b o,b≠X.env.locals->b∈X.fs->b∉ch->s.heap.get? b=some o->H b=none->∃sl,h'.get? b=some {o with slots:=sl}) (free:∀b o,b∉ch->s.heap.get? b=some o->H b=none->H' b=none)
  (there:∀b o,b∉ch->s.heap.get? b=some o->∃o',h'.get? b=some o')
  (ng:∀b xs,H b=some (.tup xs)->H' b=some (.tup xs)) (Af:∀b o u,H b=some (.ci o u)->H' b=some (.ci o u)) (lg:∀b ps,H b=some (.xn ps)->∃more,H' b=some (.xn (ps++more)))
  (ns:∀m,s.heap.Ns X.env.locals m->h'.Ns X.env.locals m) (Ra:Od X.prog X.w H' h') (hg:AllBare g') :
  xa X aa σ H' {s with heap:=h',gens:=g',drawn:=d',toks:=t'}:=by
 have N1:∀b o,X.ua.heap.get? b=some o->b≠X.env.locals:=λb o e=>Hd (ue (dc e) I.ok.above)
 have yA:∀b o,X.ua.heap.get? b=some o->b∉X.ex->b∉ch:=λb o e hx hb=>by
  rcases (Vm b hb).1 with z|z
  .exact hx z
  .exact absurd (ue (dc e) z) (Cg _)
 have cellK:∀x c,X.env.cells.lookup x=some c->∀v,s.heap.IsCell c v->h'.IsCell c v:=λx c e v ⟨o,ho,hd⟩=>by
  have Uv:c∉ch:=λz=>(Vm c z).2.2.1 x c e rfl
  by_cases hc:c∈X.fs
  .obtain⟨sl,q⟩:=slot c o (I.xo x c e) hc Uv ho (I.Td x c e);exact⟨_,q,hd⟩
  .exact⟨o,keep c o (I.xo x c e) hc Uv ho (I.Td x c e),hd⟩
 refine⟨I.ok,I.os,hg,⟨λb o e n hb hx=>?_,λb o e n hb hx=>?_,λb o e n hx=>?_,λb o e hx=>?_,λb xs e=>ng b xs (I.base.ng b xs e),λb o xs e=>Af b o xs (I.base.Af b o xs e),λb ps e=>?_⟩,?_,λx c e=>?_,?_,λx c e=>?_,λp hp=>?_,Ra,I.len⟩
 .exact keep b o (N1 b o e) hb (yA b o e hx) (I.base.keep b o e n hb hx) (I.base.free b o e n hx)
 .obtain⟨sl,e1⟩:=I.base.slot b o e n hb hx;obtain⟨sl',e2⟩:=slot b _ (N1 b o e) hb (yA b o e hx) e1 (I.base.free b o e n hx);exact⟨sl',e2⟩
 .obtain⟨o',e1⟩:=I.base.there b o e hx;exact free b o' (yA b o e hx) e1 (I.base.free b o e n hx)
 .obtain⟨o',e1⟩:=I.base.there b o e hx;exact there b o' (yA b o e hx) e1
 .obtain⟨m1,e1⟩:=I.base.lg b ps e;obtain⟨m2,e2⟩:=lg b _ e1;exact⟨m1++m2,by rw[e2,Array.append_assoc]⟩
 .obtain⟨m,hn,hl⟩:=I.loc;refine⟨m,ns m hn,λi x v e1 e2 e3=>?_⟩
  obtain⟨u,r,l⟩:=hl i x v e1 e2 e3;refine⟨u,r,?_⟩;rcases l with l|⟨k,c,e,z⟩
  .exact .inl l
  .exact .inr ⟨k,c,e,cellK x c e _ z⟩
 .obtain⟨v,z⟩:=I.cell x c e;exact⟨v,cellK x c e v z⟩
 .obtain⟨m,⟨o,_,_,ho,_⟩,_⟩:=I.loc;exact free _ o (λz=>(Vm _ z).2.1 rfl) ho I.free
 .obtain⟨v,o,ho,hd⟩:=I.cell x c e;exact free c o (λz=>(Vm c z).2.2.1 x c e rfl) ho (I.Td x c e)
 .obtain⟨e,n,ne,nf,d⟩:=I.pin p hp;have Uv:p.1∉ch:=λz=>(Vm p.1 z).2.2.2 p hp rfl
  exact⟨keep p.1 p.2 ne nf Uv e n,free p.1 p.2 Uv e n,ne,nf,d⟩
def xa.un{t':Nat}(I:xa X aa σ H s)(u:Un X.fs [] H H' s.heap h')(Ra:Od X.prog X.w H' h'):xa X aa σ H' {s with heap:=h',toks:=t'}:=by
 obtain⟨m,⟨o,es,ep,ho,r⟩,_⟩:=id I.loc;obtain⟨sl,hL⟩:=u.any ho I.free (by simp)
 exact I.step (g':=s.gens) (d':=s.drawn) (ch:=[]) (λ_ z=>nomatch z) (λb o _ hb _ e n=>u.keep b o e n hb (by simp)) (λb o _ hb _ e n=>u.slot b o e n hb (by simp)) (λb o _ e n=>u.free b o e n (by simp)) (λb o _ e=>u.there b o e (by simp)) u.ng u.Af u.lg (λm' hm=>by
  obtain⟨o',Md,Tu,nj,r'⟩:=hm;rw[ho]at nj;cases nj;exact⟨_,Md,Tu,hL,r'⟩) Ra I.bare
def xa.call{g':Array GenState}{t':Nat}{d':Drawn}{ch:List Addr}(I:xa X aa σ H s)(u:Un (bi X.stack) ch H H' s.heap h')(Ra:Od X.prog X.w H' h')(hg:AllBare g')
  (Vm:∀b∈ch,(b∈X.ex\/X.ua.heap.objs.size<=b)/\b≠X.env.locals/\(∀x c,X.env.cells.lookup x=some c->c≠b)/\∀p∈X.pn++aa,p.1≠b) :
  xa X aa σ H' {s with heap:=h',gens:=g',drawn:=d',toks:=t'}:=by
 obtain⟨m,⟨o,es,ep,ho,r⟩,_⟩:=id I.loc;obtain⟨sl,hL⟩:=u.any ho I.free λz=>(Vm _ z).2.1 rfl
 exact I.step (ch:=ch) Vm (λb o hL hb hc e n=>u.keep b o e n (λz=>(Nb.mp (I.rh b z)).elim hL hb) hc) (λb o _ _ hc e n=>u.any e n hc) (λb o hc e n=>u.free b o e n hc) (λb o hc e=>u.there b o e hc) u.ng u.Af u.lg (λm' hm=>by
  obtain⟨o',Md,Tu,nj,r'⟩:=hm;rw[ho]at nj;cases nj;exact⟨_,Md,Tu,hL,r'⟩) Ra hg
def xa.turned{t':Nat}{it:Addr}(I:xa X aa σ H s)(k:∀b o,b≠it->s.heap.get? b=some o->h'.get? b=some o)(hn:H it=none)(hL:it≠X.env.locals)
  (h1:it∈X.ex\/X.ua.heap.objs.size<=it) (h2:∀x c,X.env.cells.lookup x=some c->c≠it) (h3:∀p∈X.pn++aa,p.1≠it):xa X aa σ H {s with heap:=h',toks:=t'}:=by
 have O1:∀b u,H b=some u->b≠it:=λb u e z=>by rw[z,hn]at e;cases e
 refine I.step (g':=s.gens) (d':=s.drawn) (ch:=[it]) (λb hb=>?_) (λb o _ _ hc e _=>k b o (λz=>hc (by simp[z])) e) (λb o _ _ hc e _=>⟨o.slots,k b o (λz=>hc (by simp[z])) e⟩) (λ_ _ _ _ n=>n)
  (λb o hc e=>⟨o,k b o (λz=>hc (by simp[z])) e⟩) (λ_ _ e=>e) (λ_ _ _ e=>e) (λb ps e=>⟨#[],by rw[e];simp⟩) (λm hm=>?_) (λb u e=>?_) I.bare
 .have e:b=it:=by simpa using hb
  subst e;exact⟨h1,hL,h2,h3⟩
 .obtain⟨o,es,ep,ho,r⟩:=hm;exact⟨o,es,ep,k _ o (tf hL) ho,r⟩
 .refine(I.Ra b u e).Ae (λc v hc q=>k c v ?_ q) (λ_ q=>q) λ_ _ q=>q
  rcases hc with z|z
  .rw[z];exact O1 b u e
  .exact O1 c _ z
def xa.tok(I:xa X aa σ H s)(t:Nat):xa X aa σ H {s with toks:=t}:=I.un (h':=s.heap) (t':=t) Un.refl I.Ra
theorem xa.kept{t':Nat}(I:xa X aa σ H s)(k:∀b u,s.heap.get? b=some u->h'.get? b=some u):xa X aa σ H {s with heap:=h',toks:=t'}:=I.un (Un.kept k) (I.Ra.kept k)
theorem xa.laid{a:Addr}{o:HO}{t':Nat}(I:xa X aa σ H s)(k:∀b u,s.heap.get? b=some u->h'.get? b=some u)(hp:s.heap.objs.size<=a)(new:mK X.prog X.w (Ua H a o) h' a o) :
  xa X aa σ (Ua H a o) {s with heap:=h',toks:=t'}:=I.un (Un.laid k hp (I.Ra.fresh hp)) (I.Ra.laid k hp new)
theorem xa.write{x e:Addr}{o:HO}{t':Nat}(I:xa X aa σ H s)(mu:yg (H x))(he:e=x\/H e=some (.own x))(k:∀b u,b≠e->s.heap.get? b=some u->h'.get? b=some u)(xr:∃u,h'.get? e=some u)
  (new:mK X.prog X.w (Ua H x o) h' x o):xa X aa σ (Ua H x o) {s with heap:=h',toks:=t'}:=I.un (Un.write mu he k xr) (I.Ra.write mu he k xr new)
def xa.Kh{mn:List (Addr×Obj)}(I:xa X aa σ H s)(h:∀p∈mn,s.heap.get? p.1=some p.2/\H p.1=none/\p.1≠X.env.locals/\p.1∉X.fs/\∀v,p.2.data≠.cell v):xa X mn σ H s:=
 ⟨I.ok,I.os,I.bare,I.base,I.loc,I.cell,I.free,I.Td,λp hp=>(Ed.mp hp).elim (λz=>I.pin p (Dd _ z)) (h p),I.Ra,I.len⟩
def IQ{N:List Str}(hN:N.Nodup){i j:Nat}{x:Str}(a:N[i]?=some x)(b:N[j]?=some x):i=j:=by
 obtain⟨h1,e1⟩:=Kd.mp a;obtain⟨h2,e2⟩:=Kd.mp b;exact(List.getElem_inj hN).mp (e1.trans e2.symm)
def VO{M:Model}{A:Around}{E:Value->Shared->Prop}{i:Nat}{x:Str}{v:V}{u:Value}{Q:Unit->Shared->Prop}(I:xa X aa σ H s)(hN:X.N.Nodup)(hi:X.N[i]?=some x)(hx:Loc X.env.scope x)(r:RelV v u)
  (h:∀s',xa X aa (σ.set i (some v)) H s'->(∃a,Heap.SameBut a s.heap s'.heap/\(a=X.env.locals\/X.env.cells.lookup x=some a))->Q () s') (hf:X.fn x=true\/X.env.scope.names.lookup x=some .local:=by first|exact .inl rfl|exact .inr rfl|assumption):wpAny M A (storeName X.env x u) Q E s:=by
 obtain⟨m,hn,hl⟩:=id I.loc;have WH:(X.env.scope.kind == .class||(X.env.scope.kind == .module&&X.env.locals !=X.env.globals))=false:=by rw[I.ok.kind];rfl
 have yv:i<σ.length:=by rw[I.len];exact(Kd.mp hi).1
 have xo:=I.xo;have tracked:∀{a:Addr}{h':Heap},(∃o,s.heap.get? a=some o/\H a=none)->Heap.SameBut a s.heap h'->Od X.prog X.w H h':=λ{a h'} ha hs b ob e=>by
  obtain⟨_,_,Jg⟩:=ha;refine(I.Ra b ob e).Ae (λc w' hc q=>(hs.2 c ?_).trans q) (λ_ q=>q) λ_ _ q=>q
  rintro rfl;rcases hc with rfl|hc
  .rw[Jg]at e;cases e
  .rw[Jg]at hc;cases hc
 rcases hx with hk|hk
 .refine wpAny_storeName_local hk hn (λh' AI hs=>?_) WH
  obtain⟨oL,_,_,hoL,_⟩:=id hn;refine h _ ⟨I.ok,I.os,I.bare,⟨λb o e n hb hx=>?_,λb o e n hb hx=>?_,I.base.free,λb o e hx=>?_,I.base.ng,I.base.Af,I.base.lg⟩,⟨_,AI,λj y v' e1 e2 e3=>?_⟩,λy c e=>?_,I.free,I.Td,λp hp=>?_,tracked ⟨oL,hoL,I.free⟩ hs,by simpa using I.len⟩ ⟨_,hs,.inl rfl⟩
  .exact(hs.2 b (Hd (ue (dc e) I.ok.above))).trans (I.base.keep b o e n hb hx)
  .obtain⟨sl,e1⟩:=I.base.slot b o e n hb hx;exact⟨sl,(hs.2 b (Hd (ue (dc e) I.ok.above))).trans e1⟩
  .obtain⟨o',e1⟩:=I.base.there b o e hx;exact⟨o',(hs.2 b (Hd (ue (dc e) I.ok.above))).trans e1⟩
  .by_cases hj:j=i
   .subst hj;rw[hi]at e1;cases e1;rw[fu yv]at e2;cases e2;exact⟨u,r,.inl ⟨hk,by simp⟩⟩
   .rw[kl (tf hj)]at e2;obtain⟨u',r',q⟩:=hl j y v' e1 e2 e3;refine⟨u',r',?_⟩;rcases q with ⟨k,e⟩|⟨k,c,e,z⟩
    .refine .inl ⟨k,?_⟩;have:y≠x:=λe=>hj (IQ hN e1 (e ▸ hi))
     simp[this,e]
    .exact .inr ⟨k,c,e,z.sameBut hs (xo y c e)⟩
  .obtain⟨w',z⟩:=I.cell y c e;exact⟨w',z.sameBut hs (xo y c e)⟩
  .obtain⟨e,n,ne,nf,d⟩:=I.pin p hp;exact⟨(hs.2 p.1 ne).trans e,n,ne,nf,d⟩
 .have Lo:X.fn x=true:=by
   rcases hf with z|z
   .exact z
   .rw[z]at hk;cases hk
  obtain⟨c,hc⟩:=I.ok.has x (.inl hk);obtain⟨w',z⟩:=I.cell x c hc;refine wpAny_storeName_cell I.ok.kind hk hc z (λh' Gg hs=>?_)
  obtain⟨oc,O0,DI⟩:=id z;refine h {s with heap:=h'} ⟨I.ok,I.os,I.bare,⟨λb o e n hb hx=>?_,λb o e n hb hx=>?_,I.base.free,λb o e hx=>?_,I.base.ng,I.base.Af,I.base.lg⟩,⟨m,hn.sameBut hs (tf (xo x c hc)),λj y v' e1 e2 e3=>?_⟩,λy c' e=>?_,I.free,I.Td,λp hp=>?_,tracked ⟨oc,O0,I.Td x c hc⟩ hs,by simpa using I.len⟩ ⟨c,hs,.inr hc⟩
  .exact(hs.2 b (Hd (ue (dc e) (I.ok.Ku x c Lo hc)))).trans (I.base.keep b o e n hb hx)
  .obtain⟨sl,e1⟩:=I.base.slot b o e n hb hx;exact⟨sl,(hs.2 b (Hd (ue (dc e) (I.ok.Ku x c Lo hc)))).trans e1⟩
  .obtain⟨o',e1⟩:=I.base.there b o e hx;exact⟨o',(hs.2 b (Hd (ue (dc e) (I.ok.Ku x c Lo hc)))).trans e1⟩
  .by_cases hj:j=i
   .subst hj;rw[hi]at e1;cases e1;rw[fu yv]at e2;cases e2;exact⟨u,r,.inr ⟨.inl hk,c,hc,Gg⟩⟩
   .rw[kl (tf hj)]at e2;obtain⟨u',r',q⟩:=hl j y v' e1 e2 e3;refine⟨u',r',?_⟩;rcases q with q|⟨k,c',e,z'⟩
    .exact .inl q
    .refine .inr ⟨k,c',e,z'.sameBut hs ?_⟩;rintro rfl;exact hj (IQ hN e1 (I.ok.inj _ _ _ e hc ▸ hi))
  .by_cases Xz:c'=c
   .subst Xz;exact⟨_,Gg⟩
   .obtain⟨w2,z2⟩:=I.cell y c' e;exact⟨w2,z2.sameBut hs Xz⟩
  .obtain⟨e,n,ne,nf,d⟩:=I.pin p hp;refine⟨(hs.2 p.1 ?_).trans e,n,ne,nf,d⟩;intro q;rw[q,O0]at e;have q':oc=p.2:=Zi e;exact d w' (by rw[<-q'];exact DI)
def Fd{M:Model}{A:Around}{E:Value->Shared->Prop}{i:Nat}{x:Str}{v:V}{u:Value}{Q:Unit->Shared->Prop}(I:xa X aa σ H s)(hN:X.N.Nodup)(hi:X.N[i]?=some x)(hx:Loc X.env.scope x)(r:RelV v u)
  (h:∀s',xa X aa (σ.set i (some v)) H s'->Q () s') (hf:X.fn x=true\/X.env.scope.names.lookup x=some .local:=by first|exact .inl rfl|exact .inr rfl|assumption):wpAny M A (storeName X.env x u) Q E s:=
 VO I hN hi hx r (λs' I' _=>h s' I') hf
end
abbrev XK:=Value->Option Addr->Hp->Prop
abbrev St:=List (Option V)
abbrev VK:=V->Hp->Prop
abbrev TE:=St->Hp->VK->Prop
abbrev TT:=St->Hp->(Bool->Hp->Prop)->Prop
abbrev TA:=St->Hp->(List V->Hp->Prop)->Prop
structure Ends where
 nx:St->Hp->Prop
 rt:VK
 bk:St->Hp->Prop:=λ_ _=>False
 ct:St->Hp->Prop:=λ_ _=>False
abbrev TS:=Ends->St->Hp->Prop
def EP(X:Cx)(aa:List (Addr×Obj))(σ:St)(Q:VK)(u:Value)(s':Shared):Prop:=∃v H',xa X aa σ H' s'/\RelV v u/\Q v H'
def TP(X:Cx)(aa:List (Addr×Obj))(σ:St)(Q:Bool->Hp->Prop)(b:Bool)(s':Shared):Prop:=∃H',xa X aa σ H' s'/\Q b H'
def AP(X:Cx)(aa:List (Addr×Obj))(σ:St)(Q:List V->Hp->Prop)(us:List Value)(s':Shared):Prop:=∃vs H',xa X aa σ H' s'/\Ea vs us/\Q vs H'
def SP(X:Cx)(aa:List (Addr×Obj))(D:Ends)(f:Flow)(s':Shared):Prop:=
 match f with
 |.next=>∃jb H',xa X aa jb H' s'/\D.nx jb H'
 |.brk=>∃jb H',xa X aa jb H' s'/\D.bk jb H'
 |.cont=>∃jb H',xa X aa jb H' s'/\D.ct jb H'
 |.ret u=>∃v jb H',xa X aa jb H' s'/\RelV v u/\D.rt v H'
def PE(X:Cx)(e:Expr)(t:TE):Prop:=
 ∀(aa:List (Addr×Obj)) (s:Shared) (σ:St) (H:Hp) (Q:VK),xa X aa σ H s->t σ H Q->wpAny (model X.prog X.w) X.A (eval e X.env) (EP X aa σ Q) X.xe s
def PT(X:Cx)(e:Expr)(t:TT):Prop:=
 ∀(aa:List (Addr×Obj)) (s:Shared) (σ:St) (H:Hp) (Q:Bool->Hp->Prop),xa X aa σ H s->t σ H Q->wpAny (model X.prog X.w) X.A (isTrue e X.env (eval e X.env)) (TP X aa σ Q) X.xe s
def PW(X:Cx)(e:Expr)(t:TT):Prop:=
 ∀(whole:Sem Value) (aa:List (Addr×Obj)) (s:Shared) (σ:St) (H:Hp) (Q:Bool->Hp->Prop),xa X aa σ H s->t σ H Q->wpAny (model X.prog X.w) X.A (isTrue e X.env whole) (TP X aa σ Q) X.xe s
def PW.pt{X:Cx}{e:Expr}{t:TT}(h:PW X e t):PT X e t:=h _
def PA(X:Cx)(es:List Expr)(t:TA):Prop:=
 ∀(pos:Pos) (aa:List (Addr×Obj)) (s:Shared) (σ:St) (H:Hp) (Q:List V->Hp->Prop),xa X aa σ H s->t σ H Q->wpAny (model X.prog X.w) X.A (spliced (backTo pos (starEach es X.env))) (AP X aa σ Q) X.xe s
def PS(X:Cx)(st:Stmt)(t:TS):Prop:=
 ∀(aa:List (Addr×Obj)) (s:Shared) (σ:St) (H:Hp) (D:Ends),xa X aa σ H s->t D σ H->wpAny (model X.prog X.w) X.A (exec st X.env) (SP X aa D) X.xe s
def Dc(X:Cx)(st:List Stmt)(t:TS):Prop:=
 ∀(aa:List (Addr×Obj)) (s:Shared) (σ:St) (H:Hp) (D:Ends),xa X aa σ H s->t D σ H->wpAny (model X.prog X.w) X.A (execs st X.env) (SP X aa D) X.xe s
def Ib{α:Type}{t:Sem α}{Q Q':α->Shared->Prop}{M:Model}{A:Around}{E:Value->Shared->Prop}{s:Shared}(h:wpAny M A t Q E s)(hQ:∀a s,Q a s->Q' a s):wpAny M A t Q' E s:=Wh h hQ λ_ _ x=>x
end L2
namespace L2
open PySem PySem.Spec PyProof.Rows
section
variable{X:Cx}
def FX(i:Nat):TE:=λσ H Q=>∃v,σ[i]?=some (some v)/\Q v H
def tC(v:V):TE:=λ_ H Q=>Q v H
def mQ{i:Nat}{x:Str}{pos:Pos}(hN:X.N[i]?=some x)(hv:Sf X.env.scope x)(hd:(x==("__debug__":Str))=false:=by decide)(Ec:(x==("__classdict__":Str))=false:=by decide):PE X (.Name x pos) (FX i):=by
 intro aa s σ H Q I h;obtain⟨v,e,h⟩:=h;obtain⟨m,hn,hl⟩:=I.loc;obtain⟨u,r,l⟩:=hl i x v hN e hv;have fin:EP X aa σ Q u s:=⟨v,H,I,r,h⟩;rcases l with ⟨hk,hm⟩|⟨hk,c,hc,Hg⟩
 .exact wpAny_Name (wpAny_loadName_local I.ok.kind hk hn hm fin) hd
 .rcases hk with hk|hk
  .exact wpAny_Name (wpAny_loadName_cell I.ok.kind hk hc Hg fin) hd
  .exact wpAny_Name (wpAny_loadName_free I.ok.kind hk hc Hg fin Ec) hd
def bFg{i j pos}:PE X (.Constant (.int i) j pos) (tC (.int i)):=λ_ _ _ H _ I h=>wpAny_Constant_int ⟨.int i,H,I.tok _,⟨_,rfl⟩,h⟩
def bJ8{b j pos}:PE X (.Constant (.bool b) j pos) (tC (.bl b)):=λ_ _ _ H _ I h=>Constant_bool ⟨.bl b,H,I,rfl,h⟩
def bFh{j pos}:PE X (.Constant .none j pos) (tC .Gb):=λ_ _ _ H _ I h=>Constant_none ⟨.Gb,H,I,rfl,h⟩
def bFi{x j pos}:PE X (.Constant (.str x) j pos) (tC (.str x)):=λ_ _ _ H _ I h=>Calls.Constant_str ⟨.str x,H,I.tok _,⟨_,rfl⟩,h⟩
def Gl(X:Cx)(x:Str):Prop:=X.env.kindOf x=some .globalImplicit
def CD{E:Value->Shared->Prop}{aa:List (Addr×Obj)}{s:Shared}{σ:St}{H:Hp}{x:Str}{u:Value}{pos:Pos}{Q:Value->Shared->Prop}(I:xa X aa σ H s)(hg:Gl X x)(hm:X.mg x=some u)(h:Q u s)
  (hd:(x==("__debug__":Str))=false:=by decide):wpAny (model X.prog X.w) X.A (eval (.Name x pos) X.env) Q E s:=
 EY I.ok.kind hg (Calls.loadGlobal_global (by rw[I.ok.glob];exact I.mod.glob.keeps I.bk) hm h) hd
def Mp{E:Value->Shared->Prop}{aa:List (Addr×Obj)}{s:Shared}{σ:St}{H:Hp}{x:Str}{u:Value}{pos:Pos}{Q:Value->Shared->Prop}(I:xa X aa σ H s)(hg:Gl X x)(hm:X.mg x=none)(hv:bootBuiltins x=some u)(h:Q u s)
  (hn:x≠"__name__":=by decide) (hd:(x==("__debug__":Str))=false:=by decide):wpAny (model X.prog X.w) X.A (eval (.Name x pos) X.env) Q E s:=by
 obtain⟨mb,h1,h2⟩:=I.mod.blt;exact EY I.ok.kind hg (Calls.loadGlobal_builtin (by rw[I.ok.glob];exact I.mod.glob.keeps I.bk) hm (by rw[I.ok.blt];exact h1.keeps I.bk) ((h2 x hn).trans hv) h) hd
def vS{x:Str}{v:V}{u:Value}{pos:Pos}(hg:Gl X x)(hm:X.mg x=some u)(r:RelV v u)(hd:(x==("__debug__":Str))=false:=by decide):PE X (.Name x pos) (tC v):=
 λ_ _ _ H _ I h=>CD I hg hm ⟨v,H,I,r,h⟩ hd
def V'{x:Str}{v:V}{u:Value}{pos:Pos}(hg:Gl X x)(hm:X.mg x=none)(hv:bootBuiltins x=some u)(r:RelV v u)(hn:x≠"__name__":=by decide)(hd:(x==("__debug__":Str))=false:=by decide):PE X (.Name x pos) (tC v):=
 λ_ _ _ H _ I h=>Mp I hg hm hv ⟨v,H,I,r,h⟩ hn hd
variable{a b:Expr}{ta tb:TE}{pos:Pos}
def tB(t:TE):TT:=λσ H Q=>t σ H λx H1=>∃c,x=.bl c/\Q c H1
def bFj{e:Expr}{t:TE}(h:PE X e t)(he:∀whole,isTrue e X.env whole=(do let v <- whole;standAt e.pos;holding [v] (truthy v)):=by intro _;rfl):PT X e (tB t):=by
 intro aa s σ H Q I hw;refine isTrue_plain (Ib (h aa s σ H _ I hw) λv s1 ⟨x,H1,I1,r1,q1⟩=>?_) (he _)
 obtain⟨d,rfl,q⟩:=q1;cases r1;exact Nq ⟨H1,I1,q⟩
variable{tA FA:TT}{rest:List Expr}
def bM5(t u:TT):TT:=λσ H Q=>t σ H λc H1=>if c=true then u σ H1 Q else Q false H1
def tOr(t u:TT):TT:=λσ H Q=>t σ H λc H1=>if c=true then Q true H1 else u σ H1 Q
def bM6(t:TT):TT:=λσ H Q=>t σ H λc H1=>Q (!c) H1
def Z'(ha:PT X a tA):PW X (.BoolOp .And [a] pos) tA:=by
 intro wh aa s σ H Q I h;refine isTrue_and (Ib (ha aa s σ H Q I h) λc s1 e=>?_)
 cases c with
 |true=>exact isTrue_and_nil e
 |false=>exact e
def bFk(ha:PT X a tA):PW X (.BoolOp .Or [a] pos) tA:=by
 intro wh aa s σ H Q I h;refine isTrue_or (Ib (ha aa s σ H Q I h) λc s1 e=>?_)
 cases c with
 |false=>exact isTrue_or_nil e
 |true=>exact e
def bFl(ha:PT X a tA)(hb:PW X (.BoolOp .And (b::rest) pos) FA):PW X (.BoolOp .And (a::b::rest) pos) (bM5 tA FA):=by
 intro wh aa s σ H Q I h;refine isTrue_and (Ib (ha aa s σ H _ I h) λc s1 ⟨H1,I1,q1⟩=>?_)
 cases c with
 |true=>exact hb wh aa s1 σ H1 Q I1 q1
 |false=>exact⟨H1,I1,q1⟩
def bJ9(ha:PT X a tA)(hb:PW X (.BoolOp .Or (b::rest) pos) FA):PW X (.BoolOp .Or (a::b::rest) pos) (tOr tA FA):=by
 intro wh aa s σ H Q I h;refine isTrue_or (Ib (ha aa s σ H _ I h) λc s1 ⟨H1,I1,q1⟩=>?_)
 cases c with
 |true=>exact⟨H1,I1,q1⟩
 |false=>exact hb wh aa s1 σ H1 Q I1 q1
def bFm(ha:PT X a tA):PT X (.UnaryOp .Not a pos) (bM6 tA):=by
 intro aa s σ H Q I h;exact isTrue_not (ha aa s σ H (λc H1=>Q (!c) H1) I h)
def bJa(ta tb:TE):TE:=λσ H Q=>ta σ H λx H1=>∃c,x=.bl c/\if c=true then tb σ H1 Q else Q (.bl false) H1
def bM7(ta tb:TE):TE:=λσ H Q=>ta σ H λx H1=>∃c,x=.bl c/\if c=true then Q (.bl true) H1 else tb σ H1 Q
def bJb(ta:TE):TE:=λσ H Q=>ta σ H λx H1=>∃c,x=.bl c/\Q (.bl (!c)) H1
def TU{op}{t:TE}(h:PE X a t):PE X (.BoolOp op [a] pos) t:=λaa s σ H Q I hw=>BoolOp_one (h aa s σ H Q I hw)
def bFn(ha:PE X a ta)(hb:PE X (.BoolOp .And (b::rest) pos) tb):PE X (.BoolOp .And (a::b::rest) pos) (bJa ta tb):=by
 intro aa s σ H Q I h;refine BoolOp_and (Ib (ha aa s σ H _ I h) λv s1 ⟨x,H1,I1,r1,q1⟩=>?_)
 obtain⟨c,rfl,q1⟩:=q1;cases r1;refine Nq ?_
 cases c with
 |true=>exact hb aa s1 σ H1 Q I1 q1
 |false=>exact⟨.bl false,H1,I1,rfl,q1⟩
def bJc(ha:PE X a ta)(hb:PE X (.BoolOp .Or (b::rest) pos) tb):PE X (.BoolOp .Or (a::b::rest) pos) (bM7 ta tb):=by
 intro aa s σ H Q I h;refine BoolOp_or (Ib (ha aa s σ H _ I h) λv s1 ⟨x,H1,I1,r1,q1⟩=>?_)
 obtain⟨c,rfl,q1⟩:=q1;cases r1;refine Nq ?_
 cases c with
 |false=>exact hb aa s1 σ H1 Q I1 q1
 |true=>exact⟨.bl true,H1,I1,rfl,q1⟩
def bFo(ha:PE X a ta):PE X (.UnaryOp .Not a pos) (bJb ta):=by
 intro aa s σ H Q I h;refine UnaryOp_ (Ib (ha aa s σ H _ I h) λv s1 ⟨x,H1,I1,r1,q1⟩=>?_)
 obtain⟨c,rfl,q1⟩:=q1;cases r1;exact not_of (Nq ⟨.bl (!c),H1,I1,rfl,q1⟩)
def tIf(t:TT)(ta tb:TE):TE:=λσ H Q=>t σ H λc H1=>if c=true then ta σ H1 Q else tb σ H1 Q
def i9{c:Expr}(hc:PT X c tA)(ha:PE X a ta)(hb:PE X b tb):PE X (.IfExp c a b pos) (tIf tA ta tb):=by
 intro aa s σ H Q I h;refine wpAny_IfExp (Ib (hc aa s σ H _ I h) λd s1 ⟨H1,I1,q1⟩=>?_)
 cases d with
 |true=>exact ha aa s1 σ H1 Q I1 q1
 |false=>exact hb aa s1 σ H1 Q I1 q1
end
end L2
namespace L2
open PySem PySem.Spec PyProof.Rows
def jc(K:PySem.W.Frag)(H:Hp)(a:Addr)(xs:List V):Prop:=
 Rd H a (.lst xs)\/
  ∃(o:Obj)(Ga:Array Value)(n:Nat),K.lookup a=some o/\o.cls=.type "list"/\o.dict=none/\o.data=.seq Ga n/\Ga.size<=sizeLine/\Ea xs Ga.toList
def af(K:PySem.W.Frag)(H:Hp)(a:Addr)(xs:List V):Prop:=
 Rd H a (.tup xs)\/
  ∃(o:Obj)(Ga:Array Value)(n:Nat),K.lookup a=some o/\o.cls=.type "tuple"/\o.data=.seq Ga n/\Ga.size<=sizeLine/\Ea xs Ga.toList
def bM8:Value->Option V
 |.none=>some .Gb
 |.bool b=>some (.bl b)
 |.int i _=>some (.int i)
 |.str x _=>some (.str x)
 |.bytes b _=>some (.Nz b)
 |.float b _=>some (.qr b)
 |.ref a=>some (.ref a)
 |.type n=>some (.ty n)
 |_=>none
def RelV.abs{x:V}{u:Value}(r:RelV x u):bM8 u=some x:=by
 cases x with
 |Gb=>cases r;rfl
 |bl _=>cases r;rfl
 |int _=>obtain⟨t,rfl⟩:=r;rfl
 |str _=>obtain⟨t,rfl⟩:=r;rfl
 |Nz _=>obtain⟨t,rfl⟩:=r;rfl
 |qr _=>obtain⟨t,rfl⟩:=r;rfl
 |ref _=>cases r;rfl
 |ty _=>cases r;rfl
def RelV.inj{x y:V}{u:Value}(r:RelV x u)(q:RelV y u):x=y:=Zi (r.abs.symm.trans q.abs)
theorem Ea.inj:∀{xs ys:List V}{us:List Value},Ea xs us->Ea ys us->xs=ys
 |_,_,_,.nil,.nil=>rfl
 |_,_,_,.cons r t,.cons r' t'=>by rw[r.inj r',Ea.inj t t']
section
variable{X:Cx}{aa:List (Addr×Obj)}{σ:St}{H:Hp}{s:Shared}{a:Addr}{xs ys:List V}
def jc.of{K:PySem.W.Frag}(h:H a=some (.lst xs)):jc K H a xs:=.inl (.inl h)
def af.of{K:PySem.W.Frag}(h:H a=some (.tup xs)):af K H a xs:=.inl (.inl h)
def xa.list(I:xa X aa σ H s)(h:jc X.K H a xs):∃Ga:List Value,Ea xs Ga/\PlainL s.heap a Ga.toArray/\xs.length<=sizeLine:=by
 rcases h with h|⟨o,Ga,n,hk,hc,hd,hs,hz,r⟩
 .obtain⟨z,Ga,n,r,e⟩:=h.ok I.Ra;exact⟨Ga,r,⟨_,n,e,rfl,rfl,rfl⟩,z⟩
 .refine⟨Ga.toList,r,⟨o,n,I.Nf a o hk,hc,hd,by simpa using hs⟩,?_⟩
  have e:=r.length;simp only[Array.length_toList]at e;omega
def xa.tuple(I:xa X aa σ H s)(h:af X.K H a xs):∃Ga:List Value,Ea xs Ga/\IsTup s.heap a Ga.toArray/\xs.length<=sizeLine:=by
 rcases h with h|⟨o,Ga,n,hk,hc,hs,hz,r⟩
 .obtain⟨z,Ga,r,p⟩:=h.ok I.Ra;exact⟨Ga,r,p,z⟩
 .refine⟨Ga.toList,r,⟨o,I.Nf a o hk,hc,n,by simpa using hs⟩,?_⟩
  have e:=r.length;simp only[Array.length_toList]at e;omega
def xa.qf(I:xa X aa σ H s)(h:jc X.K H a xs)(h':jc X.K H a ys):xs=ys:=by
 obtain⟨Ga,r,⟨o,n,e,_,_,d⟩,_⟩:=I.list h;obtain⟨its',r',⟨o',n',e',_,_,d'⟩,_⟩:=I.list h';rw[e]at e';cases e';rw[d]at d';injection d' with d1 _
 have:Ga=its':=by simpa using congrArg Array.toList d1
 subst this;exact r.inj r'
def xa.Pf(I:xa X aa σ H s)(h:af X.K H a xs)(h':af X.K H a ys):xs=ys:=by
 obtain⟨Ga,r,⟨o,e,_,n,d⟩,_⟩:=I.tuple h;obtain⟨its',r',⟨o',e',_,n',d'⟩,_⟩:=I.tuple h';rw[e]at e';cases e';rw[d]at d';injection d' with d1 _
 have:Ga=its':=by simpa using congrArg Array.toList d1
 subst this;exact r.inj r'
end
abbrev Cx.Cf(X:Cx)(E:Value->Shared->Prop):Cx:={X with xe:=E}
abbrev Cx.qk(X:Cx):Cx:=X.Cf λ_ _=>False
theorem Cx.Ok.Cf{X:Cx}(ok:X.Ok)(E:Value->Shared->Prop):(X.Cf E).Ok:=
 ⟨ok.mod,ok.kind,ok.glob,ok.blt,ok.above,ok.inj,ok.has,ok.Ku,ok.hd,ok.frames,ok.EA,ok.Rz,ok.bs,ok.El,ok.zj,ok.cj,ok.Me,ok.Ao⟩
def Cx.Ok.Gd{X:Cx}{E:Value->Shared->Prop}(ok:(X.Cf E).Ok):X.Ok:=
 ⟨ok.mod,ok.kind,ok.glob,ok.blt,ok.above,ok.inj,ok.has,ok.Ku,ok.hd,ok.frames,ok.EA,ok.Rz,ok.bs,ok.El,ok.zj,ok.cj,ok.Me,ok.Ao⟩
section
variable{X:Cx}{aa:List (Addr×Obj)}{σ:St}{H:Hp}{s:Shared}{E:Value->Shared->Prop}
theorem xa.Cf(I:xa X aa σ H s)(E:Value->Shared->Prop):xa (X.Cf E) aa σ H s:=⟨I.ok.Cf E,I.os,I.bare,I.base,I.loc,I.cell,I.free,I.Td,I.pin,I.Ra,I.len⟩
theorem xa.Gd(I:xa (X.Cf E) aa σ H s):xa X aa σ H s:=⟨I.ok.Gd,I.os,I.bare,I.base,I.loc,I.cell,I.free,I.Td,I.pin,I.Ra,I.len⟩
theorem SP.Gd{D:Ends}{f:Flow}{s':Shared}(h:SP (X.Cf E) aa D f s'):SP X aa D f s':=by
 cases f with
 |next=>obtain⟨jb,H',I,q⟩:=h;exact⟨jb,H',I.Gd,q⟩
 |brk=>obtain⟨jb,H',I,q⟩:=h;exact⟨jb,H',I.Gd,q⟩
 |cont=>obtain⟨jb,H',I,q⟩:=h;exact⟨jb,H',I.Gd,q⟩
 |ret u=>obtain⟨v,jb,H',I,r,q⟩:=h;exact⟨v,jb,H',I.Gd,r,q⟩
theorem Dc.qk{st:List Stmt}{t:TS}(h:Dc X.qk st t):Dc X st t:=λaa s σ H D I hw=>
 Wh (h aa s σ H D (I.Cf _) hw) (λ_ _ q=>q.Gd) λ_ _ z=>False.elim z
end
section
variable{X:Cx}{st:Stmt}{rest:List Stmt}{t u:TS}{e:Expr}{te:TE}{pos:Pos}
def bJd:TS:=λD σ H=>D.nx σ H
def bM9(t u:TS):TS:=λD σ H=>t {D with nx:=u D} σ H
def γ:Dc X [] bJd:=λ_ _ σ H _ I h=>Ez ⟨σ,H,I,h⟩
def zT(h1:PS X st t)(h2:Dc X rest u):Dc X (st::rest) (bM9 t u):=by
 intro aa s σ H D I h;refine wpAny_execs_cons (Ib (h1 aa s σ H {D with nx:=u D} I h) λf s1 q=>?_)
 cases f with
 |next=>
  obtain⟨jb,H',I',q⟩:=q;exact h2 aa s1 jb H' D I' q
 |ret v=>exact q
 |brk=>exact q
 |cont=>exact q
def wx(h1:PS X st t):Dc X [st] t:=by
 intro aa s σ H D I h;refine wpAny_execs_cons (Ib (h1 aa s σ H D I h) λf s1 q=>?_)
 cases f with
 |next=>exact Ez q
 |ret v=>exact q
 |brk=>exact q
 |cont=>exact q
def xa.quiet{aa:List (Addr×Obj)}{σ:St}{H:Hp}{s:Shared}(I:xa X aa σ H s):interactive X.env=false:=by simp[interactive,I.ok.kind]
def bJe(te:TE):TS:=λD σ H=>te σ H λ_ H1=>D.nx σ H1
def Dp(he:PE X e te)(hs:swapsWith e none pos.line X.env=pure false:=by rfl):PS X (.Expr e pos) (bJe te):=by
 intro aa s σ H D I h;exact wpAny_Expr_any (Ib (he aa s σ H _ I h) λv s1 ⟨x,H1,I1,r1,q1⟩=>⟨σ,H1,I1,q1⟩) I.quiet hs
def bMa(te:TE):TS:=λD σ H=>te σ H D.rt
def mE(he:PE X e te):PS X (.Return (some e) pos) (bMa te):=by
 intro aa s σ H D I h;exact wpAny_Return_some (Ib (he aa s σ H _ I h) λv s1 ⟨x,H1,I1,r1,q1⟩=>⟨x,σ,H1,I1,r1,q1⟩)
def bMb(c:TT)(t u:TS):TS:=λD σ H=>c σ H λb H1=>if b=true then t D σ H1 else u D σ H1
def bJf{c:Expr}{a b:List Stmt}{tc:TT}(hc:PT X c tc)(ha:Dc X a t)(hb:Dc X b u):PS X (.If c a b pos) (bMb tc t u):=by
 intro aa s σ H D I h;refine wpAny_If (Ib (hc aa s σ H _ I h) λd s1 ⟨H1,I1,q1⟩=>?_)
 cases d with
 |true=>exact ha aa s1 σ H1 D I1 q1
 |false=>exact hb aa s1 σ H1 D I1 q1
end
abbrev TG:=V->St->Hp->(St->Hp->Prop)->Prop
abbrev Li:=List V->St->Hp->(St->Hp->Prop)->Prop
def PG(X:Cx)(target:Expr)(t:TG):Prop:=
 ∀(aa:List (Addr×Obj)) (s:Shared) (σ:St) (H:Hp) (v:V) (u:Value) (Q:St->Hp->Prop),xa X aa σ H s->RelV v u->t v σ H Q->
  wpAny (model X.prog X.w) X.A (assign target X.env u) (λ_ s'=>∃jb H',xa X aa jb H' s'/\Q jb H') X.xe s
def Ki(X:Cx)(ts:List Expr)(t:Li):Prop:=
 ∀(aa:List (Addr×Obj)) (s:Shared) (σ:St) (H:Hp) (vs:List V) (us:List Value) (Q:St->Hp->Prop),xa X aa σ H s->Ea vs us->t vs σ H Q->
  wpAny (model X.prog X.w) X.A (assignInOrder ((assignEach ts X.env).map (·.2)) us) (λ_ s'=>∃jb H',xa X aa jb H' s'/\Q jb H') X.xe s
abbrev JF:=V->V->V->Hp->(Hp->Prop)->Prop
def LF(X:Cx)(t:JF):Prop:=
 ∀(aa:List (Addr×Obj)) (s:Shared) (σ:St) (H:Hp) (o i v:V) (ov iv u:Value) (Q:Hp->Prop),xa X aa σ H s->RelV o ov->RelV i iv->RelV v u->t o i v H Q->
  wpAny (model X.prog X.w) X.A (setItem ov iv u) (λ_ s'=>∃H',xa X aa σ H' s'/\Q H') X.xe s
section
variable{X:Cx}{pos:Pos}
def NW(i:Nat):TG:=λv σ H Q=>Q (σ.set i (some v)) H
def xS{i:Nat}{x:Str}(hN:X.N.Nodup)(hi:X.N[i]?=some x)(hx:Loc X.env.scope x)(hf:X.fn x=true\/X.env.scope.names.lookup x=some .local:=by first|exact .inl rfl|exact .inr rfl|assumption):PG X (.Name x pos) (NW i):=by
 intro aa s σ H v u Q I r h;exact wpAny_assign_Name (Fd I hN hi hx r (λs' I'=>⟨_,H,I',h⟩) hf)
def bMc:Li:=λvs σ H Q=>vs=[]/\Q σ H
def bJg(t:TG)(u:Li):Li:=λvs σ H Q=>∃v r,vs=v::r/\t v σ H λjb H'=>u r jb H' Q
def δ:Ki X [] bMc:=by
 intro aa s σ H vs us Q I r h;obtain⟨e,h⟩:=h;subst e;cases r;exact assignInOrder_nil ⟨σ,H,I,h⟩
def j9{e:Expr}{es:List Expr}{t:TG}{u:Li}(h1:PG X e t)(h2:Ki X es u)
  (hs:(assignEach (e::es) X.env).map (·.2)=assign e X.env::(assignEach es X.env).map (·.2):=by rfl):Ki X (e::es) (bJg t u):=by
 intro aa s σ H vs us Q I r h;obtain⟨v,vr,e1,h⟩:=h;subst e1;cases r with
 |cons r rr=>
  rw[hs];refine assignInOrder_cons (Ib (h1 aa s σ H _ _ _ I r h) λ_ s1 ⟨Cp,H1,I1,q1⟩=>?_)
  exact h2 aa s1 Cp H1 _ _ Q I1 rr q1
def bMd(K:PySem.W.Frag)(n:Nat)(t:Li):TG:=λv σ H Q=>∃a xs,v=.ref a/\af K H a xs/\xs.length=n/\t xs σ H Q
def bFr{es:List Expr}{k:Nat}{t:Li}{n:Nat}(hc:X.calm=true)(h:Ki X es t)
  (hn:(assignEach es X.env).length=n:=by rfl) (wg:(assignEach es X.env).findIdx? (·.1)=none:=by rfl):PG X (.Tuple es k pos) (bMd X.K n t):=by
 intro aa s σ H v u Q I r hw;obtain⟨a,xs,e1,hq,hl,hw⟩:=hw;subst e1;cases r;obtain⟨Ga,rv,ht,hz⟩:=I.tuple hq;refine assign_Tuple_tuple (I.ok.hd hc) ht (by simp[hn,<-hl,rv.length]) wg λh' hx=>?_
 have I1:xa X aa σ H {s with heap:=h'}:=I.kept (t':=s.toks) λb o e=>hx b o (Hd (dc e)) e
 exact h aa _ σ H xs _ Q I1 (by simpa using rv) hw
def bMe(to ti:TE)(t:JF):TG:=λv σ H Q=>to σ H λo H1=>ti σ H1 λi H2=>t o i v H2 λH3=>Q σ H3
def Rx{o i:Expr}{to ti:TE}{t:JF}(ho:PE X o to)(hi:PE X i ti)(hs:LF X t)
  (ha:∀v,assign (.Subscript o i pos) X.env v=(do
   let ov <- holding [v] (eval o X.env)
   let iv <- holding [v,ov] (eval i X.env)
   standAt pos
   holding [v,ov,iv] (setItem ov iv v)
   release [v,ov,iv] []):=by intro _;rfl):PG X (.Subscript o i pos) (bMe to ti t):=by
 intro aa s σ H v u Q I r h;rw[ha];refine Ca (Ah (Ib (ho aa s σ H _ I h) λov s1 ⟨x,H1,I1,r1,q1⟩=>?_))
 refine Ca (Ah (Ib (hi aa s1 σ H1 _ I1 q1) λiv s2 ⟨y,H2,I2,r2,q2⟩=>?_))
 refine Ca (Gm (Ca (Ah (Ib (hs aa s2 σ H2 x y v ov iv u _ I2 r1 r2 r q2) λ_ s3 ⟨H3,I3,q3⟩=>?_))))
 exact wpAny_release ⟨σ,H3,I3,q3⟩
def GX(te:TE)(g:TG):TS:=λD σ H=>te σ H λx H1=>g x σ H1 D.nx
def Qs{tg e:Expr}{te:TE}{g:TG}(he:PE X e te)(hg:PG X tg g)(hs:swapsWithSole [tg] e pos.line X.env=pure false:=by rfl)(hw:swappedStores [tg] e X.env=pure none:=by rfl)
  (h1:(assignEach [tg] X.env).map (·.2)=[assign tg X.env]:=by rfl):PS X (.Assign [tg] e pos) (GX te g):=by
 intro aa s σ H D I h;refine wpAny_Assign_stores (Ib (he aa s σ H _ I h) λv s1 ⟨x,H1,I1,r1,q1⟩=>?_) hs hw
 rw[h1];exact Ib (hg aa s1 σ H1 x v _ I1 r1 q1) λ_ s2 q=>q
def Gn{i:Nat}{x:Str}{e:Expr}{te:TE}{pos':Pos}(hN:X.N.Nodup)(hi:X.N[i]?=some x)(hx:Loc X.env.scope x)(he:PE X e te)(hs:swapsWith e (some (.Name x pos')) pos.line X.env=pure false:=by rfl)(hf:X.fn x=true\/X.env.scope.names.lookup x=some .local:=by first|exact .inl rfl|exact .inr rfl|assumption) :
  PS X (.Assign [.Name x pos'] e pos) (GX te (NW i)):=by
 intro aa s σ H D I h;refine wpAny_Assign_Name (Ib (he aa s σ H _ I h) λv s1 ⟨y,H1,I1,r1,q1⟩=>?_) hs
 exact Fd I1 hN hi hx r1 (λs2 I2=>⟨_,H1,I2,q1⟩) hf
end
section
variable{X:Cx}{pos:Pos}
def bFs(c:TT)(tb:TS):TS:=λD σ H=>∃W:Nat->St->Hp->Prop,(∃m,W m σ H)/\∀m σ H,W m σ H->
 c σ H λb H1=>if b=true then ∃N:St->Hp->Prop,(∀jb H',N jb H'->∃m',m' < m/\W m' jb H')/\tb {D with nx:=N,ct:=N,bk:=D.nx} σ H1 else D.nx σ H1
def n9{c:Expr}{body:List Stmt}{tc:TT}{tb:TS}(hp:PassesOwn (model X.prog X.w) X.A X.env X.xe)(hc:PT X c tc)(hb:Dc X body tb):PS X (.While c body [] pos) (bFs tc tb):=by
 intro aa s σ H D I h;obtain⟨W,⟨m0,w0⟩,turn⟩:=h;refine wpAny_While (codeAny_whileLoop (λn s'=>∃jb H',xa X aa jb H' s'/\W n jb H') ?_ m0 ⟨σ,H,I,w0⟩)
 rintro n s1 ⟨Cp,H1,I1,w1⟩;refine oo hp (Ib (hc aa s1 Cp H1 _ I1 (turn n Cp H1 w1)) λb s2 ⟨H2,I2,q2⟩=>?_)
 cases b with
 |true=>
  obtain⟨N,hN,q2⟩:=q2;rw[Na rfl];refine oo hp (Ib (hb aa s2 Cp H2 _ I2 q2) λf s3 q3=>?_)
  cases f with
  |next=>
   obtain⟨Ii,H3,I3,n3⟩:=q3;obtain⟨m',hm,w3⟩:=hN Ii H3 n3;exact⟨m',hm,Ii,H3,I3,w3⟩
  |cont=>
   obtain⟨Ii,H3,I3,n3⟩:=q3;obtain⟨m',hm,w3⟩:=hN Ii H3 n3;exact⟨m',hm,Ii,H3,I3,w3⟩
  |brk=>exact q3
  |ret v=>exact q3
 |false=>
  rw[La Ef];exact Ez ⟨Cp,H2,I2,q2⟩
end
structure It where
 go:Nat->Hp->Prop
 Qr:Nat->Hp->V->Hp->Prop
 stop:Nat->Hp->Prop
def vh(X:Cx)(aa:List (Addr×Obj))(H:Hp)(b:Addr):Prop:=
 H b=none/\b≠X.env.locals/\b∉X.fs/\(b∈X.ex\/X.ua.heap.objs.size<=b)/\(∀x c,X.env.cells.lookup x=some c->c≠b)/\∀p∈X.pn++aa,p.1≠b
def xa.dj{X:Cx}{aa:List (Addr×Obj)}{σ:St}{H H':Hp}{s:Shared}{b:Addr}(I:xa X aa σ H s)(hb:s.heap.objs.size<=b)(hn:H' b=none):vh X aa H' b:=by
 refine⟨hn,Kz (ue I.lt hb),I.CJ hb,.inr (Zd I.sz hb),λx c e z=>?_,λp hp z=>?_⟩
 .obtain⟨v,q⟩:=I.cell x c e;exact absurd (ue q.lt (by rw[z];exact hb)) (Cg _)
 .exact absurd (ue (dc (I.pin p hp).1) (by rw[z];exact hb)) (Cg _)
structure Turn(P:Program)(w:World)(K:PySem.W.Frag)(tg:Expr)(J:It)(fp:List Addr)(it:Addr)(tn:Nat->Heap->Prop):Prop where
 mem:it∈fp
 obj:∀i h,tn i h->∀b∈fp,∃o,h.get? b=some o/\∀v,o.data≠.cell v
 keep:∀i h h',tn i h->(∀b∈fp,∀o,h.get? b=some o->h'.get? b=some o)->tn i h'
 item:∀(X:Cx),X.prog=P->X.w=w->X.K=K->X.calm=true->∀(i:Nat) (aa:List (Addr×Obj)) (s:Shared) (σ:St) (H:Hp) (E:Value->Shared->Prop),xa X aa σ H s->(∀b∈fp,vh X aa H b)->tn i s.heap->J.go i H->
  wpAny (model P w) X.A (pyNext (.ref it)) (λr s1=>∃u,r=some u/\
   wpAny (model P w) X.A (letOwnedTupleGo tg (.ref it) u) (λ_ s2=>∃x H',xa X aa σ H' s2/\RelV x u/\J.Qr i H x H'/\tn (i+1) s2.heap/\∀b∈fp,H' b=none) E s1) E s
 done:∀(X:Cx),X.prog=P->X.w=w->X.K=K->X.calm=true->∀(i:Nat) (aa:List (Addr×Obj)) (s:Shared) (σ:St) (H:Hp) (E:Value->Shared->Prop),xa X aa σ H s->(∀b∈fp,vh X aa H b)->tn i s.heap->J.stop i H->
  wpAny (model P w) X.A (pyNext (.ref it)) (λr s1=>r=none/\xa X aa σ H s1) E s
 self:∀(A:Around)(i:Nat)(s:Shared)(Q:Value->Shared->Prop)(E:Value->Shared->Prop),tn i s.heap->Q (.ref it) s->wpAny (model P w) A (pyIter (.ref it)) Q E s
abbrev TI:=St->Hp->(It->Hp->Prop)->Prop
def UK(X:Cx)(aa:List (Addr×Obj))(σ:St)(tg:Expr)(R:It->Hp->Prop)(VI:Value)(s2:Shared):Prop:=
 ∃(it:Addr)(fp:List Addr)(tn:Nat->Heap->Prop)(J:It)(H':Hp),VI=.ref it/\xa X aa σ H' s2/\Turn X.prog X.w X.K tg J fp it tn/\tn 0 s2.heap/\(∀b∈fp,vh X aa H' b)/\R J H'
def PI(X:Cx)(tg iter:Expr)(wi:TI):Prop:=
 ∀(aa:List (Addr×Obj)) (s:Shared) (σ:St) (H:Hp) (R:It->Hp->Prop),xa X aa σ H s->wi σ H R->
  wpAny (model X.prog X.w) X.A (eval iter X.env) (λv s1=>wpAny (model X.prog X.w) X.A (pyIter v) (UK X aa σ tg R) X.xe s1) X.xe s
def uy{M:Model}{A:Around}{E:Value->Shared->Prop}{s:Shared}{tg:Expr}{it:Addr}{u:Value}{o:Obj}{n:String}{vs:Array Value}{Q:Unit->Shared->Prop}(ho:s.heap.get? it=some o)(hc:o.cls=.type n)(hd:o.data=.fields vs)
  (hn:["enumerate","zip","dict_itemiterator","dict_reverseitemiterator","odict_iterator","itertools.zip_longest","itertools.pairwise"].contains n=false) (hQ:Q () s):wpAny M A (letOwnedTupleGo tg (.ref it) u) Q E s:=by
 unfold letOwnedTupleGo;cases tg<;>first
  |exact kb hQ
  |(cases u<;>first
    |exact kb hQ
    | (refine Ca (wpAny_load ho ?_)
       rw[hc,hd];show wpAny M A (if (["enumerate","zip","dict_itemiterator","dict_reverseitemiterator","odict_iterator","itertools.zip_longest","itertools.pairwise"].contains n&&vs[0]?==some (rawInt _))=true then _ else _) Q E s
       rw[La (by intro h;rw[hn,Bool.false_and]at h;cases h)]
       exact kb hQ))
def SA(K:PySem.W.Frag)(a:Addr):It:=
 ⟨λi H=>∃xs x,jc K H a xs/\xs[i]?=some x,λi H x H'=>H'=H/\∀xs,jc K H a xs->xs[i]?=some x,λi H=>∃xs,jc K H a xs/\xs.length<=i⟩
def UA(K:PySem.W.Frag)(a:Addr):It:=
 ⟨λi H=>∃xs x,af K H a xs/\xs[i]?=some x,λi H x H'=>H'=H/\∀xs,af K H a xs->xs[i]?=some x,λi H=>∃xs,af K H a xs/\xs.length<=i⟩
def Cw(lo:Int)(n:Nat):It:=⟨λi _=>i<n,λi H x H'=>H'=H/\x=.int (lo+i),λi _=>n<=i⟩
def B7{P:Program}{w:World}{K:PySem.W.Frag}{tg:Expr}(a it:Addr):Turn P w K tg (SA K a) [it] it (λi h=>h.IsListIter it a i) where
 mem:=by simp
 obj:=λi h st b hb=>by
  have e:b=it:=by simpa using hb
  subst e;obtain⟨o,e,c,d⟩:=st;exact⟨o,e,λv z=>by rw[d]at z;cases z⟩
 keep:=λi h h' st k=>st.at λo e=>k it (by simp) o e
 item:=by
  intro X hP hw hK hc i aa s σ H E I hf st hg;subst hP hw hK;obtain⟨xs,x,hq,hx⟩:=hg;obtain⟨Ga,rv,p,hz⟩:=I.list hq;obtain⟨u,hu,ru⟩:=rv.get hx;obtain⟨f0,f1,f2,f3,f4,f5⟩:=hf it (by simp)
  refine wpAny_pyNext_list_item st p.isList (x:=u) (by simpa using hu) λh' st' sb=>?_
  have I1:xa X aa σ H {s with heap:=h'}:=I.turned (t':=s.toks) (λb o hb e=>(sb.2 b hb).trans e) f0 f1 f3 f4 f5
  obtain⟨o,e,c,d⟩:=id st';exact⟨u,rfl,uy (s:={s with heap:=h'}) e c d (by decide) ⟨x,H,I1,ru,⟨rfl,λys hy=>by rw[I.qf hy hq];exact hx⟩,st',λb hb=>(hf b hb).1⟩⟩
 done:=by
  intro X hP hw hK hc i aa s σ H E I hf st hg;subst hP hw hK;obtain⟨xs,hq,hx⟩:=hg;obtain⟨Ga,rv,p,hz⟩:=I.list hq;obtain⟨f0,f1,f2,f3,f4,f5⟩:=hf it (by simp)
  have hl:=rv.length;exact wpAny_pyNext_list_end (I.ok.hd hc) st p.isList (by simp;omega) λh' eb=>⟨rfl,I.turned (t':=s.toks) (λb o hb e=>eb b o hb e) f0 f1 f3 f4 f5⟩
 self:=λ_ _ _ _ _ st h=>wpAny_pyIter_listiter st h
def Y5{P:Program}{w:World}{K:PySem.W.Frag}{tg:Expr}(a it:Addr):Turn P w K tg (UA K a) [it] it (λi h=>h.IsTupleIter it a i) where
 mem:=by simp
 obj:=λi h st b hb=>by
  have e:b=it:=by simpa using hb
  subst e;obtain⟨o,e,c,d⟩:=st;exact⟨o,e,λv z=>by rw[d]at z;cases z⟩
 keep:=λi h h' st k=>st.at λo e=>k it (by simp) o e
 item:=by
  intro X hP hw hK hc i aa s σ H E I hf st hg;subst hP hw hK;obtain⟨xs,x,hq,hx⟩:=hg;obtain⟨Ga,rv,p,hz⟩:=I.tuple hq;obtain⟨u,hu,ru⟩:=rv.get hx;obtain⟨f0,f1,f2,f3,f4,f5⟩:=hf it (by simp)
  refine wpAny_pyNext_tuple_item st (show s.heap.IsTuple a Ga.toArray from p) (x:=u) (by simpa using hu) λh' st' sb=>?_
  have I1:xa X aa σ H {s with heap:=h'}:=I.turned (t':=s.toks) (λb o hb e=>(sb.2 b hb).trans e) f0 f1 f3 f4 f5
  obtain⟨o,e,c,d⟩:=id st';exact⟨u,rfl,uy (s:={s with heap:=h'}) e c d (by decide) ⟨x,H,I1,ru,⟨rfl,λys hy=>by rw[I.Pf hy hq];exact hx⟩,st',λb hb=>(hf b hb).1⟩⟩
 done:=by
  intro X hP hw hK hc i aa s σ H E I hf st hg;subst hP hw hK;obtain⟨xs,hq,hx⟩:=hg;obtain⟨Ga,rv,p,hz⟩:=I.tuple hq;obtain⟨f0,f1,f2,f3,f4,f5⟩:=hf it (by simp)
  have hl:=rv.length;exact wpAny_pyNext_tuple_end (I.ok.hd hc) st (show s.heap.IsTuple a Ga.toArray from p) (by simp;omega) λh' eb=>⟨rfl,I.turned (t':=s.toks) (λb o hb e=>eb b o hb e) f0 f1 f3 f4 f5⟩
 self:=λ_ _ _ _ _ st h=>wpAny_pyIter_tupleiter st h
def Z5{P:Program}{w:World}{K:PySem.W.Frag}{tg:Expr}(it:Addr)(lo:Int)(n:Nat):Turn P w K tg (Cw lo n) [it] it (λi h=>IsRangeIter h it (lo+(i:Nat)*1) ((n:Int)-(i:Nat)) 1) where
 mem:=by simp
 obj:=λi h st b hb=>by
  have e:b=it:=by simpa using hb
  subst e;exact⟨_,st,λv z=>by
   have z':Data.fields _=Data.cell v:=z;cases z'⟩
 keep:=λi h h' st k=>k it (by simp) _ st
 item:=by
  intro X hP hw hK hc i aa s σ H E I hf st hg;subst hP hw hK;obtain⟨f0,f1,f2,f3,f4,f5⟩:=hf it (by simp)
  have W:=Walks.range (prog:=X.prog) (w:=X.w) (I.ok.hd hc) it lo 1 n;refine W.item i s _ _ hg st λv h' tk hv st' kk=>?_
  obtain⟨t,rfl⟩:=hv;have I1:xa X aa σ H {s with heap:=h',toks:=tk}:=I.turned (λb o hb e=>kk b o (by simpa using hb) e) f0 f1 f3 f4 f5
  refine⟨_,rfl,uy (s:={s with heap:=h',toks:=tk}) (n:="range_iterator") st' rfl rfl (by decide) ⟨.int (lo+i),H,I1,⟨t,?_⟩,⟨rfl,rfl⟩,st',λb hb=>(hf b hb).1⟩⟩
  rw[Int.mul_one]
 done:=by
  intro X hP hw hK hc i aa s σ H E I hf st hg;subst hP hw hK;obtain⟨f0,f1,f2,f3,f4,f5⟩:=hf it (by simp)
  exact wpAny_pyNext_range_end (I.ok.hd hc) st (by have:n<=i:=hg;omega) λh' eb=>⟨rfl,I.turned (t':=s.toks) (λb o hb e=>eb b o hb e) f0 f1 f3 f4 f5⟩
 self:=λ_ _ _ _ _ st h=>wpAny_pyIter_rangeiter st h
end L2
namespace L2
open PySem PySem.Spec PyProof.Rows
section
variable{X:Cx}{tg:Expr}
def o9{aa:List (Addr×Obj)}{σ:St}{H:Hp}{s:Shared}{R:It->Hp->Prop}{E:Value->Shared->Prop}{lo hi:Int}{t u v:Tok}{tk:Nat}(I:xa X aa σ H s)(h1 : -(2^62)<=lo)(h2:lo<2^62)(h3 : -(2^62)<=hi)(h4:hi<2^62)
  (q:R (Cw lo (hi-lo).toNat) H):wpAny (model X.prog X.w) X.A (pyIter (.ref s.heap.objs.size)) (UK X aa σ tg R) E {s with heap:=s.heap.push {cls:=.type "range",data:=.fields #[.int lo t,.int hi u,.int 1 v]},toks:=tk}:=by
 refine wpAny_pyIter_range (IsRange.new ..) (small_one h1 h2 h3 h4) ?_
 have I1:xa X aa σ H {s with heap:=s.heap.push {cls:=.type "range",data:=.fields #[.int lo t,.int hi u,.int 1 v]},toks:=tk}:=I.kept λb o e=>Tb _ e
 refine⟨(s.heap.push {cls:=.type "range",data:=.fields #[.int lo t,.int hi u,.int 1 v]}).objs.size,[(s.heap.push {cls:=.type "range",data:=.fields #[.int lo t,.int hi u,.int 1 v]}).objs.size],_,_,H,rfl,
  I1.kept (t':=tk) λb o e=>Tb _ e,Z5 _ lo (hi-lo).toNat,?_,λb hb=>?_,q⟩
 .have e1:lo+((0:Nat):Int)*1=lo:=by simp
  have e2:(((hi-lo).toNat:Nat):Int)-((0:Nat):Int)=Builtin.Range.rangeSize lo hi 1:=by rw[rangeSize_one];split<;>omega
  show IsRangeIter _ _ (lo+((0:Nat):Int)*1) ((((hi-lo).toNat:Nat):Int)-((0:Nat):Int)) 1;rw[e1,e2];exact Pd _ rfl
 .have e:b=(s.heap.push {cls:=.type "range",data:=.fields #[.int lo t,.int hi u,.int 1 v]}).objs.size:=by simpa using hb
  subst e;exact I1.dj (Cb _) (I1.Ra.fresh (Cb _))
def bJi(ta:TA):TI:=λσ H R=>ta σ H λvs H1=>∃j:Int,vs=[.int j]/\-(2^62)<=j/\j<2^62/\R (Cw 0 j.toNat) H1
def C7{a:Expr}{ta:TA}{p pos:Pos}(hg:Gl X "range")(hm:X.mg "range"=none)(ha:PA X [a] ta)(hs:starEach [a] X.env=[(false,eval a X.env)]:=by rfl):PI X tg (.Call (.Name "range" p) [a] [] pos) (bJi ta):=by
 intro aa s σ H R I h;refine Call_ (Mp I hg hm boot_range (Zy (Ib (ha pos aa s σ H _ I h) λus s1 ⟨vs,H1,I1,r1,q1⟩=>?_) hs rfl))
 obtain⟨j,e,q1,q2,q⟩:=q1;subst e;cases r1 with
 |cons r rr=>
  cases rr;obtain⟨t,rfl⟩:=r;exact call_range_1 (o9 I1 (by omega) (by omega) q1 q2 (by simpa using q))
def bMf(wi:TI)(g:TG)(tb:TS):TS:=λD σ H=>wi σ H λJ H1=>∃W:Nat->Nat->St->Hp->Prop,(∃m,W 0 m σ H1)/\∀i m σ H,W i m σ H->
 (J.stop i H/\D.nx σ H)\/(J.go i H/\∃N:St->Hp->Prop,(∀jb H',N jb H'->∃m',m' < m/\W (i+1) m' jb H')/\∀x H',J.Qr i H x H'->g x σ H' λzk H2=>tb {D with nx:=N,ct:=N,bk:=D.nx} zk H2)
def Sx(fp:List Addr)(h:Heap):List (Addr×Obj):=fp.filterMap λb=>(h.get? b).map λo=>(b,o)
def xN{fp:List Addr}{h:Heap}{b:Addr}{o:Obj}(hb:b∈fp)(e:h.get? b=some o):(b,o)∈Sx fp h:=List.mem_filterMap.mpr ⟨b,hb,by rw[e];rfl⟩
def E7{fp:List Addr}{h:Heap}{p:Addr×Obj}(hp:p∈Sx fp h):p.1∈fp/\h.get? p.1=some p.2:=by
 obtain⟨b,hb,e⟩:=List.mem_filterMap.mp hp;cases q:h.get? b with
 |none=>rw[q]at e;cases e
 |some o=>
  rw[q]at e;have e':(b,o)=p:=Zi e;subst e';exact⟨hb,q⟩
def xa.pinned{aa:List (Addr×Obj)}{σ:St}{H:Hp}{s:Shared}{fp:List Addr}(I:xa X aa σ H s)(hf:∀b∈fp,vh X aa H b)(ho:∀b∈fp,∃o,s.heap.get? b=some o/\∀v,o.data≠.cell v):xa X (aa++Sx fp s.heap) σ H s:=
 I.Kh λp hp=>(Ed.mp hp).elim (λz=>I.pin p (Zc _ z)) λz=>by
  obtain⟨hb,e⟩:=E7 z;obtain⟨f0,f1,f2,_⟩:=hf p.1 hb;obtain⟨o,e',d⟩:=ho p.1 hb;rw[e]at e';cases e';exact⟨e,f0,f1,f2,d⟩
def xa.ie{aa pl:List (Addr×Obj)}{σ:St}{H:Hp}{s:Shared}(I:xa X (aa++pl) σ H s):xa X aa σ H s:=I.Kh λp hp=>I.pin p (Zc _ (Dd _ hp))
def UU{iter:Expr}{body:List Stmt}{wi:TI}{g:TG}{tb:TS}{pos:Pos}(hp:PassesOwn (model X.prog X.w) X.A X.env X.xe)(hc:X.calm=true)(hi:PI X tg iter wi)(hg:PG X tg g)(hb:Dc X body tb)
  (hs:∀x,foldedSetIterable iter X.env x=pure x:=by intro _;rfl):PS X (.For tg iter body [] pos) (bMf wi g tb):=by
 intro aa s σ H D I h;refine wpAny_For (Ib (hi aa s σ H _ I h) λv s1 h1=>Ib h1 λVI s2 h2=>?_) hs
 obtain⟨it,fp,tn,J,H2,e,I2,T,fe,f2,W,⟨m0,w0⟩,turn⟩:=h2;subst e;have qh:∀{H':Hp},(∀b∈fp,H' b=none)->∀b∈fp,vh X aa H' b:=λhn b hb=>⟨hn b hb,(f2 b hb).2⟩
 refine codeAny_forLoop_any (λn s'=>∃i jb H',xa X aa jb H' s'/\tn i s'.heap/\(∀b∈fp,H' b=none)/\W i n jb H') ?_ m0 ⟨0,σ,H2,I2,fe,λb hb=>(f2 b hb).1,w0⟩
 rintro n s3 ⟨i,Ii,H3,I3,cw,Vu,w3⟩;rcases turn i n Ii H3 w3 with ⟨stop,qn⟩|⟨go,N,hN,step⟩
 .refine oo hp (Ib (T.done X rfl rfl rfl hc i aa s3 Ii H3 X.xe I3 (qh Vu) cw stop) λr s4 ⟨hr,I4⟩=>?_)
  subst hr;exact Ez ⟨Ii,H3,I4,qn⟩
 .refine oo hp (Ib (T.item X rfl rfl rfl hc i aa s3 Ii H3 X.xe I3 (qh Vu) cw go) λr s4 ⟨u,hr,h4⟩=>?_)
  subst hr;refine oo hp (Ib h4 λ_ s5 ⟨x,H5,I5,r5,y5,st5,fr5⟩=>?_)
  have Rr:=I5.pinned (qh fr5) (T.obj _ _ st5);refine oo hp (Ib (hg _ s5 Ii H5 x u _ Rr r5 (step x H5 y5)) λ_ s6 ⟨σ6,H6,I6,q6⟩=>?_)
  refine oo hp (Ib (hb _ s6 σ6 H6 _ I6 q6) λf s7 q7=>?_)
  have again:∀{Ij:St}{H7:Hp},xa X (aa++Sx fp s5.heap) Ij H7 s7->N Ij H7->∃m,m<n/\∃i jb H',xa X aa jb H' s7/\tn i s7.heap/\(∀b∈fp,H' b=none)/\W i m jb H':=λ{Ij H7} I7 n7=>by
   obtain⟨m',hm,w7⟩:=hN Ij H7 n7;refine⟨m',hm,i+1,Ij,H7,I7.ie,T.keep _ _ _ st5 λb hb o e=>(I7.pin (b,o) (Zc _ (Zc _ (xN hb e)))).1,λb hb=>?_,w7⟩
   obtain⟨o,e,d⟩:=T.obj _ _ st5 b hb;exact(I7.pin (b,o) (Zc _ (Zc _ (xN hb e)))).2.1
  cases f with
  |next=>obtain⟨Ij,H7,I7,n7⟩:=q7;exact again I7 n7
  |cont=>obtain⟨Ij,H7,I7,n7⟩:=q7;exact again I7 n7
  |brk=>obtain⟨Ij,H7,I7,q7⟩:=q7;exact⟨Ij,H7,I7.ie,q7⟩
  |ret v=>obtain⟨x7,Ij,H7,I7,r7,q7⟩:=q7;exact⟨x7,Ij,H7,I7.ie,r7,q7⟩
end
end L2
namespace L2
open PySem PySem.Spec PyProof.Rows
abbrev R2:=V->V->Hp->VK->Prop
def Yc(X:Cx)(f:Value->Value->Sem Value)(r:R2):Prop:=
 ∀(aa:List (Addr×Obj)) (s:Shared) (σ:St) (H:Hp) (x y:V) (v u:Value) (Q:VK),xa X aa σ H s->RelV x v->RelV y u->r x y H Q->
  wpAny (model X.prog X.w) X.A (f v u) (EP X aa σ Q) X.xe s
def XA(X:Cx)(f:Value->Sem Value)(r:V->Hp->VK->Prop):Prop:=
 ∀(aa:List (Addr×Obj)) (s:Shared) (σ:St) (H:Hp) (x:V) (v:Value) (Q:VK),xa X aa σ H s->RelV x v->r x H Q->
  wpAny (model X.prog X.w) X.A (f v) (EP X aa σ Q) X.xe s
def mL(X:Cx)(f:Value)(r:List V->Hp->VK->Prop):Prop:=
 ∀(aa:List (Addr×Obj)) (s:Shared) (σ:St) (H:Hp) (xs:List V) (us:List Value) (Q:VK),xa X aa σ H s->Ea xs us->r xs H Q->
  wpAny (model X.prog X.w) X.A (call f us) (EP X aa σ Q) X.xe s
def gw(r:R2)(ta tb:TE):TE:=λσ H Q=>ta σ H λx H1=>tb σ H1 λy H2=>r x y H2 Q
def tUn(r:V->Hp->VK->Prop)(ta:TE):TE:=λσ H Q=>ta σ H λx H1=>r x H1 Q
def rI(C:Int->Int->Prop)(g:Int->Int->V):R2:=λx y H Q=>∃i j,x=.int i/\y=.int j/\C i j/\Q (g i j) H
def oh(g:Int->Int->V):R2:=λx y H Q=>∃i j,x=.int i/\y=.int j/\Q (g i j) H
def rU(g:Int->V):V->Hp->VK->Prop:=λx H Q=>∃i,x=.int i/\Q (g i) H
section
variable{X:Cx}{a b c:Expr}{ta tb tc:TE}{pos:Pos}
def MF(ha:PE X a ta)(hb:PE X b tb){aa:List (Addr×Obj)}{s:Shared}{σ:St}{H:Hp}{R:V->V->Hp->Prop}(I:xa X aa σ H s)
  (h:ta σ H λx H1=>tb σ H1 λy H2=>R x y H2) {Q:Value->Shared->Prop} {f:Value->Value->Sem Value}
  (hf:∀v u s2 x y H2,xa X aa σ H2 s2->RelV x v->RelV y u->R x y H2->wpAny (model X.prog X.w) X.A (f v u) Q X.xe s2) :
  wpAny (model X.prog X.w) X.A (eval a X.env) (λv Wa=>wpAny (model X.prog X.w) X.A (eval b X.env) (λu Dj=>wpAny (model X.prog X.w) X.A (f v u) Q X.xe Dj) X.xe Wa) X.xe s:=by
 refine Ib (ha aa s σ H _ I h) λv s1 ⟨x,H1,I1,r1,q1⟩=>?_
 refine Ib (hb aa s1 σ H1 _ I1 q1) λu s2 ⟨y,H2,I2,r2,q2⟩=>?_
 exact hf v u s2 x y H2 I2 r1 r2 q2
def QE{op:Operator}{r:R2}(ho:Yc X (binaryOp op) r)(ha:PE X a ta)(hb:PE X b tb):PE X (.BinOp a op b pos) (gw r ta tb):=by
 intro aa s σ H Q I h;exact wpAny_BinOp (MF ha hb I h λv u s2 x y H2 I2 rx ry q=>ho aa s2 σ H2 x y v u Q I2 rx ry q)
def bJj{op:UnaryOp}{r:V->Hp->VK->Prop}(ho:XA X (unaryOp op) r)(ha:PE X a ta):PE X (.UnaryOp op a pos) (tUn r ta):=by
 intro aa s σ H Q I h;exact UnaryOp_ (Ib (ha aa s σ H _ I h) λv s1 ⟨x,H1,I1,r1,q1⟩=>ho aa s1 σ H1 x v Q I1 r1 q1)
def Ir{f:Value->Value->Sem Value}{C:Int->Int->Prop}{g:Int->Int->Int}
  (rule:∀(i j:Int)(t u:Tok)(s:Shared)(Q:Value->Shared->Prop)(E:Value->Shared->Prop),C i j->Q (.int (g i j) s.toks) {s with toks:=s.toks+1}->wpAny (model X.prog X.w) X.A (f (.int i t) (.int j u)) Q E s) :
  Yc X f (rI C λi j=>.int (g i j)):=by
 intro aa s σ H x y v u Q I rx ry h;obtain⟨i,j,rfl,rfl,hc,q⟩:=h;obtain⟨t,rfl⟩:=rx;obtain⟨t',rfl⟩:=ry;exact rule i j t t' s _ _ hc ⟨.int (g i j),H,I.tok _,⟨_,rfl⟩,q⟩
def Ny{f:Value->Value->Sem Value}{g:Int->Int->Int}
  (rule:∀(i j:Int)(t u:Tok)(s:Shared)(Q:Value->Shared->Prop)(E:Value->Shared->Prop),Q (.int (g i j) s.toks) {s with toks:=s.toks+1}->wpAny (model X.prog X.w) X.A (f (.int i t) (.int j u)) Q E s) :
  Yc X f (oh λi j=>.int (g i j)):=by
 intro aa s σ H x y v u Q I rx ry h;obtain⟨i,j,rfl,rfl,q⟩:=h;obtain⟨t,rfl⟩:=rx;obtain⟨t',rfl⟩:=ry;exact rule i j t t' s _ _ ⟨.int (g i j),H,I.tok _,⟨_,rfl⟩,q⟩
def Oy{f:Value->Value->Sem Value}{g:Int->Int->Bool}
  (rule:∀(i j:Int)(t u:Tok)(s:Shared)(Q:Value->Shared->Prop)(E:Value->Shared->Prop),Q (.bool (g i j)) s->wpAny (model X.prog X.w) X.A (f (.int i t) (.int j u)) Q E s) :
  Yc X f (oh λi j=>.bl (g i j)):=by
 intro aa s σ H x y v u Q I rx ry h;obtain⟨i,j,rfl,rfl,q⟩:=h;obtain⟨t,rfl⟩:=rx;obtain⟨t',rfl⟩:=ry;exact rule i j t t' s _ _ ⟨.bl (g i j),H,I,rfl,q⟩
def bMg(i j:Int):Prop:=0<j/\j<1073741824
def HX(i j:Int):Prop:=0<=j/\j<=1000000/\i.natAbs<2^64
def Mt(i j:Int):Prop:=(-(2^64)<i/\i<2^64)\/(-(2^64)<j/\j<2^64)
def Mt.ok{i j:Int}(h:Mt i j):IntMulOk i j:=by
 rcases h with ⟨h1,h2⟩|⟨h1,h2⟩
 .exact .of_left (intBits_le_64 h1 h2)
 .exact .of_right (intBits_le_64 h1 h2)
def b6(k:Nat):(0:Int)<=2^k:=by
 rw[two_pow_cast];exact GG _
def bFu:Yc X (binaryOp .Add) (oh λi j=>.int (i+j)):=Ny λ_ _ _ _ _ _ _ q=>add_int q
def bFv:Yc X (binaryOp .Sub) (oh λi j=>.int (i-j)):=Ny λ_ _ _ _ _ _ _ q=>sub_int q
def bFw:Yc X (binaryOp .Mult) (rI Mt λi j=>.int (i*j)):=Ir λ_ _ _ _ _ _ _ hc q=>mul_int q hc.ok
def ε:Yc X (binaryOp .FloorDiv) (rI bMg λi j=>.int (i/j)):=Ir λi j _ _ _ _ _ hc q=>by
 have h1:(0:Int)<j:=hc.1;have h2:j<1073741824:=hc.2;exact floordiv_int (by omega) (by rw[FY i (by omega)];exact q) (.inl (PyProof.noPylong_small (by omega)))
def bFx:Yc X (binaryOp .Mod) (rI (λ_ j=>0<j) λi j=>.int (i%j)):=Ir λi j _ _ _ _ _ hc q=>by
 have h1:(0:Int)<j:=hc;exact mod_int' (by omega) (by rw[Int.fmod_eq_emod_of_nonneg i (by omega)];exact q)
def bFy:Yc X (binaryOp .Pow) (rI HX λi j=>.int (i^j.toNat)):=Ir λ_ _ _ _ _ _ _ hc q=>pow_int_small hc.1 hc.2.1 hc.2.2 q
def bFz:Yc X (binaryOp .LShift) (rI HX λi j=>.int (i*2^j.toNat)):=Ir λ_ _ _ _ _ _ _ hc q=>lshift_int_small hc.1 hc.2.1 hc.2.2 q
def bG0:Yc X (binaryOp .RShift) (rI (λ_ j=>0<=j) λi j=>.int (i/2^j.toNat)):=Ir λi j _ _ _ _ _ hc q=>
 rshift_int hc (by rw[FY i (b6 _)];exact q)
def bG1:Yc X (binaryOp .BitAnd) (oh λi j=>.int (Builtin.bitAnd i j)):=Ny λ_ _ _ _ _ _ _ q=>and_int q
def bJl:Yc X (binaryOp .BitOr) (oh λi j=>.int (Builtin.bitOr i j)):=Ny λ_ _ _ _ _ _ _ q=>or_int q
def unI{f:Value->Sem Value}{g:Int->Int}
  (rule:∀(i:Int)(t:Tok)(s:Shared)(Q:Value->Shared->Prop)(E:Value->Shared->Prop),Q (.int (g i) s.toks) {s with toks:=s.toks+1}->wpAny (model X.prog X.w) X.A (f (.int i t)) Q E s) :
  XA X f (rU λi=>.int (g i)):=by
 intro aa s σ H x v Q I rx h;obtain⟨i,rfl,q⟩:=h;obtain⟨t,rfl⟩:=rx;exact rule i t s _ _ ⟨.int (g i),H,I.tok _,⟨_,rfl⟩,q⟩
def bG2:XA X (unaryOp .USub) (rU λi=>.int (-i)):=unI λ_ _ _ _ _ q=>neg_int q
end
section
variable{X:Cx}{a b c:Expr}{ta tb tc:TE}{pos:Pos}
def Tx{aa:List (Addr×Obj)}{σ:St}{H:Hp}{s:Shared}{Q:VK}{k k':Bool}(I:xa X aa σ H s)(q:Q (.bl k) H)(e:k=k'):EP X aa σ Q (.bool k') s:=by
 subst e;exact⟨.bl k,H,I,rfl,q⟩
def vy:Yc X (compareOp .Lt) (oh λi j=>.bl (decide (i<j))):=Oy λ_ _ _ _ _ _ _ q=>lt_int q
def bJm:Yc X (compareOp .LtE) (oh λi j=>.bl (decide (i<=j))):=Oy λ_ _ _ _ _ _ _ q=>le_int q
def wt:Yc X (compareOp .Gt) (oh λi j=>.bl (decide (j<i))):=Oy λ_ _ _ _ _ _ _ q=>gt_int q
def wy:Yc X (compareOp .GtE) (oh λi j=>.bl (decide (j<=i))):=Oy λ_ _ _ _ _ _ _ q=>ge_int q
def F7:Yc X (compareOp .In) (λx y H Q=>∃i j,x=.str i/\y=.str j/\Q (.bl (!(Builtin.Str.occurrences j i 0 j.length 1).isEmpty)) H):=by
 intro aa s σ H x y v u Q I rx ry h;obtain⟨i,j,rfl,rfl,q⟩:=h;obtain⟨t,rfl⟩:=rx;obtain⟨t',rfl⟩:=ry;exact in_str (Tx I q rfl)
def bG3:Yc X (compareOp .Is) (λx y H Q=>y=.Gb/\Q (.bl (decide (x=.Gb))) H):=by
 intro aa s σ H x y v u Q I rx ry h;obtain⟨rfl,q⟩:=h;cases ry;refine is_none_gen (Tx I q ?_);cases x<;>first
  |(cases rx;rfl)
  |(obtain⟨t,rfl⟩:=rx;rfl)
def ζ:Yc X (compareOp .IsNot) (λx y H Q=>y=.Gb/\Q (.bl (!decide (x=.Gb))) H):=by
 intro aa s σ H x y v u Q I rx ry h;obtain⟨rfl,q⟩:=h;cases ry;refine isnot_none_gen (Tx I q ?_);cases x<;>first
  |(cases rx;rfl)
  |(obtain⟨t,rfl⟩:=rx;rfl)
def b5:Yc X (compareOp .NotIn) (λx y H Q=>∃i j,x=.str i/\y=.str j/\Q (.bl (!(!(Builtin.Str.occurrences j i 0 j.length 1).isEmpty))) H):=by
 intro aa s σ H x y v u Q I rx ry h;obtain⟨i,j,rfl,rfl,q⟩:=h;obtain⟨t,rfl⟩:=rx;obtain⟨t',rfl⟩:=ry;exact notIn_str (Tx I q rfl)
def Yc.or{f:Value->Value->Sem Value}{r r':R2}(h:Yc X f r)(h':Yc X f r'):Yc X f (λx y H Q=>r x y H Q\/r' x y H Q):=by
 intro aa s σ H x y v u Q I rx ry q;rcases q with q|q
 .exact h aa s σ H x y v u Q I rx ry q
 .exact h' aa s σ H x y v u Q I rx ry q
def cJ(b:Expr){op:CmpOp}(h:op≠.In:=by decide)(h2:op≠.NotIn:=by decide):behindInMarks op b=false:=by
 have e1:(op==CmpOp.In)=false:=by cases op<;>first|rfl|exact absurd rfl h
 have e2:(op==CmpOp.NotIn)=false:=by cases op<;>first|rfl|exact absurd rfl h2
 cases b<;>simp[behindInMarks,e1,e2]
def η{op:CmpOp}{r:R2}(ho:Yc X (compareOp op) r)(ha:PE X a ta)(hb:PE X b tb)(hm:behindInMarks op b=false):PE X (.Compare a [op] [b] pos) (gw r ta tb):=by
 intro aa s σ H Q I h;exact wpAny_Compare1 (MF ha hb I h λv u s2 x y H2 I2 rx ry q=>ho aa s2 σ H2 x y v u Q I2 rx ry q) hm
def bJn(t:TE):TT:=λσ H Q=>t σ H λx H'=>∃k,x=.bl k/\Q k H'
def θ{op:CmpOp}{r:R2}(ho:Yc X (compareOp op) r)(ha:PE X a ta)(hb:PE X b tb)(hm:behindInMarks op b=false):PT X (.Compare a [op] [b] pos) (bJn (gw r ta tb)):=by
 intro aa s σ H Q I h;refine wpAny_isTrue_Compare1 (Ib (ha aa s σ H _ I h) λv s1 ⟨x,H1,I1,r1,q1⟩=>Ib (hb aa s1 σ H1 _ I1 q1) λu s2 ⟨y,H2,I2,r2,q2⟩=>
  Ib (ho aa s2 σ H2 x y v u _ I2 r1 r2 q2) λc s3 ⟨z,H3,I3,r3,k,e,q3⟩=>?_) hm
 subst e;cases r3;exact Nq ⟨H3,I3,q3⟩
def Np:(sizeLine:Nat)<2^63:=by rw[Km];decide
def d6:Yc X (binaryOp .Add) (λx y H Q=>∃i j,x=.str i/\y=.str j/\i.length+j.length<=sizeLine/\Q (.str (i++j)) H):=by
 intro aa s σ H x y v u Q I rx ry h;obtain⟨i,j,rfl,rfl,hz,q⟩:=h;obtain⟨t,rfl⟩:=rx;obtain⟨t',rfl⟩:=ry;exact add_str (λt' tk=>⟨.str (i++j),H,I.tok _,⟨_,rfl⟩,q⟩) hz
def vals1{x:V}{us:List Value}(r:Ea [x] us):∃u,us=[u]/\RelV x u:=by
 cases r with
 |cons r1 r2=>cases r2;exact⟨_,rfl,r1⟩
def vals2{x y:V}{us:List Value}(r:Ea [x,y] us):∃u w',us=[u,w']/\RelV x u/\RelV y w':=by
 cases r with
 |cons r1 r2=>
  cases r2 with
  |cons r3 r4=>cases r4;exact⟨_,_,rfl,r1,r3⟩
def G7(hc:X.calm=true):mL X (.builtin "max") (λxs H Q=>∃i j,xs=[.int i,.int j]/\Q (.int (if j>i then j else i)) H):=by
 intro aa s σ H xs us Q I r h;obtain⟨i,j,rfl,q⟩:=h;obtain⟨u,w',rfl,⟨t,rfl⟩,⟨t',rfl⟩⟩:=vals2 r;refine max_two_ints (I.ok.hd hc) λh' tk k=>⟨_,H,I.kept k,?_,q⟩
 by_cases hj:j>i
 .rw[Na hj,Na hj];exact⟨_,rfl⟩
 .rw[La hj,La hj];exact⟨_,rfl⟩
end
end L2
namespace L2
open PySem PySem.Spec PyProof.Rows
structure ah(h:Heap)(x dx C:Addr)(mA:Str->Option Value):Prop where
 obj:h.get? x=some (PySem.W.instObj C dx)
 ns:h.Ns1 dx mA
 ne:dx≠x
def J7{h:Heap}{dx:Addr}{mA:Str->Option Value}(n:h.Ns1 dx mA):∃od,h.get? dx=some od/\∀name,PySem.W.lookIn name od=some (mA name):=by
 obtain⟨o,es,ep,ho,hd,hk,_,hm⟩:=n;refine⟨o,ho,λname=>?_⟩
 have e:=hm name;unfold nsFind findBy at e;rw[<-Array.find?_toList]at e;unfold PySem.W.lookIn;rw[hd];dsimp only;split
 .rename_i y q;rw[q]at e;exact congrArg some e
 .rename_i q;rw[q]at e;have a:es.toList.any (·.refKey)=false:=by
   rw[tu];intro y hy;obtain⟨z,t,gI⟩:=hk y (Array.mem_toList_iff.mp hy);simp[DictEntry.refKey,gI]
  have a':¬ es.toList.any (·.refKey)=true:=by rw[a];exact Ef
  rw[La a'];exact congrArg some e
def ah.look{h:Heap}{x dx C:Addr}{mA:Str->Option Value}(I:ah h x dx C mA):∃od,PySem.W.InstAt h x (PySem.W.instObj C dx) C (some od)/\∀name,PySem.W.lookIn name od=some (mA name):=
 let ⟨od,ho,hl⟩:=J7 I.ns
 ⟨od,⟨I.obj,rfl,rfl,ho⟩,hl⟩
section
variable{prog:Program}{w:World}{A:Around}{E:Value->Shared->Prop}{s:Shared}{K:PySem.W.Frag}{x dx C f:Addr}{mA:Str->Option Value}{name:Str}{v:Value}
def ι{expr:Bool}{Q:Value->Shared->Prop}(X:K.In s.heap)(I:ah s.heap x dx C mA)(hg:PySem.W.plainGet K C name=true)(hh:PySem.W.hasDictIn K C=true)
  (ha:PySem.W.findIn K (.ref C) name=some none) (hv:mA name=some v) (Ml:PySem.W.handedIn v=true) (h:Q v {s with toks:=s.toks+1}) :
  wpAny (model prog w) A (getAttr (.ref x) name expr) Q E s:=by
 obtain⟨od,J,hl⟩:=I.look;exact PySem.W.get_value X J (EG hg).1 (PySem.W.findObj_own hh ha rfl (by rw[hl,hv])) Ml h
def p9{pl:Sem Bool}{Q:Value×List Value->Shared->Prop}(X:K.In s.heap)(I:ah s.heap x dx C mA)(hg:PySem.W.plainGet K C name=true)
  (hf:PySem.W.findIn K (.ref C) name=some (some (.ref f))) (ht:PySem.W.isFn K (.ref f)=true) (hv:mA name=none) (h:Q (.ref f,[.ref x]) s) :
  wpAny (model prog w) A (getMethod (.ref x) name pl) Q E s:=by
 obtain⟨od,J,hl⟩:=I.look;exact PySem.W.method_fn X J (EG hg).1 (EG hg).2 hf (Bh.mp ht) (by show (PySem.W.lookIn name od).map (·.isSome)=some false;rw[hl,hv];rfl) h
def μ{ns:List Str}{Q:Unit->Shared->Prop}(X:K.In s.heap)(I:ah s.heap x dx C mA)
  (hs:PySem.W.findIn K (.ref C) "__setattr__"=some (some (.builtin "object.__setattr__"))) (hp:PySem.W.plainOver K C=true) (ht:PySem.W.takerIn K C name=some none) (hh:PySem.W.hasDictIn K C=true)
  (hw:PySem.Within mA ns) (hsz:ns.length<=sizeLine)
  (h:∀h',ah h' x dx C (λy=>if y=name then some v else mA y)->Heap.SameBut dx s.heap h'->Q () {s with heap:=h',toks:=s.toks+2}) :
  wpAny (model prog w) A (setAttr (.ref x) name v) Q E s:=by
 obtain⟨od,J,hl⟩:=I.look;refine PySem.W.set_plain X J hs (PySem.W.osa_open (s:={s with toks:=s.toks+1}) (r:=none) X J hp ht λb=>?_)
 obtain⟨cd,hc,fi⟩:=PySem.W.any_some hh;have hx:s.heap.get? x=some ⟨.ref C,some dx,.plain, #[]⟩:=I.obj;refine Ca (kb (Ca (Ca (wpAny_loadPart hx (Ca (PySem.W.Looks.here (s:={s with toks:=s.toks+1}) (PySem.W.looks_clsIn X hc) ?_))))))
 rw[fi];refine kb (a:=some dx) (Ca (kb (Ca ?_)));refine wpAny_nsSet1 (s:={s with toks:=s.toks+1}) I.ns λh' eA Ud=>?_
 obtain⟨oD,esD,epD,hoD,hdD,hcD⟩:=eA.count (PySem.Within.cons name v hw);refine Ca (wpAny_lookBehind hoD (by rw[hdD];exact pastItsLine_dict (Zd hcD (by rw[Qd];omega))) ?_)
 exact kb (h _ ⟨(Ud.2 _ (tf I.ne)).trans I.obj,eA,I.ne⟩ Ud)
def q9{R:Result->Shared->Prop}{vs:List Value}{kw:List (Str×Value)}(X:K.In s.heap)(hm:PySem.W.makesIn K C=true)
  (hi:PySem.W.findIn K (.ref C) "__init__"=some (some (.ref f))) (hf:PySem.W.typeIn K (.ref f)=some (.type "function"))
  (h:codeAny (model prog w) (A.under (.builtin "type.__call__" ⟨.ref C::vs,kw⟩)) (.call (.ref f) ⟨.ref (s.heap.objs.size+1)::vs,kw⟩) (PySem.W.InitBack (s.heap.objs.size+1) R)
   {s with heap:=(s.heap.push PySem.W.emptyDict).push (PySem.W.instObj C s.heap.objs.size)}) :
  codeAny (model prog w) A (.call (.ref C) ⟨vs,kw⟩) R s:=by
 obtain⟨hh,g,d,t,os⟩:=s;exact PySem.W.make_core (PySem.W.makes_of X hm) (PySem.W.looks_findIn X hi) (λself=>PySem.W.bind_fn X self hf) (.inl rfl) h
end
def zL(f:Str)(v:V):List (Str×V)->List (Str×V)
 |[]=>[(f,v)]
 |(g,x)::r=>if g=f then (g,v)::r else (g,x)::zL f v r
theorem VM(f g:Str)(v:V):∀fs:List (Str×V),(zL f v fs).lookup g=if g=f then some v else fs.lookup g
 |[]=>by
  show List.lookup g [(f,v)]=_
  by_cases h:g=f
  .have hb:(g==f)=true:=Bh.mpr h;simp only[List.lookup,hb,if_pos h]
  .have hb:(g==f)=false:=Yj.mpr h;simp only[List.lookup,hb,if_neg h]
 |(k,x)::r=>by
  have ih:=VM f g v r;rw[show zL f v ((k,x)::r)=(if k=f then (k,v)::r else (k,x)::zL f v r) from rfl]
  by_cases hk:k=f
  .rw[Na hk]
   by_cases h:g=k
   .have hb:(g==k)=true:=Bh.mpr h;simp only[List.lookup,hb,if_pos (h.trans hk)]
   .have hb:(g==k)=false:=Yj.mpr h;simp only[List.lookup,hb,if_neg (λe:g=f=>h (e.trans hk.symm))]
  .rw[La hk]
   by_cases h:g=k
   .have hb:(g==k)=true:=Bh.mpr h;simp only[List.lookup,hb,if_neg (λe:g=f=>hk (h.symm.trans e))]
   .have hb:(g==k)=false:=Yj.mpr h;simp only[List.lookup,hb];exact ih
theorem YB(f:Str)(v:V):∀fs:List (Str×V),f∈(zL f v fs).map (·.1)/\∀g,g∈fs.map (·.1)->g∈(zL f v fs).map (·.1)
 |[]=>⟨by simp[zL],λg h=>by simp at h⟩
 |(k,x)::r=>by
  obtain⟨i1,i2⟩:=YB f v r;rw[show zL f v ((k,x)::r)=(if k=f then (k,v)::r else (k,x)::zL f v r) from rfl]
  by_cases hk:k=f
  .rw[Na hk];subst hk;exact⟨by simp,λg h=>by simpa using h⟩
  .rw[La hk];refine⟨?_,λg h=>?_⟩
   .rw[wc];exact Bb _ i1
   .rw[wc]at h ⊢;rcases Nb.mp h with e|e
    .exact Nb.mpr (.inl e)
    .exact Bb _ (i2 g e)
theorem WM(f:Str)(v:V):∀fs:List (Str×V),(zL f v fs).length<=fs.length+1
 |[]=>by simp[zL]
 |(k,x)::r=>by
  have ih:=WM f v r;rw[show zL f v ((k,x)::r)=(if k=f then (k,v)::r else (k,x)::zL f v r) from rfl]
  by_cases hk:k=f
  .rw[Na hk,Qd,Qd];omega
  .rw[La hk,Qd,Qd];omega
def xM.some_of{v:V}{o:Option Value}(r:xM (some v) o):∃u,o=some u/\RelV v u:=by
 cases o with
 |none=>exact(show False from r).elim
 |some u=>exact⟨u,rfl,r⟩
def xM.none_of{o:Option Value}(r:xM none o):o=none:=by
 cases o with
 |none=>rfl
 |some u=>exact(show False from r).elim
def K7{v:V}{u:Value}(r:RelV v u):PySem.W.handedIn u=true:=by
 cases v with
 |Gb=>cases (show u=Value.none from r);rfl
 |bl b=>cases (show u=Value.bool b from r);rfl
 |int i=>obtain⟨t,e⟩:=(show ∃t,u=Value.int i t from r);cases e;rfl
 |str x=>obtain⟨t,e⟩:=(show ∃t,u=Value.str x t from r);cases e;rfl
 |Nz b=>obtain⟨t,e⟩:=(show ∃t,u=Value.bytes b t from r);cases e;rfl
 |qr b=>obtain⟨t,e⟩:=(show ∃t,u=Value.float b t from r);cases e;rfl
 |ref a=>cases (show u=Value.ref a from r);rfl
 |ty n=>cases (show u=Value.type n from r);rfl
section
variable{P:Program}{w:World}{H H':Hp}{h h':Heap}{a C dx:Addr}{fs fs':List (Str×V)}
def DD(Ra:Od P w H h)(e:H a=some (.ins C dx fs)):∃mA,ah h a dx C mA/\(∀f,xM (fs.lookup f) (mA f))/\PySem.Within mA (fs.map (·.1))/\fs.length<=1000/\H dx=some (.own a):=by
 obtain⟨d,z,ne,ob,mA,n,r,q⟩:=(show mK P w H h a (.ins C dx fs) from Ra a _ e)
 exact⟨mA,⟨ob,n,ne⟩,r,q,z,d⟩
end
structure Lj(K:PySem.W.Frag)(C:Addr):Prop where
 pg:PySem.W.plainGet K C Str.empty=true
 hd:PySem.W.hasDictIn K C=true
 po:PySem.W.plainOver K C=true
 sa:PySem.W.findIn K (.ref C) "__setattr__"=some (some (.builtin "object.__setattr__"))
def Lj.get{K:PySem.W.Frag}{C:Addr}(c:Lj K C)(f:Str):PySem.W.plainGet K C f=true:=c.pg
def mR(K:PySem.W.Frag)(C:Addr)(f:Str):Prop:=PySem.W.findIn K (.ref C) f=some none
def mR.mw{K:PySem.W.Frag}{C:Addr}{f:Str}(n:mR K C f):PySem.W.takerIn K C f=some none:=by
 unfold PySem.W.takerIn;rw[show PySem.W.findIn K (.ref C) f=some none from n]
 rfl
structure Meth(K:PySem.W.Frag)(C:Addr)(m:Str)(f:Addr):Prop where
 at_:PySem.W.findIn K (.ref C) m=some (some (.ref f))
 fn:PySem.W.isFn K (.ref f)=true
 kp:PySem.W.keepIn K (.ref f)=true
section
variable{X:Cx}{aa:List (Addr×Obj)}{σ:St}{H:Hp}{s:Shared}{a C dx:Addr}{fs:List (Str×V)}{f:Str}{v:V}{A:Around}{E:Value->Shared->Prop}
def f6{b:Bool}{Q:Value->Shared->Prop}(I:xa X aa σ H s)(e:H a=some (.ins C dx fs))(c:Lj X.K C)(n:mR X.K C f)(l:fs.lookup f=some v)
  (h:∀u s',xa X aa σ H s'->RelV v u->Q u s'):wpAny (model X.prog X.w) A (getAttr (.ref a) f b) Q E s:=by
 obtain⟨mA,O,r,_,_,_⟩:=DD I.Ra e;obtain⟨u,hu,ru⟩:=xM.some_of (v:=v) (o:=mA f) (by rw[<-l];exact r f)
 exact ι I.Nf O (c.get f) c.hd n hu (K7 ru) (h u _ (I.tok _) ru)
def i6{m:Str}{g:Addr}{pl:Sem Bool}{Q:Value×List Value->Shared->Prop}(I:xa X aa σ H s)(e:H a=some (.ins C dx fs))(c:Lj X.K C)(k:Meth X.K C m g)(l:fs.lookup m=none)
  (h:Q (.ref g,[.ref a]) s):wpAny (model X.prog X.w) A (getMethod (.ref a) m pl) Q E s:=by
 obtain⟨mA,O,r,_,_,_⟩:=DD I.Ra e;have hn:mA m=none:=xM.none_of (by rw[<-l];exact r m)
 exact p9 I.Nf O (c.get m) k.at_ k.fn hn h
def j6{y:V}{u:Value}{Q:Unit->Shared->Prop}(I:xa X aa σ H s)(e:H a=some (.ins C dx fs))(c:Lj X.K C)(n:mR X.K C f)(hl:fs.length<1000)(ry:RelV y u)
  (h:∀s',xa X aa σ (Ua H a (.ins C dx (zL f y fs))) s'->Q () s'):wpAny (model X.prog X.w) A (setAttr (.ref a) f u) Q E s:=by
 obtain⟨mA,O,r,wi,_,ho⟩:=DD I.Ra e;have hz:(fs.map (·.1)).length<=sizeLine:=by rw[uc,Km];omega
 refine μ I.Nf O c.sa c.po n.mw c.hd wi hz λh' O' sb=>h _ ?_
 have hd:∃o,h'.get? dx=some o:=let ⟨o,_,_,e',_⟩:=O'.ns;⟨o,e'⟩;refine I.write (x:=a) (e:=dx) (by rw[e];exact True.intro) (.inr ho) (λb q hb z=>(sb.2 b hb).trans z) hd ?_
 refine⟨by rw[bF O.ne];exact ho,?_,O.ne,O'.obj,_,O'.ns,λg=>?_,λg hg=>?_⟩
 .have:=WM f y fs;omega
 .show xM ((zL f y fs).lookup g) (if g=f then some u else mA g)
  rw[VM]
  by_cases q:g=f
  .rw[Na q,Na q];exact ry
  .rw[La q,La q];exact r g
 .by_cases q:g=f
  .rw[q];exact(YB f y fs).1
  .refine(YB f y fs).2 g (wi g λz=>hg ?_)
   show (if g=f then some u else mA g)=none
   rw[La q];exact z
def xa.made(I:xa X aa σ H s):xa X aa σ (Ua (Ua H s.heap.objs.size (.own (s.heap.objs.size+1))) (s.heap.objs.size+1) (.ins C s.heap.objs.size []))
  {s with heap:=(s.heap.push PySem.W.emptyDict).push (PySem.W.instObj C s.heap.objs.size)}:=by
 have e1:(s.heap.push PySem.W.emptyDict).get? s.heap.objs.size=some PySem.W.emptyDict:=Pd s.heap rfl;have e2:((s.heap.push PySem.W.emptyDict).push (PySem.W.instObj C s.heap.objs.size)).get? (s.heap.objs.size+1)=some (PySem.W.instObj C s.heap.objs.size):=by
  have:=Pd (s.heap.push PySem.W.emptyDict) (o:=PySem.W.instObj C s.heap.objs.size) rfl
  rwa [qg]at this
 have e3:(s.heap.push PySem.W.emptyDict).Ns s.heap.objs.size (λ_=>none):=⟨PySem.W.emptyDict, #[],_,e1,rfl,(λe he=>absurd he (by simp)),λ_=>rfl⟩
 have I1:=I.laid (a:=s.heap.objs.size) (o:=.own (s.heap.objs.size+1)) (h':=s.heap.push PySem.W.emptyDict) (t':=s.toks) (λb u q=>Tb _ q) (Cb _) ⟨_,e1⟩
 refine I1.laid (a:=s.heap.objs.size+1) (o:=.ins C s.heap.objs.size []) (t':=s.toks) (λb u q=>Tb _ q) (Cu (qg _ _)) ?_
 have ne:s.heap.objs.size≠s.heap.objs.size+1:=Hd (Sq _);refine⟨by rw[bF ne,bL],Dg _,ne,e2,λ_=>none,(Heap.Ns1.of_empty e3).at λo q=>Tb _ q,λ_=>True.intro,λy hy=>absurd rfl hy⟩
def ν{prog:Program}{w:World}{env:Env}{e:Expr}{f:Str}{pos:Pos}{s:Shared}{Q:Value->Shared->Prop}(hb:attributeBase e f env (eval e env)=eval e env)
  (h:wpAny (model prog w) A (eval e env) (λo Wa=>wpAny (model prog w) A (getAttr o f true) Q E Wa) E s):wpAny (model prog w) A (eval (.Attribute e f pos) env) Q E s:=
 Attribute_any_ h (by rw[arm_eval_Attribute,hb])
end
def bMh(K:PySem.W.Frag)(ta:TE)(f:Str):TE:=λσ H Q=>ta σ H λx H1=>∃a C dx fs v,x=.ref a/\H1 a=some (.ins C dx fs)/\Lj K C/\mR K C f/\fs.lookup f=some v/\Q v H1
def bMi(K:PySem.W.Frag)(ta tv:TE)(f:Str):TS:=λD σ H=>tv σ H λy H1=>ta σ H1 λx H2=>∃a C dx fs,x=.ref a/\H2 a=some (.ins C dx fs)/\Lj K C/\mR K C f/\fs.length<1000/\
 D.nx σ (Ua H2 a (.ins C dx (zL f y fs)))
section
variable{X:Cx}{o e value:Expr}{f:Str}{pos pos' tpos:Pos}{ta tv:TE}
def bG4(he:PE X e ta)(hb:attributeBase e f X.env (eval e X.env)=eval e X.env):PE X (.Attribute e f pos) (bMh X.K ta f):=by
 intro aa s σ H Q I h;refine ν hb (Ib (he aa s σ H _ I h) λu s1 ⟨x,H1,I1,rx,a,C,dx,fs,v,ex,ea,c,n,l,q⟩=>?_)
 subst ex;obtain rfl:u=Value.ref a:=rx;exact f6 I1 ea c n l λu' s2 I2 ru=>⟨v,H1,I2,ru,q⟩
def bG5(ha:PE X o ta)(hv:PE X value tv)(hs:swapsWith value (some (.Attribute o f pos')) pos.line X.env=pure false):PS X (.Assign [.Attribute o f pos'] value pos) (bMi X.K ta tv f):=by
 intro aa s σ H D I h;refine plainObj_wpAny_Assign_Attribute (Ib (hv aa s σ H _ I h) λu s1 ⟨y,H1,I1,ry,q⟩=>Ib (ha aa s1 σ H1 _ I1 q) λov s2 ⟨x,H2,I2,rx,a,C,dx,fs,ex,ea,c,n,l,q2⟩=>?_) hs
 subst ex;obtain rfl:ov=Value.ref a:=rx;exact j6 I2 ea c n l ry λs3 I3=>⟨σ,_,I3,q2⟩
end
section
variable{X:Cx}{aa:List (Addr×Obj)}{σ:St}{H:Hp}{s:Shared}{A:Around}{E:Value->Shared->Prop}{Q:Value->Shared->Prop}{c:Value}{b:Bool}
inductive bf (K:PySem.W.Frag) (H:Hp):V->Value->Prop where
 |Gb:bf K H .Gb (.type "NoneType")
 |bl (x:Bool):bf K H (.bl x) (.type "bool")
 |int (i:Int):bf K H (.int i) (.type "int")
 |str (x:Str):bf K H (.str x) (.type "str")
 |qr (x:UInt64):bf K H (.qr x) (.type "float")
 |lst {a:Addr} {xs:List V} (e:H a=some (.lst xs)):bf K H (.ref a) (.type "list")
 |ci {a:Addr} {o:Obj} {xs:List V} (e:H a=some (.ci o (.lst xs))):bf K H (.ref a) (.type "list")
 |tup {a:Addr} {xs:List V} (e:H a=some (.tup xs)):bf K H (.ref a) (.type "tuple")
 |dK {a:Addr} {ma:List (gb×V)} (e:H a=some (.dK ma)):bf K H (.ref a) (.type "dict")
 |dT {a:Addr} {ma:List (List gb×V)} (e:H a=some (.dT ma)):bf K H (.ref a) (.type "dict")
 |ins {a C dx:Addr} {fs:List (Str×V)} (e:H a=some (.ins C dx fs)) (cl:Lj K C) (ha:PySem.W.findIn K (.ref C) "__class__"=some (some (.builtin "object.__class__")))
   (hn:PySem.W.specialIn K (.builtin "object.__class__") "__get__"=some (some (.builtin "getset_descriptor.__get__"))) (htk:PySem.W.takesIn K (.builtin "object.__class__")=some true)
   (hm:PySem.W.mroIn K C (.type "object")=some true):bf K H (.ref a) (.ref C)
end
end L2
namespace L2
open PySem PySem.Spec PyProof.Rows
structure Kb(k:Nat)(A:Around):Prop where
 hd:A.handled=none
 dp:A.depth+3*k+5<recursionLimit
 un:A.units+16*k+200<cLine
def Kb.mono{j k:Nat}{A:Around}(r:Kb k A)(h:j<=k):Kb j A:=⟨r.hd,by have:=r.dp;omega,by have:=r.un;omega⟩
theorem Kb.deeper{k:Nat}{A:Around}(r:Kb (k+1) A)(env:Env):Kb k (A.deeper env):=
 ⟨r.hd,by have:=r.dp;show A.depth+1+3*k+5<_;omega,by have:=r.un;show A.units+3+16*k+200<_;omega⟩
def n6{A:Around}{C:Addr}{us:List Value}{kw:List (Str×Value)}:(A.under (.builtin "type.__call__" ⟨.ref C::us,kw⟩)).depth=A.depth+1:=by
 first|rfl|simp[Around.under,Code.weight,Code.isCreation,Code.isGuard,Code.isCaller,Code.frames,Code.isFrame,guardIds]
def o6{A:Around}{C:Addr}{us:List Value}{kw:List (Str×Value)}:(A.under (.builtin "type.__call__" ⟨.ref C::us,kw⟩)).units=A.units+1:=by
 first|rfl|simp[Around.under,Code.cUnits,Code.frames,Code.isFrame]
def Kb.make{k:Nat}{A:Around}(r:Kb (k+1) A)(C:Addr)(us:List Value)(kw:List (Str×Value)):Kb k (A.under (.builtin "type.__call__" ⟨.ref C::us,kw⟩)):=
 ⟨r.hd,by have:=r.dp;rw[n6];omega,by have:=r.un;rw[o6];omega⟩
theorem Kb.depth{k:Nat}{A:Around}(r:Kb k A):A.depth<recursionLimit:=by have:=r.dp;omega
theorem Kb.units{k:Nat}{A:Around}(r:Kb k A):A.units+64<cLine:=by have:=r.un;omega
def bMj:TA:=λ_ H Q=>Q [] H
def bJo(ta:TE)(tr:TA):TA:=λσ H Q=>ta σ H λx H1=>tr σ H1 λxs H2=>Q (x::xs) H2
section
variable{X:Cx}{e:Expr}{es:List Expr}{te:TE}{t:TA}{pos:Pos}
def fL:PA X [] bMj:=λ_ _ _ _ H Q I h=>IG ⟨[],H,I,.nil,h⟩
def cM(ha:PE X e te)(hr:PA X es t)(hs:starEach (e::es) X.env=(false,eval e X.env)::starEach es X.env:=by rfl):PA X (e::es) (bJo te t):=by
 intro pos aa s σ H Q I h;rw[hs];show wpAny _ _ (spliced ((false,eval e X.env)::backTo pos (starEach es X.env))) _ _ s;refine vz (Ib (ha aa s σ H _ I h) λu s1 ⟨x,H1,I1,r1,q1⟩=>?_)
 exact Ib (hr pos aa s1 σ H1 _ I1 q1) λus s2 ⟨xs,H2,I2,r2,q2⟩=>⟨x::xs,H2,I2,.cons r1 r2,q2⟩
def bMk(t:TA):TE:=λσ H Q=>t σ H λxs H1=>xs.length<=sizeLine/\∀p,H1 p=none->Q (.ref p) (Ua H1 p (.tup xs))
def bMl(t:TA):TE:=λσ H Q=>t σ H λxs H1=>xs.length<=sizeLine/\∀p,H1 p=none->Q (.ref p) (Ua H1 p (.lst xs))
def bG6{x1}(h:PA X es t):PE X (.Tuple es x1 pos) (bMk t):=by
 intro aa s σ H Q I hq;refine wpAny_Tuple_spliced (Ib (h pos aa s σ H _ I hq) λus s1 ⟨xs,H1,I1,r,z,q⟩=>⟨by rw[<-r.length];exact z,?_⟩)
 have hf:H1 s1.heap.objs.size=none:=I1.Ra.fresh (Cb _);refine⟨.ref s1.heap.objs.size,Ua H1 s1.heap.objs.size (.tup xs),I1.laid (t':=s1.toks) (λb u e=>Tb _ e) (Cb _) ?_,rfl,q _ hf⟩
 exact⟨z,us,r,⟨_,Pd _ rfl,rfl,_,rfl⟩⟩
def Ux(h:PA X es t):PE X (.List es pos) (bMl t):=by
 intro aa s σ H Q I hq;refine wpAny_List_spliced (Ib (h pos aa s σ H _ I hq) λus s1 ⟨xs,H1,I1,r,z,q⟩=>⟨by rw[<-r.length];exact z,?_⟩)
 have hf:H1 s1.heap.objs.size=none:=I1.Ra.fresh (Cb _);refine⟨.ref s1.heap.objs.size,Ua H1 s1.heap.objs.size (.lst xs),I1.laid (t':=s1.toks) (λb u e=>Tb _ e) (Cb _) ?_,rfl,q _ hf⟩
 exact⟨z,us,0,r,Pd _ rfl⟩
end
abbrev Sp:=List V->Hp->VK->XK->Prop
abbrev Kj:=List Env->Hp->Shared->XK->Value->Shared->Prop
structure Zg(P:Program)(w:World)(K:PySem.W.Frag)(mg:Str->Option Value)(base:Heap)(A:Around)(outer:List Env)(s:Shared)(H:Hp):Prop where
 frames:A.frames=some outer
 mod:Mod K mg base
 bs:∀b o,base.get? b=some o->s.heap.get? b=some o/\H b=none
 El:base.objs.size<=s.heap.objs.size
 Me:s.heap.FunFrames base outer
 Ao:∀b∈bi outer,H b=none
 Ra:Od P w H s.heap
 bare:AllBare s.gens
def CE(outer:List Env)(P:Program)(w:World)(H:Hp)(s:Shared)(Q:VK)(u:Value)(s':Shared):Prop:=
 ∃v H',s'.os=s.os/\AllBare s'.gens/\Un (bi outer) [] H H' s.heap s'.heap/\Od P w H' s'.heap/\RelV v u/\Q v H'
def CR(CX:Kj)(outer:List Env)(P:Program)(w:World)(H:Hp)(s:Shared)(Q:VK)(E:XK)(r:Result)(s':Shared):Prop:=
 match r with
 |.ok (.ret u)=>CE outer P w H s Q u s'
 |.ok _=>False
 |.error e=>CX outer H s E e s'
structure Ja(P:Program)(w:World)(K:PySem.W.Frag)(mg:Str->Option Value)(base:Heap)(CX:Kj)(k:Nat)(f:Addr)(fd:FuncData)(ps:List Str)(sp:Sp):Prop where
 len:∀vs H Q E,sp vs H Q E->vs.length=ps.length
 run:∀(A:Around)(outer:List Env)(s:Shared)(H:Hp)(args:Args)(us:List Value)(vs:List V)(Q:VK)(E:XK),Kb k A->Zg P w K mg base A outer s H->BindsTo s fd args (ps.zip us)->Ea vs us->sp vs H Q E->
  codeAny (model P w) A (.call (.ref f) args) (CR CX outer P w H s Q E) s
def Zg.make{P:Program}{w:World}{K:PySem.W.Frag}{mg:Str->Option Value}{base:Heap}{A:Around}{outer:List Env}{s:Shared}{H:Hp}(e:Zg P w K mg base A outer s H)(C:Addr)(us:List Value)(kw:List (Str×Value)) :
  Zg P w K mg base (A.under (.builtin "type.__call__" ⟨.ref C::us,kw⟩)) outer s H:=⟨by first|exact e.frames|(simpa [Around.under,Code.envs,Code.isFrame,pushEnvs] using e.frames),e.mod,e.bs,e.El,e.Me,e.Ao,e.Ra,e.bare⟩
section
variable{X:Cx}{aa:List (Addr×Obj)}{σ:St}{H:Hp}{s s':Shared}
def xa.Su(I:xa X aa σ H s):Zg X.prog X.w X.K X.mg X.base X.A X.stack s H:=
 ⟨I.ok.frames,I.ok.mod,I.bs,Zd I.ok.El I.sz,I.stack,I.Nh,I.Ra,I.bare⟩
def xa.after{Q:VK}{u:Value}(I:xa X aa σ H s)(h:CE X.stack X.prog X.w H s Q u s'):EP X aa σ Q u s':=by
 obtain⟨v,H',os,bare,un,Ra,r,q⟩:=h;obtain⟨hh,g,d,t,os'⟩:=s';obtain rfl:os'=s.os:=os;exact⟨v,H',I.call (h':=hh) (g':=g) (d':=d) (t':=t) (ch:=[]) un Ra bare (λb z=>absurd z (by simp)),r,q⟩
end
def bJp(sp:Sp)(dvs:List V)(E:XK)(t:TA):TE:=λσ H Q=>t σ H λvs H1=>sp (vs++dvs) H1 Q E
def bJq(C:Addr)(m:Str)(sp:Sp)(dvs:List V)(E:XK)(ta:TE)(t:TA):TE:=λσ H Q=>ta σ H λx H1=>∃a dx fs,x=.ref a/\H1 a=some (.ins C dx fs)/\fs.lookup m=none/\
 t σ H1 λvs H2=>sp (x::(vs++dvs)) H2 Q E
def bJr(C:Addr)(sp:Sp)(dvs:List V)(E:XK)(t:TA):TE:=λσ H Q=>t σ H λvs H1=>∀x dx,H1 x=none->H1 dx=none->dx≠x->
 sp (.ref x::(vs++dvs)) (Ua (Ua H1 dx (.own x)) x (.ins C dx [])) (λv H2=>v=.Gb/\Q (.ref x) H2) E
def Binds(K:PySem.W.Frag)(fd:FuncData)(ps:List Str)(ds:List Value):Prop:=
 ∀(s:Shared)(us:List Value),K.In s.heap->(us++ds).length=ps.length->BindsTo s fd ⟨us,[]⟩ (ps.zip (us++ds))
def Binds.all{K:PySem.W.Frag}{fd:FuncData}{ps:List Str}(h:∀us:List Value,us.length=ps.length->bindArgs fd ⟨us,[]⟩=pure (ps.zip us)):Binds K fd ps []:=λs us _ hl=>by
 rw[Di]at hl ⊢;exact .of_eq (h us hl)
def Pp(CX:Kj)(X:Cx)(E:XK):Prop:=∀(aa:List (Addr×Obj)) (σ:St) (H:Hp) (s:Shared) (e:Value) (s':Shared),xa X aa σ H s->CX X.stack H s E e s'->X.xe e s'
section
variable{X:Cx}{CX:Kj}{k:Nat}{f C:Addr}{fd:FuncData}{ps:List Str}{sp:Sp}{dvs:List V}{ds:List Value}{E:XK}{x m:Str}{p pos Oa:Pos}{e o:Expr}{es:List Expr}{ta:TE}{t:TA}
def VU{aa:List (Addr×Obj)}{σ:St}{H:Hp}{s:Shared}{Q:VK}{us:List Value}{vs:List V}(F:Ja X.prog X.w X.K X.mg X.base CX k f fd ps sp)(hr:Kb k X.A)(hb:Binds X.K fd ps ds)(hd:Ea dvs ds)(hx:Pp CX X E)
  (I:xa X aa σ H s) (r:Ea vs us) (h:sp (vs++dvs) H Q E):wpAny (model X.prog X.w) X.A (call (.ref f) us) (EP X aa σ Q) X.xe s:=by
 have r2:Ea (vs++dvs) (us++ds):=r.append hd;have hl:(us++ds).length=ps.length:=by rw[<-r2.length];exact F.len _ _ _ _ h
 refine wpAny_call (qo (F.run X.A X.stack s H ⟨us,[]⟩ (us++ds) (vs++dvs) Q E hr I.Su (hb s us I.Nf hl) r2 h) λr s' hq=>?_)
 cases r with
 |error e=>exact hx aa σ H s e s' I hq
 |ok fl=>
  cases fl with
  |ret u=>exact I.after hq
  |next=>exact False.elim hq
  |brk=>exact False.elim hq
  |cont=>exact False.elim hq
def zS(F:Ja X.prog X.w X.K X.mg X.base CX k f fd ps sp)(hr:Kb k X.A)(hg:Gl X x)(hm:X.mg x=some (.ref f))(hk:PySem.W.keepIn X.K (.ref f)=true)(hb:Binds X.K fd ps ds)(hd:Ea dvs ds)(hx:Pp CX X E)
  (ha:PA X (e::es) t) (Ig:(x==("__debug__":Str))=false:=by decide) (he:starEach (e::es) X.env=(false,eval e X.env)::starEach es X.env:=by rfl) (hpl:(backTo pos (starEach es X.env)).any (·.1)=false:=by rfl) :
  PE X (.Call (.Name x p) (e::es) [] pos) (bJp sp dvs E t):=by
 intro aa s σ H Q I h;refine wz (CD I hg hm ?_ Ig);refine HG (h₀:=X.base) I.ok.mod.Sv hk (Ib (ha pos aa s σ H _ I h) λus s1 ⟨vs,H1,I1,r,q⟩=>⟨I1.Nf,?_⟩) he hpl
 exact VU F hr hb hd hx I1 r q
def AS{pl:Sem Bool}(he:PE X o ta)(c:Lj X.K C)(hm:Meth X.K C m f)(F:Ja X.prog X.w X.K X.mg X.base CX k f fd ps sp)(hr:Kb k X.A)(hb:Binds X.K fd ps ds)(hd:Ea dvs ds)(hx:Pp CX X E)(ha:PA X (e::es) t)
  (wg:starEach (e::es) X.env=(false,eval e X.env)::starEach es X.env:=by rfl) (hpl:(backTo pos (starEach es X.env)).any (·.1)=false:=by rfl)
  (ht:eval (.Call (.Attribute o m Oa) (e::es) [] pos) X.env=(do
   let ov <- eval o X.env
   standAt Oa.atName
   let (f,first) <- holding [ov] (getMethod ov m pl)
   callWith pos f first (backTo pos (starEach (e::es) X.env)) (backToKw pos (keywordEach [] X.env))):=by rfl) :
  PE X (.Call (.Attribute o m Oa) (e::es) [] pos) (bJq C m sp dvs E ta t):=by
 intro aa s σ H Q I h;refine PySem.W.methodCall_KW (pl:=pl) (Ib (he aa s σ H _ I h) λu s1 ⟨x,H1,I1,rx,a,dx,fs,ex,ea,l,q⟩=>?_) ht
 subst ex;obtain rfl:u=Value.ref a:=rx;refine i6 I1 ea c hm l ?_
 refine HG (first:=[.ref a]) (h₀:=X.base) I.ok.mod.Sv hm.kp (Ib (ha pos aa s1 σ H1 _ I1 q) λus s2 ⟨vs,H2,I2,r,q2⟩=>⟨I2.Nf,?_⟩) wg hpl
 exact VU (us:=.ref a::us) (vs:=.ref a::vs) F hr hb hd hx I2 (.cons rfl r) q2
structure Mk(K:PySem.W.Frag)(C f:Addr):Prop where
 makes:PySem.W.makesIn K C=true
 init:PySem.W.findIn K (.ref C) "__init__"=some (some (.ref f))
 fn:PySem.W.isFn K (.ref f)=true
 kp:PySem.W.keepIn K (.ref C)=true
def r9{aa:List (Addr×Obj)}{σ:St}{H:Hp}{s:Shared}{Q:VK}{us:List Value}{vs:List V}(M:Mk X.K C f)(F:Ja X.prog X.w X.K X.mg X.base CX k f fd ps sp)(hr:Kb (k+1) X.A)(hb:Binds X.K fd ps ds)(hd:Ea dvs ds)
  (hx:Pp CX X E) (I:xa X aa σ H s) (r:Ea vs us)
  (h:∀x dx,H x=none->H dx=none->dx≠x->sp (.ref x::(vs++dvs)) (Ua (Ua H dx (.own x)) x (.ins C dx [])) (λv H2=>v=.Gb/\Q (.ref x) H2) E) :
  wpAny (model X.prog X.w) X.A (call (.ref C) us) (EP X aa σ Q) X.xe s:=by
 have hq:=h (s.heap.objs.size+1) s.heap.objs.size (I.Ra.fresh (Om _)) (I.Ra.fresh (Cb _)) (Hd (Sq _));have I2:=xa.made (C:=C) I;have r2:Ea (V.ref (s.heap.objs.size+1)::(vs++dvs)) (Value.ref (s.heap.objs.size+1)::(us++ds)):=.cons rfl (r.append hd);have hl:(Value.ref (s.heap.objs.size+1)::us++ds).length=ps.length:=by
  have e:=r2.length;rw[F.len _ _ _ _ hq]at e;exact e.symm
 refine wpAny_call (q9 (f:=f) I.Nf M.makes M.init (Bh.mp M.fn) (qo (F.run _ X.stack _ _ ⟨Value.ref (s.heap.objs.size+1)::us,[]⟩ (Value.ref (s.heap.objs.size+1)::(us++ds)) _ _ E (hr.make C us [])
  (I2.Su.make C us []) (hb _ (Value.ref (s.heap.objs.size+1)::us) I2.Nf hl) r2 hq) λr s' sd=>?_))
 cases r with
 |error e=>exact hx aa σ _ _ e s' I2 sd
 |ok fl=>
  cases fl with
  |ret u=>
   obtain⟨v,H',I3,rv,ev,q3⟩:=I2.after sd;subst ev;exact⟨rv,⟨V.ref (s.heap.objs.size+1),H',I3,rfl,q3⟩⟩
  |next=>exact False.elim sd
  |brk=>exact False.elim sd
  |cont=>exact False.elim sd
def ξ(M:Mk X.K C f)(F:Ja X.prog X.w X.K X.mg X.base CX k f fd ps sp)(hr:Kb (k+1) X.A)(hg:Gl X x)(hm:X.mg x=some (.ref C))(hb:Binds X.K fd ps ds)(hd:Ea dvs ds)(hx:Pp CX X E)
  (ha:PA X (e::es) t) (Ig:(x==("__debug__":Str))=false:=by decide) (he:starEach (e::es) X.env=(false,eval e X.env)::starEach es X.env:=by rfl) (hpl:(backTo pos (starEach es X.env)).any (·.1)=false:=by rfl) :
  PE X (.Call (.Name x p) (e::es) [] pos) (bJr C sp dvs E t):=by
 intro aa s σ H Q I h;refine wz (CD I hg hm ?_ Ig);refine HG (h₀:=X.base) I.ok.mod.Sv M.kp (Ib (ha pos aa s σ H _ I h) λus s1 ⟨vs,H1,I1,r,q⟩=>⟨I1.Nf,?_⟩) he hpl
 exact r9 M F hr hb hd hx I1 r q
end
structure oa(N P:List Str)(sc:Scope):Prop where
 kind:sc.kind=.function
 co:sc.isCoroutine=false
 gen:sc.isGenerator=false
 nd:N.Nodup
 pre:N.take P.length=P
 R1:∀x∈P,sc.names.lookup x=some .local\/sc.names.lookup x=some .cell
 ip:∀y∈sc.names,y.2≠.free
theorem WO{kindOf:Str->Option NameKind}{x:Str}:∀{binds:List (Str×Value)} {m:Str->Option Value},(∀v,(x,v)∉binds)->bindL kindOf binds m x=m x
 |[],_,_=>rfl
 |(n,v)::r,m,h=>by
  unfold bindL;rw[WO λw hw=>h w (Bb _ hw)]
  split
  .have:x≠n:=by rintro rfl;exact h v xb
   simp[this]
  .rfl
theorem XO{kindOf:Str->Option NameKind}{x:Str}:∀{binds:List (Str×Value)} {m:Str->Option Value},(∀v,(x,v)∉binds)->bindC kindOf binds m x=m x
 |[],_,_=>rfl
 |(n,v)::r,m,h=>by
  unfold bindC;rw[XO λw hw=>h w (Bb _ hw)]
  split
  .rfl
  .have:x≠n:=by rintro rfl;exact h v xb
   simp[this]
theorem YO{kindOf:Str->Option NameKind}{x:Str}{v:Value}:∀{P:List Str}{vs:List Value}{i:Nat}{m:Str->Option Value},P.Nodup->P[i]?=some x->vs[i]?=some v->kindOf x=some .local->
  bindL kindOf (P.zip vs) m x=some v
 |[],_,_,_,_,h,_,_=>by simp at h
 |_::_,[],_,_,_,_,h,_=>by simp at h
 |p::P,w::vs,0,m,nd,h1,h2,hk=>by
  simp at h1 h2;subst h1;subst h2;show bindL kindOf ((p,w)::P.zip vs) m p=_;unfold bindL;rw[WO λv hv=>(Gf.mp nd).1 (QG hv).1,Na hk]
  simp
 |p::P,w::vs,i+1,m,nd,h1,h2,hk=>by
  show bindL kindOf ((p,w)::P.zip vs) m x=_;unfold bindL;exact YO (i:=i) (Gf.mp nd).2 (by simpa using h1) (by simpa using h2) hk
theorem ZO{kindOf:Str->Option NameKind}{x:Str}{v:Value}:∀{P:List Str}{vs:List Value}{i:Nat}{m:Str->Option Value},P.Nodup->P[i]?=some x->vs[i]?=some v->kindOf x≠some .local->
  bindC kindOf (P.zip vs) m x=some v
 |[],_,_,_,_,h,_,_=>by simp at h
 |_::_,[],_,_,_,_,h,_=>by simp at h
 |p::P,w::vs,0,m,nd,h1,h2,hk=>by
  simp at h1 h2;subst h1;subst h2;show bindC kindOf ((p,w)::P.zip vs) m p=_;unfold bindC;rw[XO λv hv=>(Gf.mp nd).1 (QG hv).1,La hk]
  simp
 |p::P,w::vs,i+1,m,nd,h1,h2,hk=>by
  show bindC kindOf ((p,w)::P.zip vs) m x=_;unfold bindC;exact ZO (i:=i) (Gf.mp nd).2 (by simpa using h1) (by simpa using h2) hk
def start(N:List Str)(vs:List V):St:=vs.map some++List.replicate (N.length-vs.length) none
def Ri(CX:Kj)(P:Program)(w:World)(K:PySem.W.Frag)(mg:Str->Option Value)(base:Heap)(N:List Str)(qual:Str)(scope:Scope)(f:Addr)(cd:Value)(A:Around)(outer:List Env)(s:Shared)(H:Hp)(E:XK):Cx where
 prog:=P
 w:=w
 K:=K
 mg:=mg
 base:=base
 A:=A.deeper (envOfC qual scope s.heap.objs.size f cd)
 N:=N
 ua:=s
 za:=H
 env:=envOfC qual scope s.heap.objs.size f cd
 outer:=outer
 stack:=envOfC qual scope s.heap.objs.size f cd::outer
 ex:=[]
 calm:=true
 fn:=λ_=>true
 pn:=[]
 xe:=λe s'=>wpAny (model P w) (A.deeper (envOfC qual scope s.heap.objs.size f cd)) (leaving (envOfC qual scope s.heap.objs.size f cd) e) (λ_ nK=>CX outer H s E e nK) (λe' nK=>CX outer H s E e' nK) s'
def JQ{sc:Scope}{n:Nat}{x:Str}(h:sc.names.lookup x=some .cell):∃c,(cellsFrom n sc.names []).lookup x=some c:=by
 have q:=ZY sc.names n [] (.inl h);exact OY.mp q
def L7{CX:Kj}{P:Program}{w:World}{K:PySem.W.Frag}{mg:Str->Option Value}{base:Heap}{N ps:List Str}{qual:Str}{scope:Scope}{f:Addr}{cd:Value}{A:Around}{outer:List Env}{s s1:Shared}{H:Hp}{E:XK}{us:List Value}{vs:List V}
  (S:oa N ps scope) (hd:A.handled=none) (e0:Zg P w K mg base A outer s H) (hl:vs.length=ps.length) (r:Ea vs us)
  (x:InCallC s s.heap.objs.size (bindL (envOfC qual scope s.heap.objs.size f cd).kindOf (ps.zip us) λ_=>none) (cellsFrom (s.heap.objs.size+1) scope.names []) (bindC (envOfC qual scope s.heap.objs.size f cd).kindOf (ps.zip us) λ_=>none) s1) :
  xa (Ri CX P w K mg base N qual scope f cd A outer s H E) [] (start N vs) H s1:=by
 have hpl:ps.length<=N.length:=by have:=congrArg List.length S.pre;rw[List.length_take]at this;omega
 obtain⟨h1,tk,rfl,hk⟩:=x.done;have Vv:∀b:Addr,b∉(Ri CX P w K mg base N qual scope f cd A outer s H E).ex:=λb z=>absurd (show b∈([]:List Addr) from z) (by simp)
 refine⟨⟨e0.mod,S.kind,rfl,rfl,Cb _,λy z c h1 h2=>?_,λy hy=>?_,λy c _ h=>?_,λ_=>hd,Around.frames_deeper e0.frames,.inr ⟨rfl,rfl⟩,λb z=>absurd z (Vv b),e0.bs,e0.El,λb _ _=>Vv b,λb z=>absurd z (Vv b),e0.Me,e0.Ao⟩,
  rfl,e0.bare,Un.kept hk,⟨_,x.toInCall.ns,λi y v h1 h2 h3=>?_⟩,λy c h=>⟨_,x.cell y c h⟩,e0.Ra.fresh (Cb _),λy c h=>?_,λp hp=>absurd (show p∈([]:List (Addr×Obj)) from hp) (by simp),e0.Ra.kept hk,?_⟩
 .exact name_of_addr x.apart (Vh h1) (Vh h2)
 .have hy:scope.names.lookup y=some .cell\/scope.names.lookup y=some .free:=hy;rcases hy with hy|hy
  .exact JQ hy
  .exact absurd rfl (S.ip _ (Vh hy))
 .exact Bu (x.above y c (Vh h))
 .have hi:i<vs.length:=by
   unfold start at h2
   by_cases hi:i<vs.length
   .exact hi
   .rw[bu (by simpa using hi)]at h2
    rw[List.getElem?_replicate]at h2;split at h2<;>cases h2
  have ha:vs[i]?=some v:=by
   unfold start at h2;rw[Vi (by simpa using hi),List.getElem?_map]at h2
   cases e:vs[i]? with
   |none=>rw[e]at h2;cases h2
   |some a=>rw[e]at h2;cases h2;rfl
  obtain⟨u,hu,rv⟩:=r.get ha;have hp:ps[i]?=some y:=by
   rw[<-S.pre,List.getElem?_take_of_lt (by omega)];exact h1
  have K1:ps.Nodup:=by rw[<-S.pre];exact S.nd.sublist (List.take_sublist _ _)
  refine⟨u,rv,?_⟩;rcases S.R1 y (Uh hp) with k|k
  .exact .inl ⟨k,YO K1 hp hu k⟩
  .obtain⟨c,e⟩:=JQ (n:=s.heap.objs.size+1) k;refine .inr ⟨.inl k,c,e,?_⟩;have q:=x.cell y c e;rw[ZO K1 hp hu (by show scope.names.lookup y≠_;rw[k];decide)]at q
   exact q
 .exact e0.Ra.fresh (Bu (x.above y c (Vh h)))
 .unfold start;show _=N.length;rw[we,uc,List.length_replicate];omega
def OW{CX:Kj}{P:Program}{w:World}{K:PySem.W.Frag}{mg:Str->Option Value}{base:Heap}{k:Nat}{f:Addr}{name qual:Str}{params:Arguments}{body:List Stmt}{scope:Scope}{dV kV doc pm Qa ct oc:Value}{an od:Option Addr}
  {xg:Array (Option Value)} {N ps:List Str} {sp:Sp} (lk:K.lookup f=some ⟨oc,od,.func (PySem.W.fnOf name qual params body scope dV kV doc pm an Qa ct),xg⟩) (Ec:PySem.W.codeIn K Qa qual=true) (S:oa N ps scope)
  (len:∀vs H Q E,sp vs H Q E->vs.length=ps.length)
  (Fg:∀(A:Around)(outer:List Env)(s:Shared)(H:Hp)(vs:List V)(Q:VK)(E:XK),Kb k (A.deeper (envOfC qual scope s.heap.objs.size f Qa))->sp vs H Q E->
   ∃t,Dc (Ri CX P w K mg base N qual scope f Qa A outer s H E) body t/\t {nx:=λ_ H'=>Q .Gb H',rt:=Q} (start N vs) H) :
  Ja P w K mg base CX (k+1) f (PySem.W.fnOf name qual params body scope dV kV doc pm an Qa ct) ps sp:=by
 refine⟨len,λA outer s H args us vs Q E hr e0 hb r qj=>?_⟩
 have hl:=len _ _ _ _ qj;have KX:K.In s.heap:=e0.mod.Sv.keeps λb o e=>(e0.bs b o e).1
 have lim:s.heap.NoLimit:=e0.mod.nolimit.keeps λb o e=>(e0.bs b o e).1
 have zv:∀y∈ps.zip us,scope.names.lookup y.1=some .local\/(scope.names.lookup y.1=some .cell/\((cellsFrom (s.heap.objs.size+1) scope.names []).lookup y.1).isSome=true):=λ⟨n,v⟩ hy=>by
  rcases S.R1 n (QG hy).1 with q|q
  .exact .inl q
  .exact .inr ⟨q,ZY _ _ _ (.inl q)⟩
 refine codeAny_call_function hr.depth (KX _ _ lk) rfl S.co S.gen rfl (PySem.W.codeRec_of KX Ec) (hb _ _ _ _ ?_);refine wpAny_newFunctionEnv_cells S.kind zv λenv he s1 x=>?_
 subst he;refine⟨lim.keeps x.toInCall.keep,codeAny_func ?_⟩;obtain⟨t,ht,hq⟩:=Fg A outer s H vs Q E (hr.deeper _) qj;have I:xa (Ri CX P w K mg base N qual scope f Qa A outer s H E) [] (start N vs) H s1:=L7 S hr.hd e0 hl r x;refine Wh (ht [] s1 (start N vs) H _ I hq) (λfl s' hs=>?_) λe s' hs=>hs
 have fin:∀{jb:St}{H':Hp}{v:V}{u:Value},xa (Ri CX P w K mg base N qual scope f Qa A outer s H E) [] jb H' s'->RelV v u->Q v H'->CE outer P w H s Q u s':=
  λ{jb H' v u} J rv q=>⟨v,H',J.os,J.bare,J.base,J.Ra,rv,q⟩
 cases fl with
 |ret u=>
  obtain⟨v,jb,H',J,rv,q⟩:=hs;exact fin J rv q
 |next=>
  obtain⟨jb,H',J,q⟩:=hs;exact fin (v:=V.Gb) (u:=Value.none) J rfl q
 |brk=>
  obtain⟨_,_,_,q⟩:=hs;exact False.elim q
 |cont=>
  obtain⟨_,_,_,q⟩:=hs;exact False.elim q
end L2
namespace L2
open PySem PySem.Spec PyProof.Rows
section
variable{X:Cx}{x:Str}{p pos:Pos}{e:Expr}{es:List Expr}{t:TA}{id T:String}{r:List V->Hp->VK->Prop}
def Y1(r:List V->Hp->VK->Prop)(t:TA):TE:=λσ H Q=>t σ H λvs H1=>r vs H1 Q
def qR(hc:mL X (.builtin id) r)(hg:Gl X x)(hm:X.mg x=none)(hv:bootBuiltins x=some (.builtin id))(ha:PA X (e::es) t)(hn:x≠"__name__":=by decide)(Ig:(x==("__debug__":Str))=false:=by decide)
  (he:starEach (e::es) X.env=(false,eval e X.env)::starEach es X.env:=by rfl) (hpl:(backTo pos (starEach es X.env)).any (·.1)=false:=by rfl):PE X (.Call (.Name x p) (e::es) [] pos) (Y1 r t):=by
 intro aa s σ H Q I h;refine wz (Mp I hg hm hv ?_ hn Ig);exact PyProof.Rows.callWith_builtin1 (Ib (ha pos aa s σ H _ I h) λus s1 ⟨vs,H1,I1,r1,q1⟩=>hc aa s1 σ H1 vs us Q I1 r1 q1) he hpl
def pK(hc:mL X (.type T) r)(hg:Gl X x)(hm:X.mg x=none)(hv:bootBuiltins x=some (.type T))(ha:PA X (e::es) t)(hn:x≠"__name__":=by decide)(Ig:(x==("__debug__":Str))=false:=by decide)
  (he:starEach (e::es) X.env=(false,eval e X.env)::starEach es X.env:=by rfl) (hpl:(backTo pos (starEach es X.env)).any (·.1)=false:=by rfl):PE X (.Call (.Name x p) (e::es) [] pos) (Y1 r t):=by
 intro aa s σ H Q I h;refine wz (Mp I hg hm hv ?_ hn Ig);exact Zy (Ib (ha pos aa s σ H _ I h) λus s1 ⟨vs,H1,I1,r1,q1⟩=>hc aa s1 σ H1 vs us Q I1 r1 q1) he hpl
end
end L2
namespace HT
open PySem PyProof.Rows
section
open PySem.SeqAt
open PySem.AutoSeq1 (wpAny_loadPart')
open PySem.MeetsSeq PySem.MeetsSeq2 PySem.MeetsSeq3
end
section
variable{prog:Program}{w:World}{A:Around}{E:Value->Shared->Prop}{s:Shared}
def Kc(n d:Nat):Option Int->Nat
 |none=>d
 |some v=>if v<0 then (v+(n:Int)).toNat else min v.toNat n
def sf(n d:Nat):Kc n d none=d:=rfl
def kg(n d k:Nat):Kc n d (some (k:Int))=min k n:=by
 show (if (k:Int)<0 then ((k:Int)+(n:Int)).toNat else min (k:Int).toNat n)=min k n
 rw[La (by omega),rg]
end
end HT
namespace L2
open PySem PySem.Spec PyProof.Rows
abbrev TO:=St->Hp->(Option Int->Hp->Prop)->Prop
def PO(X:Cx)(e:Option Expr)(t:TO):Prop:=
 ∀(aa:List (Addr×Obj)) (s:Shared) (σ:St) (H:Hp) (Q:Option Int->Hp->Prop),xa X aa σ H s->t σ H Q->
  wpAny (model X.prog X.w) X.A (evalPart e X.env) (λu s'=>∃o H',xa X aa σ H' s'/\IsPart u o/\Q o H') X.xe s
def ο:TO:=λ_ H Q=>Q none H
def bJs(t:TE):TO:=λσ H Q=>t σ H λx H1=>∃i,x=.int i/\Q (some i) H1
section
variable{X:Cx}{e:Expr}{te:TE}{lo hi:Option Expr}{tl th:TO}{pos p2:Pos}
def ρ:PO X none ο:=by
 intro aa s σ H Q I h;rw[evalPart_none];exact kb ⟨none,H,I,.none,h⟩
def ς(h:PE X e te):PO X (some e) (bJs te):=by
 intro aa s σ H Q I hw;rw[evalPart_some];refine Ib (h aa s σ H _ I hw) λu s1 ⟨x,H1,I1,r1,q1⟩=>?_
 obtain⟨i,rfl,q⟩:=q1;obtain⟨t,rfl⟩:=r1;exact⟨some i,H1,I1,.int i t,q⟩
def Fn(X:Cx)(r:V->Option Int->Option Int->Hp->VK->Prop):Prop:=
 ∀(aa:List (Addr×Obj)) (s:Shared) (σ:St) (H:Hp) (x:V) (v vl vu:Value) (lo hi:Option Int) (sl:Addr) (Q:VK),xa X aa σ H s->RelV x v->s.heap.IsSliceOf sl vl vu .none->IsPart vl lo->IsPart vu hi->r x lo hi H Q->
  ∃T id,typeLookup (.type T) "__getitem__"=pure (some (.builtin id))/\s.TypeIs v T/\wpAny (model X.prog X.w) X.A (getItem v (.ref sl)) (EP X aa σ Q) X.xe s
def Fn.or{r r':V->Option Int->Option Int->Hp->VK->Prop}(h:Fn X r)(h':Fn X r'):Fn X (λx lo hi H Q=>r x lo hi H Q\/r' x lo hi H Q):=by
 intro aa s σ H x v vl vu lo hi sl Q I rx hs pl pu q;rcases q with q|q
 .exact h aa s σ H x v vl vu lo hi sl Q I rx hs pl pu q
 .exact h' aa s σ H x v vl vu lo hi sl Q I rx hs pl pu q
def tSl(r:V->Option Int->Option Int->Hp->VK->Prop)(te:TE)(tl th:TO):TE:=λσ H Q=>te σ H λx H1=>tl σ H1 λl H2=>th σ H2 λu H3=>r x l u H3 Q
def KQ{r:V->Option Int->Option Int->Hp->VK->Prop}(hr:Fn X r)(he:PE X e te)(hl:PO X lo tl)(hu:PO X hi th):PE X (.Subscript e (.Slice lo hi none p2) pos) (tSl r te tl th):=by
 intro aa s σ H Q I h;refine Subscript_ (Ib (he aa s σ H _ I h) λv s1 ⟨x,H1,I1,r1,q1⟩=>?_)
 refine wpAny_Slice (Ib (hl aa s1 σ H1 _ I1 q1) λvl s2 ⟨l,H2,I2,pl,q2⟩=>Ib (hu aa s2 σ H2 _ I2 q2) λvu s3 ⟨u,H3,I3,pu,q3⟩=>?_)
 rw[evalPart_none];refine kb ?_
 have I4:xa X aa σ H3 {s3 with heap:=s3.heap.push {cls:=.type "slice",data:=.fields #[vl,vu,.none]} }:=I3.kept (t':=s3.toks) λb ob q=>Tb _ q
 obtain⟨T,id,hT,ht,hg⟩:=hr aa {s3 with heap:=s3.heap.push {cls:=.type "slice",data:=.fields #[vl,vu,.none]} } σ H3 x v vl vu l u s3.heap.objs.size Q I4 r1 (Heap.IsSliceOf.new ..) pl pu q3
 show wpAny (model X.prog X.w) X.A (subscriptTail e (.Slice lo hi none p2) v (.ref s3.heap.objs.size)) (EP X aa σ Q) X.xe {s3 with heap:=s3.heap.push {cls:=.type "slice",data:=.fields #[vl,vu,.none]} }
 exact tail_any (ops:=[.ref s3.heap.objs.size,v]) ht hT hg (by with_unfolding_all rfl)
def wq(xs:List V)(lo hi:Option Int):List V:=(xs.drop (HT.Kc xs.length 0 lo)).take (HT.Kc xs.length xs.length hi-HT.Kc xs.length 0 lo)
def G5(xs:List V)(lo hi:Option Int):(wq xs lo hi).length<=xs.length:=by
 unfold wq;rw[List.length_take,List.length_drop];omega
end
end L2
namespace L2
open PySem PySem.Spec PyProof.Rows
def lc(n:Nat)(i:Int):Option Nat:=if 0<=i then (if i<n then some i.toNat else none) else if -(n:Int)<=i then some (i+n).toNat else none
def Wb{α:Type}(xs:List α)(i:Int):Option α:=(lc xs.length i).bind λj=>xs[j]?
def BS{n:Nat}{i:Int}{j:Nat}(h:lc n i=some j):seqIndex? i n=some j/\j<n/\-(n:Int)<=i/\i<n:=by
 unfold lc at h
 by_cases h0:0<=i
 .rw[Na h0]at h
  by_cases h1:i<n
  .rw[Na h1]at h;have e:i.toNat=j:=Zi h;exact⟨by rw[seqIndex_of h0 h1,e],by omega,by omega,h1⟩
  .rw[La h1]at h;cases h
 .rw[La h0]at h
  by_cases h1 : -(n:Int)<=i
  .rw[Na h1]at h;have e:(i+n).toNat=j:=Zi h;exact⟨by rw[seqIndex_neg (by omega) h1,e],by omega,h1,by omega⟩
  .rw[La h1]at h;cases h
def ED{α:Type}{xs:List α}{i:Int}{v:α}(h:Wb xs i=some v):∃j,seqIndex? i xs.length=some j/\xs[j]?=some v/\j<xs.length/\-(xs.length:Int)<=i/\i<xs.length:=by
 unfold Wb at h;cases e:lc xs.length i with
 |none=>rw[e]at h;cases h
 |some j=>
  rw[e]at h;obtain⟨h1,h2,h3,h4⟩:=BS e;exact⟨j,h1,h,h2,h3,h4⟩
def Pb{α:Type}{xs:List α}{j:Nat}{v:α}(h:xs[j]?=some v):Wb xs (j:Int)=some v:=by
 have hj:j<xs.length:=(Kd.mp h).1;have e:lc xs.length (j:Int)=some j:=by
  unfold lc;rw[Na (by omega),Na (by omega)];simp
 unfold Wb;rw[e];exact h
def Ag{α:Type}(xs:List α)(v:α):Wb (xs++[v]) (-1)=some v:=by
 have hl:(xs++[v]).length=xs.length+1:=by simp
 have e:lc (xs++[v]).length (-1)=some xs.length:=by
  unfold lc;rw[hl,La (by decide),Na (by omega)]
  congr 1;omega
 unfold Wb;rw[e];show (xs++[v])[xs.length]?=some v;simp
def FD(b:Expr):Prop:=∀o i,subscripted b false o i=operate [o,i] (getItem o i)
def Oj(X:Cx)(r:R2):Prop:=
 ∀(value slice:Expr) (aa:List (Addr×Obj)) (s:Shared) (σ:St) (H:Hp) (x y:V) (v u:Value) (Q:VK),xa X aa σ H s->RelV x v->RelV y u->r x y H Q->
  subscripted slice false v u=operate [v,u] (getItem v u)->wpAny (model X.prog X.w) X.A (subscriptTail value slice v u) (EP X aa σ Q) X.xe s
def yi(X:Cx)(id:String)(r:V->List V->Hp->VK->Prop):Prop:=
 ∀(aa:List (Addr×Obj)) (s:Shared) (σ:St) (H:Hp) (x:V) (xs:List V) (v:Value) (us:List Value) (Q:VK),xa X aa σ H s->RelV x v->Ea xs us->r x xs H Q->
  wpAny (model X.prog X.w) X.A (call (.builtin id) (v::us)) (EP X aa σ Q) X.xe s
section
variable{X:Cx}{a b:Expr}{ta tb:TE}{pos:Pos}
def Oj.or{r r':R2}(h:Oj X r)(h':Oj X r'):Oj X (λx y H Q=>r x y H Q\/r' x y H Q):=by
 intro value slice aa s σ H x y v u Q I rx ry q hs;rcases q with q|q
 .exact h value slice aa s σ H x y v u Q I rx ry q hs
 .exact h' value slice aa s σ H x y v u Q I rx ry q hs
def QW{r:R2}(hr:Oj X r)(ha:PE X a ta)(hb:PE X b tb)(hs:FD b):PE X (.Subscript a b pos) (gw r ta tb):=by
 intro aa s σ H Q I h;exact Subscript_ (MF ha hb I h λv u s2 x y H2 I2 rx ry q=>hr a b aa s2 σ H2 x y v u Q I2 rx ry q (hs _ _))
def IX(K:PySem.W.Frag):R2:=λx y H Q=>∃p xs i v,x=.ref p/\y=.int i/\jc K H p xs/\Wb xs i=some v/\Q v H
def JX(K:PySem.W.Frag):R2:=λx y H Q=>∃p xs i v,x=.ref p/\y=.int i/\af K H p xs/\Wb xs i=some v/\Q v H
def LX:R2:=λx y H Q=>∃z i c,x=.str z/\y=.int i/\z.length<=sizeLine/\Wb z.cps.toList i=some c/\Q (.str ⟨#[c]⟩) H
def υ:Oj X (IX X.K):=by
 intro value slice aa s σ H x y v u Q I rx ry h hs;obtain⟨p,xs,i,z,rfl,rfl,hq,he,q⟩:=h;cases rx;obtain⟨t,rfl⟩:=ry;obtain⟨Ga,r,pl,hz⟩:=I.list hq;obtain⟨j,h1,h2,h3,h4,h5⟩:=ED he;obtain⟨w,ew,Te⟩:=r.get h2;have hl:=r.length;have hn:=Np;have fin:EP X aa σ Q w s:=⟨z,H,I,Te,q⟩
 by_cases h0:0<=i
 .have hj:i.toNat=j:=by
   rw[seqIndex_of h0 h5]at h1;exact Zi h1
  exact item_listR pl.isList h0 (by omega) (by rw[hj];simpa using ew) fin hs
 .have hj:(i+(Ga.toArray.size:Int)).toNat=j:=by
   rw[seqIndex_neg (by omega) h4]at h1
   rw[De,<-hl];exact Zi h1
  exact subscriptTail_builtinR (x:=w) pl.isList.typeIs slot_list_getitem.lookup
   (wpAny_getItem_list_neg (Q:=λr s'=>r=w/\EP X aa σ Q r s') pl.isList (by omega) (by rw[De] <;> omega) (by omega) (by rw[hj];simpa using ew) ⟨rfl,fin⟩) hs
def bG7:Oj X (JX X.K):=by
 intro value slice aa s σ H x y v u Q I rx ry h hs;obtain⟨p,xs,i,z,rfl,rfl,hq,he,q⟩:=h;cases rx;obtain⟨t,rfl⟩:=ry;obtain⟨Ga,r,pl,hz⟩:=I.tuple hq;obtain⟨j,h1,h2,h3,h4,h5⟩:=ED he;obtain⟨w,ew,Te⟩:=r.get h2;have hl:=r.length;have hn:=Np;have fin:EP X aa σ Q w s:=⟨z,H,I,Te,q⟩;exact subscriptTail_builtinR (x:=w) pl.typeIs slot_tuple_getitem.lookup
  (getItem_tuple (j:=j) (Q:=λr s'=>r=w/\EP X aa σ Q r s') pl (by omega) (by omega) (by rw[De,<-hl];exact h1) (by simpa using ew) ⟨rfl,fin⟩) hs
def bG8:Oj X LX:=by
 intro value slice aa s σ H x y v u Q I rx ry h hs;obtain⟨z,i,c,rfl,rfl,hz,he,q⟩:=h;obtain⟨t,rfl⟩:=rx;obtain⟨t',rfl⟩:=ry;obtain⟨j,h1,h2,h3,h4,h5⟩:=ED he;have hl:z.cps.toList.length=z.length:=by simp[Str.length]
 rw[hl]at h1 h4 h5;have hn:=Np;exact tail_any (typeIs_str s z t) slot_str_getitem.lookup (getItem_str (c:=c) (by
  have e1:decide (i < -(2^63:Int))=false:=Cd (by omega)
  have e2:decide (i ≥ 2^63)=false:=Cd (by omega)
  rw[e1,e2,Bool.or_false]) (by rw[h1];simpa using h2) ⟨.str ⟨#[c]⟩,H,I.tok _,⟨_,rfl⟩,q⟩) hs
def WJ(K:PySem.W.Frag):R2:=λx y H Q=>IX K x y H Q\/JX K x y H Q\/LX x y H Q
def WU:Oj X (WJ X.K):=υ.or (bG7.or bG8)
def p6(Ga:List Value)(n j:Nat)(u:Value):Obj.mapSeq (·.setIfInBounds j u) {cls:=.type "list",data:=.seq Ga.toArray n}={cls:=.type "list",data:=.seq (Ga.set j u).toArray n}:=by
 simp[Obj.mapSeq]
theorem xa.lst{aa:List (Addr×Obj)}{σ:St}{H:Hp}{s:Shared}{p:Addr}{xs:List V}(I:xa X aa σ H s)(h:H p=some (.lst xs)) :
  ∃(Ga:List Value)(n:Nat),Ea xs Ga/\s.heap.get? p=some {cls:=.type "list",data:=.seq Ga.toArray n}/\xs.length<=sizeLine:=by
 obtain⟨z,Ga,n,r,e⟩:=I.Ra p _ h;exact⟨Ga,n,r,e,z⟩
def xa.bp{aa:List (Addr×Obj)}{σ:St}{H:Hp}{s:Shared}{p:Addr}{xs ys:List V}{Ga its':List Value}{n n':Nat}{f:Obj->Obj}(I:xa X aa σ H s)(h:H p=some (.lst xs))
  (ho:s.heap.get? p=some {cls:=.type "list",data:=.seq Ga.toArray n}) (hf:f {cls:=.type "list",data:=.seq Ga.toArray n}={cls:=.type "list",data:=.seq its'.toArray n'}) (r:Ea ys its') (hz:ys.length<=sizeLine) (t:Nat) :
  xa X aa σ (Ua H p (.lst ys)) {s with heap:=s.heap.update p f,toks:=t}:=by
 have e:(s.heap.update p f).get? p=some {cls:=.type "list",data:=.seq its'.toArray n'}:=by
  rw[Dm f ho (by rw[hf] <;> rfl),hf]
 refine I.write (x:=p) (e:=p) (by rw[h];trivial) (.inl rfl) (λb u hb q=>(bo _ _ (tf hb)).trans q) ⟨_,e⟩ ?_
 exact⟨hz,its',n',r,e⟩
def bJw:V->V->V->Hp->(Hp->Prop)->Prop:=λo i v H Q=>∃p xs k j,o=.ref p/\i=.int k/\H p=some (.lst xs)/\lc xs.length k=some j/\Q (Ua H p (.lst (xs.set j v)))
def set_list:LF X bJw:=by
 intro aa s σ H o i v ov iv u Q I ro ri rv h;obtain⟨p,xs,k,j,rfl,rfl,hp,hj,q⟩:=h;cases ro;obtain⟨t,rfl⟩:=ri;obtain⟨Ga,n,r,ho,hz⟩:=I.lst hp;obtain⟨h1,h2,h3,h4⟩:=BS hj;have hl:=r.length;have hn:=Np;have I':xa X aa σ (Ua H p (.lst (xs.set j v))) {s with heap:=s.heap.update p (Obj.mapSeq (·.setIfInBounds j u))}:=
  I.bp hp ho (p6 Ga n j u) (r.set rv j) (by rw[vg];exact hz) s.toks
 by_cases h0:0<=k
 .have hk:k.toNat=j:=by
   rw[seqIndex_of h0 h4]at h1;exact Zi h1
  exact PySem.W.ki_setAt ho h0 (by omega) (by rw[De,<-hl];exact h4) (by rw[hk];exact⟨_,I',q⟩)
 .have hk:(k+(Ga.toArray.size:Int)).toNat=j:=by
   rw[seqIndex_neg (by omega) h3]at h1
   rw[De,<-hl];exact Zi h1
  exact PySem.W.ki_setBack ho (by omega) (by rw[De,<-hl];exact h3) (by omega) (by rw[hk];exact⟨_,I',q⟩)
def d5(lo hi:Option Int)(n:Nat):(sliceBounds lo hi none n).1=((HT.Kc n 0 lo:Nat):Int)/\(sliceBounds lo hi none n).2.1=((HT.Kc n n hi:Nat):Int)/\(sliceBounds lo hi none n).2.2=1:=by
 refine⟨?_,?_,rfl⟩
 .cases lo with
  |none=>simp[sliceBounds,HT.Kc]
  |some i=>
   simp only[sliceBounds,HT.Kc,Option.getD_none,show (1:Int)>0 by decide,if_true]
   by_cases h:i<0
   .simp only[h,if_true] <;> omega
   .simp only[h,if_false] <;> omega
 .cases hi with
  |none=>simp[sliceBounds,HT.Kc]
  |some i=>
   simp only[sliceBounds,HT.Kc,Option.getD_none,show (1:Int)>0 by decide,if_true]
   by_cases h:i<0
   .simp only[h,if_true] <;> omega
   .simp only[h,if_false] <;> omega
def P4(Ga:List Value)(lo hi:Option Int):slicePick Ga.toArray lo hi none=((Ga.drop (HT.Kc Ga.length 0 lo)).take (HT.Kc Ga.length Ga.length hi-HT.Kc Ga.length 0 lo)).toArray:=by
 obtain⟨h1,h2,h3⟩:=d5 lo hi Ga.toArray.size;unfold slicePick;rw[h1,h2,h3];simp only[sliceRange_one,pick_run,List.size_toArray] <;> rfl
def bMm(K:PySem.W.Frag):V->Option Int->Option Int->Hp->VK->Prop:=λx lo hi H Q=>∃a xs,x=.ref a/\jc K H a xs/\∀p,H p=none->Q (.ref p) (Ua H p (.lst (wq xs lo hi)))
def CS:Fn X (bMm X.K):=by
 intro aa s σ H x v vl vu lo hi sl Q I rx hs pl pu h;obtain⟨a,xs,rfl,hx,q⟩:=h;cases rx;obtain⟨Ga,r,ht,hz⟩:=I.list hx;have Ya:=r.length;refine⟨"list",_,slot_list_getitem.lookup,ht.isList.typeIs,?_⟩;refine wpAny_getItem_list_slice ht.isList hs pl pu .none (by simp) ?_ (by rw[De] <;> omega)
 rw[P4,<-Ya];refine⟨.ref s.heap.objs.size,_,I.laid (t':=s.toks) (o:=.lst (wq xs lo hi)) (λb ob q=>Tb _ q) (Cb _) ?_,rfl,q _ (I.Ra.fresh (Cb _))⟩
 exact⟨Zd (G5 xs lo hi) hz,_,0,(r.drop (HT.Kc xs.length 0 lo)).take (HT.Kc xs.length xs.length hi-HT.Kc xs.length 0 lo),Pd _ rfl⟩
def n5:mL X (.builtin "len") (λxs H Q=>∃p ys,xs=[.ref p]/\(jc X.K H p ys\/af X.K H p ys)/\Q (.int ys.length) H):=by
 intro aa s σ H xs us Q I r h;obtain⟨p,ys,rfl,hq,q⟩:=h;obtain⟨u,rfl,rx⟩:=vals1 r;cases rx;have hn:=Np;rcases hq with hq|hq
 .obtain⟨Ga,r',pl,hz⟩:=I.list hq;have Ya:=r'.length;exact Calls.call_len_list pl.isList (by simp only[List.size_toArray] <;> omega) ⟨.int ys.length,H,I.tok _,⟨s.toks+1,by rw[De,Ya]⟩,q⟩
 .obtain⟨Ga,r',pl,hz⟩:=I.tuple hq;have Ya:=r'.length;exact len_tuple pl (by simp only[List.size_toArray] <;> omega) ⟨.int ys.length,H,I.tok _,⟨s.toks+1,by rw[De,Ya]⟩,q⟩
def o5:mL X (.builtin "len") (λxs H Q=>∃z,xs=[.str z]/\z.length<=sizeLine/\Q (.int z.length) H):=by
 intro aa s σ H xs us Q I r h;obtain⟨z,rfl,hz,q⟩:=h;obtain⟨u,rfl,t,rfl⟩:=vals1 r;have hn:=Np;exact len_str (by omega) ⟨.int z.length,H,I.tok _,⟨_,rfl⟩,q⟩
def mL.or{f:Value}{r r':List V->Hp->VK->Prop}(h:mL X f r)(h':mL X f r'):mL X f (λxs H Q=>r xs H Q\/r' xs H Q):=by
 intro aa s σ H xs us Q I rs q;rcases q with q|q
 .exact h aa s σ H xs us Q I rs q
 .exact h' aa s σ H xs us Q I rs q
def LK(K:PySem.W.Frag)(T:String)(x:V)(H:Hp):Prop:=match x with
 |.str _=>T="str"
 |.int _=>T="int"
 |.ref p=>(T="list"/\∃xs,jc K H p xs)\/(T="tuple"/\∃o,K.lookup p=some o/\o.cls=.type "tuple"/\o.dict=none)\/
   (T="dict"/\((∃ma,H p=some (.dK ma))\/∃ma,H p=some (.dT ma)))\/(T="set"/\∃S n,H p=some (.set S n))
 |_=>False
def XU{aa:List (Addr×Obj)}{σ:St}{H:Hp}{s:Shared}{T:String}{x:V}{v:Value}(I:xa X aa σ H s)(r:RelV x v)(ty:LK X.K T x H) :
  s.TypeIs v T/\∀a,v=.ref a->∃ob,s.heap.get? a=some ob/\ob.dict=none:=by
 cases x with
 |str z=>
  obtain⟨t,rfl⟩:=r;cases (show T="str" from ty)
  exact⟨typeIs_str s z t,λ_ e=>nomatch e⟩
 |int i=>
  obtain⟨t,rfl⟩:=r;cases (show T="int" from ty)
  exact⟨typeIs_int s i t,λ_ e=>nomatch e⟩
 |ref p=>
  cases r;rcases ty with ⟨rfl,xs,hq⟩|⟨rfl,o,hk,hc,hd⟩|⟨rfl,hk⟩|⟨rfl,S,n,hk⟩
  .obtain⟨Ga,_,pl,_⟩:=I.list hq;refine⟨pl.isList.typeIs,λa e=>?_⟩
   cases e;obtain⟨o,n,e,c,hd,_⟩:=pl;exact⟨o,e,hd⟩
  .refine⟨⟨o,I.Nf p o hk,hc⟩,λa e=>?_⟩
   cases e;exact⟨o,I.Nf _ o hk,hd⟩
  .have z:∃o,s.heap.get? p=some o/\o.ExactDict:=by
    rcases hk with ⟨ma,hk⟩|⟨ma,hk⟩
    .obtain⟨_,_,_,_,o,_,_,e,ex,_⟩:=I.Ra p _ hk;exact⟨o,e,ex⟩
    .obtain⟨_,_,_,_,o,_,_,e,ex,_⟩:=I.Ra p _ hk;exact⟨o,e,ex⟩
   obtain⟨o,e,ex⟩:=z;refine⟨⟨o,e,ex.1⟩,λa e2=>?_⟩
   cases e2;exact⟨o,e,ex.2.1⟩
  .obtain⟨o,_,_,_,e,ex,_⟩:=I.Ra p _ hk;refine⟨⟨o,e,ex.1⟩,λa e2=>?_⟩
   cases e2;exact⟨o,e,ex.2.1⟩
 |_=>exact False.elim ty
def bMn(K:PySem.W.Frag)(T:String)(r:V->List V->Hp->VK->Prop)(to:TE):TE:=λσ H Q=>to σ H λx H1=>LK K T x H1/\r x [] H1 Q
def tBM(K:PySem.W.Frag)(T:String)(r:V->List V->Hp->VK->Prop)(to:TE)(t:TA):TE:=λσ H Q=>to σ H λx H1=>LK K T x H1/\t σ H1 λxs H2=>r x xs H2 Q
variable{o e:Expr}{es:List Expr}{to:TE}{t:TA}{name:Str}{Oa Aa:Pos}{T id:String}{r:V->List V->Hp->VK->Prop}
def Vx(pa:PlainAttrs T)(slot:Slot T name id)(Jv:typeOf (.builtin id)=pure (.type "method_descriptor"))(hm:yi X id r)(ho:PE X o to)
  (qb:attributeBase o name X.env (eval o X.env)=eval o X.env:=by rfl) (ub:(Oa.endLine==Aa.line)=true:=by rfl):PE X (.Call (.Attribute o name Oa) [] [] Aa) (bMn X.K T r to):=by
 intro aa s σ H Q I h;refine wpAny_Call_method0_late qb ub (Ib (ho aa s σ H _ I h) λv s1 ⟨x,H1,I1,r1,ty,q1⟩=>?_)
 obtain⟨h1,h2⟩:=XU I1 r1 ty;exact⟨T,id,pa,slot,Jv,h1,h2,dz rfl (PySem.evalArgs_none (hm aa s1 σ H1 x [] v [] Q I1 r1 .nil q1))⟩
def tm(pa:PlainAttrs T)(slot:Slot T name id)(Jv:typeOf (.builtin id)=pure (.type "method_descriptor"))(hm:yi X id r)(ho:PE X o to)(ha:PA X (e::es) t)
  (qb:attributeBase o name X.env (eval o X.env)=eval o X.env:=by rfl)
  (md:((backTo Aa (starEach (e::es) X.env)).all (λx=>!x.1)&&(backToKw Aa (keywordEach [] X.env)).all (λx=>x.1.isSome)
   && decide ((e::es).length+([]:List Keyword).length+(if ([]:List Keyword).isEmpty then 0 else 1)<30))=true:=by rfl)
  (ub:(Oa.endLine==Aa.line)=true:=by rfl) (hs:starEach (e::es) X.env=(false,eval e X.env)::starEach es X.env:=by rfl) (qd:(backTo Aa (starEach es X.env)).any (·.1)=false:=by rfl) :
  PE X (.Call (.Attribute o name Oa) (e::es) [] Aa) (tBM X.K T r to t):=by
 intro aa s σ H Q I h;refine wpAny_Call_method_late qb md ub rfl (Ib (ho aa s σ H _ I h) λv s1 ⟨x,H1,I1,r1,ty,q1⟩=>?_)
 obtain⟨h1,h2⟩:=XU I1 r1 ty;refine⟨T,id,pa,slot,Jv,h1,h2,?_⟩;have hA:=ha Aa aa s1 σ H1 _ I1 q1;rw[hs]at hA ⊢;refine dz (by show (false||(backTo Aa (starEach es X.env)).any (·.1))=false;rw[qd] <;> rfl) (CG ?_)
 exact Ib hA λus s2 ⟨vs,H2,I2,r2,q2⟩=>hm aa s2 σ H2 x vs v us Q I2 r1 r2 q2
end
end L2
namespace L2
open PySem PySem.Spec PyProof.Rows
def Ew(X:Cx)(id:String)(r:V->List V->Hp->VK->Prop):Prop:=
 ∀(aa:List (Addr×Obj)) (s:Shared) (σ:St) (H:Hp) (x:V) (xs:List V) (v:Value) (us:List Value) (Q:VK),xa X aa σ H s->RelV x v->Ea xs us->r x xs H Q->
  wpAny (model X.prog X.w) X.A (call (.builtin id) (v::us)) (EP X aa σ Q) X.xe s
def Ea.one:∀{x:V}{us:List Value},Ea [x] us->∃u,us=[u]/\RelV x u
 |_,_,.cons r .nil=>⟨_,rfl,r⟩
def Ea.two:∀{x y:V}{us:List Value},Ea [x,y] us->∃u v,us=[u,v]/\RelV x u/\RelV y v
 |_,_,_,.cons r (.cons q .nil)=>⟨_,_,rfl,r,q⟩
def Ea.zero:∀{us:List Value},Ea [] us->us=[]
 |_,.nil=>rfl
theorem Ea.dropLast{xs:List V}{us:List Value}(h:Ea xs us):Ea xs.dropLast us.dropLast:=by
 induction h with
 |nil=>exact .nil
 |cons r t ih=>
  cases t with
  |nil=>exact .nil
  |cons q t'=>exact .cons r ih
theorem Ea.eraseIdx:∀{xs:List V}{us:List Value}(i:Nat),Ea xs us->Ea (xs.eraseIdx i) (us.eraseIdx i)
 |_,_,_,.nil=>.nil
 |_,_,0,.cons _ t=>t
 |_,_,i+1,.cons r t=>.cons r (Ea.eraseIdx i t)
theorem Ea.reverse{xs:List V}{us:List Value}(h:Ea xs us):Ea xs.reverse us.reverse:=by
 induction h with
 |nil=>exact .nil
 |cons r t ih=>rw[List.reverse_cons,List.reverse_cons];exact Ea.append ih (.cons r .nil)
theorem Ea.rep{xs:List V}{us:List Value}(h:Ea xs us):∀k:Nat,Ea (List.replicate k xs).flatten (List.replicate k us).flatten
 |0=>.nil
 |k+1=>by
  rw[ll,ll,jo,jo];exact Ea.append h (Ea.rep h k)
def u6{α:Type}(l:List α):l.eraseIdx (l.length-1)=l.dropLast:=by
 induction l with
 |nil=>rfl
 |cons a r ih=>
  cases r with
  |nil=>rfl
  |cons b r=>
   have e:(a::b::r).length-1=((b::r).length-1)+1:=by
    have h1:(a::b::r).length=r.length+2:=rfl;have h2:(b::r).length=r.length+1:=rfl;omega
   rw[e,List.eraseIdx_cons_succ,ih]
   all_goals rfl
theorem bP{α:Type}:∀(l:List α)(i:Nat),(l.eraseIdx i).length<=l.length
 |[],_=>Cb _
 |_::_,0=>Om _
 |_::r,i+1=>Nat.succ_le_succ (bP r i)
theorem foldl_rep(Ga:List Value):∀(k:Nat)(qa:List Value),
  List.foldl (λx1 x2=>x1++x2) qa.toArray (List.replicate k Ga.toArray)=(qa++(List.replicate k Ga).flatten).toArray
 |0,qa=>by simp
 |k+1,qa=>by
  have e:qa.toArray++Ga.toArray=(qa++Ga).toArray:=by simp
  have e2:(qa++Ga)++(List.replicate k Ga).flatten=qa++(List.replicate (k+1) Ga).flatten:=by
   rw[ll,jo,wl]
  rw[<-e2,<-foldl_rep Ga k (qa++Ga),<-e,ll,Mm]
section
variable{X:Cx}{aa:List (Addr×Obj)}{σ:St}{H:Hp}{s:Shared}{l b:Addr}{xs ys zs:List V}
def xa.xj{Ga its':List Value}{n:Nat}{f:Array Value->Array Value}{t':Nat}(I:xa X aa σ H s)(hH:H l=some (.lst xs))
  (e:s.heap.get? l=some {cls:=.type "list",data:=.seq Ga.toArray n}) (hf:f Ga.toArray=its'.toArray) (hv:Ea ys its') (hz:ys.length<=sizeLine) :
  xa X aa σ (Ua H l (.lst ys)) {s with heap:=s.heap.update l (Obj.mapSeq f),toks:=t'}:=by
 have q:=PySem.IsL.update e f;rw[hf]at q;refine I.write (x:=l) (e:=l) (by rw[hH];exact trivial) (.inl rfl) (λb' u hb hu=>(bo s.heap (Obj.mapSeq f) (tf hb)).trans hu) ⟨_,q⟩ ?_
 exact⟨hz,its',_,hv,q⟩
def xa.ap{Ga:List Value}{t':Nat}(I:xa X aa σ H s)(hv:Ea ys Ga)(hz:ys.length<=sizeLine) :
  xa X aa σ (Ua H s.heap.objs.size (.lst ys)) {s with heap:=s.heap.push {cls:=.type "list",data:=.seq Ga.toArray},toks:=t'}:=
 I.laid (λ_ _ q=>Tb _ q) (Cb _) ⟨hz,Ga,0,hv,Pd _ rfl⟩
theorem xa.fresh(I:xa X aa σ H s):H s.heap.objs.size=none:=I.Ra.fresh (Cb _)
def xa.mh(I:xa X aa σ H s)(hH:H l=some (.lst xs)):xs.length<=sizeLine/\∃(Ga:List Value)(n:Nat),Ea xs Ga/\xs.length=Ga.length/\s.heap.get? l=some {cls:=.type "list",data:=.seq Ga.toArray n}:=by
 obtain⟨z,Ga,n,r,e⟩:=I.Ra l _ hH;exact⟨z,Ga,n,r,r.length,e⟩
def LQ{n:Nat}(h:n<=sizeLine):Builtin.List.listTooLong n=false:=by
 unfold Builtin.List.listTooLong;exact Cd (by omega)
end
section
variable{X:Cx}
def χ:V->List V->Hp->VK->Prop:=λx vs H Q=>∃l xs y,x=.ref l/\vs=[y]/\H l=some (.lst xs)/\xs.length<sizeLine/\Q .Gb (Ua H l (.lst (xs++[y])))
def dP:Ew X "list.append" χ:=by
 intro aa s σ H x vs v us Q I rx rv h;obtain⟨l,xs,y,rfl,rfl,hH,hz,q⟩:=h;cases rx;obtain⟨u,rfl,ru⟩:=rv.one;obtain⟨z,Ga,n,r,hl,e⟩:=I.mh hH;refine Nm cz ⟨_,e,rfl⟩ F.entry_list_append (SY _ _) (PySem.list_append l Ga.toArray n u (by rw[De];omega)) ⟨e,?_⟩
 refine⟨.Gb,_,I.xj (its':=Ga++[u]) hH e (by simp) (r.append (.cons ru .nil)) ?_,rfl,q⟩
 rw[we,Ci];omega
def ψ:V->List V->Hp->VK->Prop:=λx vs H Q=>∃l b xs zs,x=.ref l/\vs=[.ref b]/\H l=some (.lst xs)/\H b=some (.lst zs)/\xs.length+zs.length<=sizeLine/\Q .Gb (Ua H l (.lst (xs++zs)))
def M7:Ew X "list.extend" ψ:=by
 intro aa s σ H x vs v us Q I rx rv h;obtain⟨l,b,xs,zs,rfl,rfl,hH,hB,hz,q⟩:=h;cases rx;obtain⟨u,rfl,ru⟩:=rv.one;cases ru;obtain⟨z,Ga,n,r,hl,e⟩:=I.mh hH;obtain⟨z2,ig,n2,r2,I0,e2⟩:=I.mh hB;have hsz:Ga.toArray.size+ig.toArray.size<=sizeLine:=by rw[De,De];omega
 have mj:¬ (!Ga.toArray.isEmpty&&Builtin.List.listTooLong (Ga.toArray.size+ig.toArray.size))=true:=by
  rw[LQ hsz,Bool.and_false];exact Ef
 refine Nm F.slot_list_extend ⟨_,e,rfl⟩ F.entry_list_extend (F.args_list_extend_2 _ _)
  (AutoSeq1.list_extend_list_list_0 l Ga.toArray n b ig.toArray n2 mj (by rw[De];omega) (by omega)) ⟨e,e2,?_⟩
 refine⟨.Gb,_,I.xj (its':=Ga++ig) hH e (by simp) (r.append r2) ?_,rfl,q⟩
 rw[we];omega
def bMo:V->List V->Hp->VK->Prop:=λx vs H Q=>∃l xs y,x=.ref l/\vs=[]/\H l=some (.lst xs)/\xs[xs.length-1]?=some y/\Q y (Ua H l (.lst xs.dropLast))
def bG9:Ew X "list.pop" bMo:=by
 intro aa s σ H x vs v us Q I rx rv h;obtain⟨l,xs,y,rfl,rfl,hH,hy,q⟩:=h;cases rx;have Wo:=rv.zero;subst Wo;obtain⟨z,Ga,n,r,hl,e⟩:=I.mh hH;obtain⟨u,hu,ru⟩:=r.get hy;have Ol:Ga.toArray[Ga.toArray.size-1]?=some u:=by
  show Ga.toArray[Ga.length-1]?=some u;rw[<-xl,<-hl];exact hu
 refine Nm yz ⟨_,e,rfl⟩ F.entry_list_pop (F.args_list_pop_1 _) (MeetsSeq.list_pop_last l Ga.toArray n u Ol (by rw[De];omega)) ⟨e,?_⟩
 refine⟨y,_,I.xj (its':=Ga.dropLast) hH e ?_ r.dropLast ?_,ru,q⟩
 .show Ga.toArray.eraseIdxIfInBounds (Ga.toArray.size-1)=Ga.dropLast.toArray;rw[De,AY,u6]
 .rw[List.length_dropLast];omega
def bGa:V->List V->Hp->VK->Prop:=λx vs H Q=>∃l xs i k y,x=.ref l/\vs=[.int i]/\H l=some (.lst xs)/\-(2^63)<=i/\i<2^63/\seqIndex? i xs.length=some k/\xs[k]?=some y/\Q y (Ua H l (.lst (xs.eraseIdx k)))
def s9:Ew X "list.pop" bGa:=by
 intro aa s σ H x vs v us Q I rx rv h;obtain⟨l,xs,i,k,y,rfl,rfl,hH,h1,h2,hk,hy,q⟩:=h;cases rx;obtain⟨u,rfl,ru⟩:=rv.one;obtain⟨t,rfl⟩:=ru;obtain⟨z,Ga,n,r,hl,e⟩:=I.mh hH;obtain⟨w,hw,Te⟩:=r.get hy;refine Nm yz ⟨_,e,rfl⟩ F.entry_list_pop (F.args_list_pop_2 _ _)
  (MeetsSeq.list_pop_at l Ga.toArray n i t k w (fitsIndex_both h1 h2) (by rw[De,<-hl];exact hk) (by rw[<-xl];exact hw) (by rw[De];omega)) ⟨e,?_⟩
 refine⟨y,_,I.xj (its':=Ga.eraseIdx k) hH e ?_ (r.eraseIdx k) ?_,Te,q⟩
 .show Ga.toArray.eraseIdxIfInBounds k=(Ga.eraseIdx k).toArray;rw[AY]
 .have:=bP xs k;omega
def bMp:R2:=λx y H Q=>∃l k xs,x=.ref l/\y=.int k/\H l=some (.lst xs)/\-(2^63)<=k/\k<2^63/\xs.length*k.toNat<=sizeLine/\
 ∀p,H p=none->Q (.ref p) (Ua H p (.lst (List.replicate k.toNat xs).flatten))
def len_rep{α:Type}(xs:List α)(k:Nat):(List.replicate k xs).flatten.length=k*xs.length:=by
 induction k with
 |zero=>simp
 |succ k ih=>rw[ll,jo,we,ih,Lz,Nat.add_comm]
def YU:Yc X (binaryOp .Mult) bMp:=by
 intro aa s σ H x y v u Q I rx ry h;obtain⟨l,k,xs,rfl,rfl,hH,h1,h2,hz,q⟩:=h;cases rx;obtain⟨t,rfl⟩:=ry;obtain⟨z,Ga,n,r,hl,e⟩:=I.mh hH;have Ya:Ga.toArray.size*k.toNat<=sizeLine:=by rw[De,<-hl];exact hz
 have UH:¬ Ga.toArray.size*k.toNat>(2^63-1)/8:=by
  have:(sizeLine:Nat)<=(2^63-1)/8:=by decide
  omega
 have eI:¬ (!Builtin.List.listFitsIndex k)=true:=by
  rw[fitsIndex_both h1 h2];exact Ef
 have mj:¬ Builtin.List.listTooLong (Ga.toArray.size*k.toNat)=true:=by
  rw[LQ Ya];exact Ef
 have CI:List.foldl (λx1 x2=>x1++x2) #[] (List.replicate (if Ga.toArray.isEmpty=true then 0 else k.toNat) Ga.toArray)=(List.replicate k.toNat Ga).flatten.toArray:=by
  have f0:∀m:Nat,List.foldl (λx1 x2=>x1++x2) #[] (List.replicate m Ga.toArray)=(List.replicate m Ga).flatten.toArray:=λm=>by
   have:=foldl_rep Ga m [];rw[Gu]at this;exact this
  rw[f0];cases Ga with
  |nil=>simp
  |cons a r'=>rw[La (by simp)]
 refine wpAny_binaryOp_repeat_ref (T:="list") (U:="int") (by decide) ⟨_,e,rfl⟩ (λs'=>typeIs_int s' k t) noFill_list_mul F.fills_int_mul F.slot_int_rmul repeat_list F.slot_int_index.lookup
  (Nm F.slot_int_rmul (typeIs_int s k t) F.entry_int_rmul (F.args_int_rmul_2 _ _) (int___rmul___int_list k t l Ga.toArray n)
   ⟨e,rfl,⟨_,e,rfl⟩,Nm F.slot_list_mul ⟨_,e,rfl⟩ F.entry_list_mul (F.args_list_mul_2 _ _) (AutoListH.list___mul___list_int_3 l Ga.toArray n k t eI UH mj) ⟨e,?_⟩⟩)
 rw[CI];exact⟨.ref _,_,I.ap (t':=s.toks) (r.rep k.toNat) (by rw[len_rep,ZG];exact hz),rfl,q _ I.fresh⟩
end
end L2
namespace Att
open PySem PySem.W PySem.Calls PyProof.Rows
def d4{P:Params}{h:Heap}:∀(ns:List Int)(vs:List Value),WellAll P h vs (ns.map WData.int)->IntsAre vs ns:=by
 intro ns
 induction ns with
 |nil=>
  intro vs w;rw[kH]at w;cases w;exact .nil
 |cons n ns ih=>
  intro vs w;rw[wc]at w;cases w with
  |cons a b=>
   cases a;exact .cons _ _ (ih _ b)
def N7{l:OpenLaw}{n:Nat}(hn:l.most=some n){P:Params}{h:Heap}{args:List WData}{vals:List Value}
  (Ll:l.row.toRowW.claim.pre args=true) (QI:WellAll P h vals args) :
  ∃a vs ns,vals=[Value.ref a]/\args=[WData.list (ns.map WData.int)]/\h.get? a=some {cls:=.type "list",data:=.seq vs.toArray}/\IntsAre vs ns/\ns.length<=n:=by
 have hsh:WShape.hasAll [] args [.list .int]=true:=(pre_splitW Ll).1;have hc:l.pre.holds [] {args:=args}=true:=(pre_splitW Ll).2;obtain⟨d,r,rfl,h1,h2⟩:=hasAllW_cons hsh;obtain rfl:=hasAllW_nil h2;obtain⟨xs,rfl,h3⟩:=hasW_list h1;obtain⟨ns,rfl⟩:=items_int h3;have Ya:ns.length<=n:=by
  unfold OpenLaw.pre at hc;have h4:(WTm.not (.lt (.lit (.int (n:Int))) (.len (.arg 0)))).holds [] {args:=[.list (ns.map .int)]}=true:=by
   have h4:=(holds_andW hc).1;rw[hn]at h4;exact h4
  have h5:=condW_of h4 (w_not (w_lt w_lit (w_len_list (w_arg rfl))));rw[uc]at h5;refine Nat.le_of_not_lt λq=>?_
  have q':(n:Int)<((ns.length:Nat):Int):=by omega
  first
   |(rw[Ld q']at h5;exact absurd h5 (by decide))
   |(simp at h5;omega)
 cases QI with
 |cons w1 w2=>
  cases w2;cases w1 with
  |list ho ij=>exact⟨_,_,ns,rfl,rfl,ho,d4 ns _ ij,Ya⟩
def O7(l:OpenLaw)(args:List WData):l.row.toRowW.claim.post args (.bool true) args=true:=
 postW_of (r:=l.row.toRowW) (X:=(true==true))
  (show WShape.has [] (.bool true) .bool=true by first|rfl|decide|simp[WShape.has,WShape.arms,WShape.armsAll])
  (show (WTm.eq .res (.lit (.bool true))).value [] {args:=args,res:=some (.bool true),after:=args}=some (.bool (true==true)) from w_eq_bool (w_res rfl) w_lit) rfl
def Bg{l:OpenLaw}{n:Nat}{q:Program}{loose:List Str}{XP:(Str->Option Value)->Heap->Prop}{YP:World->Heap->Prop}{d:DefRec}
  (hn:l.most=some n) (sv:d.params.defaults=[])
  (call:∀(w:World)(ua Wa:Shared)(mg mb:Str->Option Value)(fa:Addr)(o:Obj)(pm cd doc:Value)(a:Addr)(vs:List Value)(ns:List Int),
   Ground q loose [] XP w ua mg mb Wa.heap->YP w Wa.heap->
   Wa.heap.get? fa=some o->o.data=.func (docDef d.name d.params d.body d.scope pm cd doc)->Wa.heap.CodeRec cd d.name->mg d.name=some (.ref fa)->
   Wa.heap.get? a=some {cls:=.type "list",data:=.seq vs.toArray}->IntsAre vs ns->ns.length<=n->Wa.gens = #[]->
   codeAny (model l.prog w) callerA (.call (.ref fa) ⟨[.ref a],[]⟩) (λr s'=>r=.ok (.ret (.bool true))/\OldK Wa.heap s'.heap/\s'.os=Wa.os/\AllBare s'.gens) Wa) :
  WalkO q loose XP YP l.row.toRowW d [] (λf vs=>PySem.call f vs):=by
 intro w ua Wa mg mb G Y fa o pm cd doc dV kV ho hd Ec hD hmg hg args vals as Ll hlay hrd QI hlo;obtain rfl:dV=.none:=Dflts.none hD sv;obtain rfl:kV=.none:=Dflts.noKw hD;obtain⟨a,vs,ns,rfl,rfl,Ro,hints,Ya⟩:=N7 hn Ll QI;refine enter_call (qo (call w ua Wa mg mb fa o pm cd doc a vs ns G Y ho (fd_plain hd) Ec hmg Ro hints Ya hg) λr s' hq=>?_)
 obtain⟨rfl,h2,h3,h4⟩:=hq;exact⟨.inl ⟨.bool true,.bool true,[],rfl,λ_=>rfl,.bool true,O7 l _,λ_=>⟨List.Pairwise.nil,λ_ hm=>(nomatch hm)⟩⟩,h2,h3,h4⟩
end Att
namespace L2
open PySem PySem.Spec PyProof.Rows
theorem Yb:∀{vs:List Value}{ns:List Int},IntsAre vs ns->Ea (ns.map V.int) vs
 |_,_,.nil=>.nil
 |_,_,.cons n t h=>.cons ⟨t,rfl⟩ (Yb h)
def En(H:Hp):Prop:=∀b,H b=none\/∃o xs,H b=some (.ci o (.lst xs))
def t9{P:Program}{w:World}{K:PySem.W.Frag}{mg mb:Str->Option Value}{CX:Kj}{k:Nat}{fa a:Addr}{fd:FuncData}{x:Str}{sp:Sp}{Wa:Shared}{vs:List Value}{ns:List Int}
  (KX:K.In Wa.heap) (Br:Wa.heap.Ns mainGlobals mg) (hb:Wa.heap.Ns builtinsNs mb) (hbb:∀x:Str,x≠"__name__"->mb x=bootBuiltins x) (oI:Wa.heap.NoLimit) (hg:Wa.gens = #[])
  (ha:Wa.heap.get? a=some {cls:=.type "list",data:=.seq vs.toArray}) (hi:IntsAre vs ns) (hl:ns.length<=sizeLine) (hr:Kb k callerA)
  (F:∀base:Heap,K.In base->base.Ns mainGlobals mg->Ja P w K mg base CX k fa fd [x] sp) (av:∀(s:Shared)(u:Value),BindsTo s fd ⟨[u],[]⟩ [(x,u)])
  (qj:∀H:Hp,En H->jc K H a (ns.map V.int)->sp [.ref a] H (λv _=>v=.bl true) λ_ _ _=>False)
  (PH:∀H e s',CX [] H Wa (λ_ _ _=>False) e s'->False) :
  codeAny (model P w) callerA (.call (.ref fa) ⟨[.ref a],[]⟩) (λr s'=>r=.ok (.ret (.bool true))/\OldK Wa.heap s'.heap/\s'.os=Wa.os/\AllBare s'.gens) Wa:=by
 have rv:=Yb hi;have AJ:=hi.length;have core:∀H:Hp,En H->jc K H a (ns.map V.int)->Od P w H Wa.heap->(∀b,H b≠none->b=a)->(H a≠none->K.lookup a=none)->
   codeAny (model P w) callerA (.call (.ref fa) ⟨[.ref a],[]⟩) (λr s'=>r=.ok (.ret (.bool true))/\OldK Wa.heap s'.heap/\s'.os=Wa.os/\AllBare s'.gens) Wa:=by
  intro H hO hS Ra hA hK;have Dh:∀{b:Addr}{o:Obj},Wa.heap.get? b=some o->H b=none->(Nk Wa.heap H).get? b=some o:=λe n=>g9 e n
  have Vv:∀{b:Addr}{o:Obj}{es:Array DictEntry}{ep:Nat},Wa.heap.get? b=some o->o.data=.dict es ep->H b=none:=λ{b o es ep} e d=>by
   cases q:H b with
   |none=>rfl
   |some u=>
    have e':b=a:=hA b (by rw[q];simp)
    subst e';rw[ha]at e;cases e;have d':Data.seq vs.toArray _=Data.dict es ep:=d;cases d'
  have AA:∀{b:Addr}{m:Str->Option Value},Wa.heap.Ns b m->(Nk Wa.heap H).Ns b m:=λ{b m} ⟨o,es,ep,e,d,r⟩=>⟨o,es,ep,Dh e (Vv e d),d,r⟩
  have C0:K.In (Nk Wa.heap H):=λb o e=>Dh (KX b o e) (by
   cases q:H b with
   |none=>rfl
   |some u=>
    have e':b=a:=hA b (by rw[q];simp)
    subst e';rw[hK (by rw[q];simp)]at e;cases e)
  have hM:Mod K mg (Nk Wa.heap H):=⟨C0,AA Br,⟨mb,AA hb,hbb⟩,let ⟨mc,h1,h2⟩:=oI;⟨mc,AA h1,h2⟩⟩;have e0:Zg P w K mg (Nk Wa.heap H) callerA [] Wa H:=⟨rfl,hM,λb o e=>R' e,Cu (A7 _ _),trivial,λb hb=>absurd (show b∈([]:List Addr) from hb) (by simp),Ra,.of_eq hg⟩
  refine qo ((F _ C0 (AA Br)).run callerA [] Wa H ⟨[.ref a],[]⟩ [.ref a] [.ref a] _ _ hr e0 (av Wa (.ref a)) (.cons rfl .nil) (qj H hO hS)) λr s' h=>?_
  cases r with
  |error e=>exact(PH H e s' h).elim
  |ok fl=>
   cases fl with
   |next=>exact False.elim h
   |brk=>exact False.elim h
   |cont=>exact False.elim h
   |ret u=>
    obtain⟨v,H',os,bare,un,EI,r',q⟩:=h;have q':v=.bl true:=q;subst q';obtain rfl:u=Value.bool true:=r';refine⟨rfl,OldK.of_keep λb o e=>?_,os,bare⟩
    cases q:H b with
    |none=>exact un.keep b o e q (by intro z;exact absurd (show b∈([]:List Addr) from z) (by simp)) (by simp)
    |some u=>
     rcases hO b with z|⟨ob,xs,z⟩
     .rw[q]at z;cases z
     .have z2:=un.Af b ob _ z;obtain⟨e1,_⟩:=Ra b _ z;obtain⟨e2,_⟩:=EI b _ z2;rw[e]at e1;cases e1;exact e2
 cases hk:K.lookup a with
 |some o=>
  have e:=KX a o hk;rw[ha]at e;cases e;refine core (λ_=>none) (λ_=>.inl rfl) (.inr ⟨_,vs.toArray,_,hk,rfl,rfl,rfl,by rw[De,AJ];exact hl,by simpa using rv⟩) (λb u z=>by have z':(none:Option HO)=some u:=z;cases z') (λb z=>absurd rfl z) λz=>absurd rfl z
 |none=>
  refine core (λb=>if b=a then some (.ci {cls:=.type "list",data:=.seq vs.toArray} (.lst (ns.map V.int))) else none) (λb=>?_) (.inl (.inr ⟨{cls:=.type "list",data:=.seq vs.toArray},Na rfl⟩)) (λb u z=>?_) (λb z=>?_) λ_=>hk
  .by_cases hb:b=a
   .exact .inr ⟨_,_,Na hb⟩
   .exact .inl (La hb)
  .by_cases hb:b=a
   .have z':=(Na hb).symm.trans z;cases z';subst hb;exact⟨ha,by rw[uc];exact hl,vs,_,rv,ha⟩
   .have z':=(La hb).symm.trans z;cases z'
  .by_cases hb:b=a
   .exact hb
   .exact absurd (La hb) z
end L2
namespace L2
open PySem PySem.Spec PyProof.Rows
def fm{l:PySem.W.OpenLaw}{n k:Nat}{q:Program}{loose:List Str}{XP:(Str->Option Value)->Heap->Prop}{YP:World->Heap->Prop}{d:DefRec}{K:Params->PySem.W.Frag}{CX:World->Kj}{sp:World->Sp}{x:Str}
  (hn:l.most=some n) (eA:n<=sizeLine) (sv:d.params.defaults=[]) (hr:Kb k callerA)
  (hY:∀(w:World)(h:Heap),YP w h->(K w.params).In h)
  (F:∀(w:World)(mg:Str->Option Value)(fa:Addr)(h:Heap),(K w.params).In h->h.Ns mainGlobals mg->mg d.name=some (.ref fa)->
   ∃fd:FuncData,(∀(s:Shared)(u:Value),BindsTo s fd ⟨[u],[]⟩ [(x,u)])/\
    ∀base:Heap,(K w.params).In base->base.Ns mainGlobals mg->Ja l.prog w (K w.params) mg base (CX w) k fa fd [x] (sp w))
  (qj:∀(w:World)(H:Hp)(a:Addr)(ns:List Int),ns.length<=n->En H->jc (K w.params) H a (ns.map V.int)->sp w [.ref a] H (λv _=>v=.bl true) λ_ _ _=>False)
  (PH:∀(w:World)(H:Hp)(s:Shared)(e:Value)(s':Shared),CX w [] H s (λ_ _ _=>False) e s'->False) :
  PySem.W.WalkO q loose XP YP l.row.toRowW d [] (λf vs=>PySem.call f vs):=by
 refine Att.Bg hn sv λw ua Wa mg mb fa o pm cd doc a vs ns G Y ho hd Ec hmg Ro hints Ya hg=>?_
 have KX:=hY w _ Y;obtain⟨fd,hb,hF⟩:=F w mg fa _ KX G.T.g hmg;exact t9 KX G.T.g G.T.b G.T.builtins G.T.nolimit hg Ro hints (Zd Ya eA) hr hF hb (λH hO hS=>qj w H a ns Ya hO hS) λH e s'=>PH w H Wa e s'
end L2
namespace L2
open PySem PySem.Spec PyProof.Rows
def fX(s:Stmt):Arguments:=match s with
 |.FunctionDef _ a _ _ _ _ _ _ _ _=>a
 |_=>{posonlyargs:=[],args:=[],vararg:=none,kwonlyargs:=[],kw_defaults:=[],kwarg:=none,defaults:=[]}
def dY(s:Stmt):List Stmt:=match s with
 |.FunctionDef _ _ b _ _ _ _ _ _ _=>b
 |_=>[]
def aH(s:Stmt):Scope:=match s with
 |.FunctionDef _ _ _ _ _ _ sc _ _ _=>sc
 |_=>{kind:=.function,names:=[],isGenerator:=false,isCoroutine:=false}
abbrev yb:Kj:=λ_ _ _ _ _ _=>False
abbrev E0:XK:=λ_ _ _=>False
def xt{X:Cx}:Pp yb X E0:=λ_ _ _ _ _ _ _ h=>h.elim
structure An(K:PySem.W.Frag)(x qual:Str)(st:Stmt)(f:Addr)(fd:FuncData):Prop where
 ex:∃(oc:Value)(od:Option Addr)(kV doc pm:Value)(an:Option Addr)(Qa ct:Value) (xg:Array (Option Value)),
  fd=PySem.W.fnOf x qual (fX st) (dY st) (aH st) .none kV doc pm an Qa ct/\K.lookup f=some ⟨oc,od,.func fd,xg⟩/\PySem.W.codeIn K Qa qual=true
 kp:PySem.W.keepIn K (.ref f)=true
section
variable{P:Program}{w:World}{K:PySem.W.Frag}{mg:Str->Option Value}{base:Heap}
def An.ok{x qual:Str}{st:Stmt}{f:Addr}{fd:FuncData}{N ps:List Str}{k:Nat}{sp:Sp}(F:An K x qual st f fd)(S:oa N ps (aH st))(len:∀vs H Q E,sp vs H Q E->vs.length=ps.length)
  (Fg:∀(Qa:Value)(A:Around)(outer:List Env)(s:Shared)(H:Hp)(vs:List V)(Q:VK)(E:XK),Kb k (A.deeper (envOfC qual (aH st) s.heap.objs.size f Qa))->sp vs H Q E->
   ∃t,Dc (Ri yb P w K mg base N qual (aH st) f Qa A outer s H E).qk (dY st) t/\t {nx:=λ_ H'=>Q .Gb H',rt:=Q} (start N vs) H):Ja P w K mg base yb (k+1) f fd ps sp:=by
 obtain⟨oc,od,kV,doc,pm,an,Qa,ct,xg,rfl,lk,Ec⟩:=F.ex;refine OW lk Ec S len λA outer s H vs Q E hr qj=>?_
 obtain⟨t,h,q⟩:=Fg Qa A outer s H vs Q E hr qj;exact⟨t,h.qk,q⟩
def An.binds{x qual:Str}{st:Stmt}{f:Addr}{fd:FuncData}{ps:List Str}(F:An K x qual st f fd)
  (h:∀(kV doc pm:Value)(an:Option Addr)(Qa ct:Value)(us:List Value),us.length=ps.length->bindArgs (PySem.W.fnOf x qual (fX st) (dY st) (aH st) .none kV doc pm an Qa ct) ⟨us,[]⟩=pure (ps.zip us)):Binds K fd ps []:=by
 obtain⟨oc,od,kV,doc,pm,an,Qa,ct,xg,rfl,lk,Ec⟩:=F.ex;exact .all (h kV doc pm an Qa ct)
def bGb{x qual:Str}{st:Stmt}{f:Addr}{oc:Value}{od an:Option Addr}{xg:Array (Option Value)}{kV doc pm Qa ct:Value}(l:K.lookup f=some ⟨oc,od,.func (PySem.W.fnOf x qual (fX st) (dY st) (aH st) .none kV doc pm an Qa ct),xg⟩)
  (c:PySem.W.codeIn K Qa qual=true) (k:PySem.W.keepIn K (.ref f)=true):An K x qual st f (PySem.W.fnOf x qual (fX st) (dY st) (aH st) .none kV doc pm an Qa ct):=⟨⟨oc,od,kV,doc,pm,an,Qa,ct,xg,rfl,l,c⟩,k⟩
end
section
variable{X:Cx}
def pv(i:Nat){x:Str}{pos:Pos}(hN:X.N[i]?=some x:=by rfl)(hv:Sf X.env.scope x:=by first|exact Or.inl rfl|exact Or.inr (Or.inl rfl)|exact Or.inr (Or.inr rfl))(hd:(x==("__debug__":Str))=false:=by decide)
  (Ec:(x==("__classdict__":Str))=false:=by decide):PE X (.Name x pos) (FX i):=mQ hN hv hd Ec
end
def aY(H H':Hp):Prop:=∀b o,H b=some o->H' b=some o
def aY.refl(H:Hp):aY H H:=λ_ _ h=>h
def aY.trans{H H1 H2:Hp}(a:aY H H1)(b:aY H1 H2):aY H H2:=λc o h=>b c o (a c o h)
def aY.free{H H':Hp}(e:aY H H'){l:Addr}(h:H' l=Option.none):H l=Option.none:=by
 cases q:H l with
 |none=>rfl
 |some o=>
  rw[e l o q]at h;cases h
def aY.seq{K:PySem.W.Frag}{H H':Hp}{a:Addr}{xs:List V}(e:aY H H')(h:jc K H a xs):jc K H' a xs:=by
 rcases h with (h|⟨o,h⟩)|h
 .exact .inl (.inl (e _ _ h))
 .exact .inl (.inr ⟨o,e _ _ h⟩)
 .exact .inr h
end L2
namespace L2
open PySem PySem.Spec PyProof.Rows
section
variable{κ:Type}[DecidableEq κ]
def vD(ma:List (κ×V))(k:κ):Option V:=(ma.find? λkv=>decide (kv.1=k)).map (·.2)
def Vb(ma:List (κ×V))(k:κ)(v:V):List (κ×V):=
 if (ma.any λkv=>decide (kv.1=k))=true then ma.map (λkv=>if kv.1=k then (kv.1,v) else kv) else ma++[(k,v)]
def zU{p:κ×V}{r:List (κ×V)}{k:κ}(e:p.1=k):vD (p::r) k=some p.2:=by simp[vD,List.find?_cons,e]
def zV{p:κ×V}{r:List (κ×V)}{k:κ}(e:¬ p.1=k):vD (p::r) k=vD r k:=by simp[vD,List.find?_cons,e]
theorem MC(k:κ):∀ma:List (κ×V),(ma.any λkv=>decide (kv.1=k))=(vD ma k).isSome
 |[]=>rfl
 |p::r=>by
  rw[uo]
  by_cases e:p.1=k
  .simp only[zU e,decide_eq_true e,Bool.true_or,Option.isSome_some]
  .rw[zV e,Cd e,Iz];exact MC k r
def qT(ma:List (κ×V))(k:κ)(v:V):(Vb ma k v).length<=ma.length+1:=by
 unfold Vb;split
 .rw[uc];omega
 .rw[we,Qd,Fz];omega
def xM.Wc{o:Option V}{u:Option Value}(r:xM o u):o.isSome=u.isSome:=by
 cases o with
 |none=>cases u with
  |none=>rfl
  |some _=>exact(show False from r).elim
 |some _=>cases u with
  |none=>exact(show False from r).elim
  |some _=>rfl
theorem xM.getD{o:Option V}{u:Option Value}{d:V}{d':Value}(r:xM o u)(rd:RelV d d'):RelV (o.getD d) (u.getD d'):=by
 cases o with
 |none=>cases u with
  |none=>exact rd
  |some _=>exact(show False from r).elim
 |some _=>cases u with
  |none=>exact(show False from r).elim
  |some _=>exact r
def KV.val{ma:List (κ×V)}{vs:List (κ×Value)}(r:KV ma vs)(k:κ):xM (vD ma k) (valueAt vs k):=by
 unfold KV at r
 induction r with
 |nil=>exact True.intro
 |@cons p q ps qs h t ih=>
  obtain⟨h1,h2⟩:=h
  by_cases e:p.1=k
  .have e':q.1=k:=h1.symm.trans e;have b:valueAt (q::qs) k=some q.2:=by simp[valueAt,List.find?_cons,e']
   rw[zU e,b];exact h2
  .have e':¬ q.1=k:=λz=>e (h1.trans z)
   have b:valueAt (q::qs) k=valueAt qs k:=by simp[valueAt,List.find?_cons,e']
   rw[zV e,b];exact ih
theorem KV.any{ma:List (κ×V)}{vs:List (κ×Value)}(r:KV ma vs)(k:κ):(ma.any λkv=>decide (kv.1=k))=vs.any λkv=>decide (kv.1=k):=by
 unfold KV at r
 induction r with
 |nil=>rfl
 |cons h t ih=>rw[uo,uo,ih,h.1]
def KV.xp{ma:List (κ×V)}{vs:List (κ×Value)}(r:KV ma vs)(k:κ){y:V}{u:Value}(ry:RelV y u) :
  KV (ma.map λkv=>if kv.1=k then (kv.1,y) else kv) (vs.map λkv=>if kv.1=k then (kv.1,u) else kv):=by
 unfold KV at r ⊢
 induction r with
 |nil=>exact .nil
 |@cons p q ps qs h t ih=>
  rw[wc,wc];refine .cons ?_ ih;obtain⟨h1,h2⟩:=h
  by_cases e:p.1=k
  .rw[Na e,Na (h1.symm.trans e)];exact⟨h1,ry⟩
  .rw[La e,La (λz=>e (h1.trans z))];exact⟨h1,h2⟩
def KV.put{ma:List (κ×V)}{vs:List (κ×Value)}(r:KV ma vs)(k:κ){y:V}{u:Value}(ry:RelV y u):KV (Vb ma k y) (stored vs k u):=by
 unfold Vb stored;rw[r.any k]
 by_cases e:(vs.any λkv=>decide (kv.1=k))=true
 .rw[Na e,Na e];exact r.xp k ry
 .rw[La e,La e];exact Paired.snoc r ⟨rfl,ry⟩
theorem KV.length{ma:List (κ×V)}{vs:List (κ×Value)}(r:KV ma vs):ma.length=vs.length:=Paired.length r
end
def Bk{P:Program}{w:World}{k:gb}{u:Value}(r:RelV (kV k) u):(dN P w).is k u=true:=by
 cases k with
 |inl i=>obtain⟨t,e⟩:=(show ∃t,u=Value.int i t from r);subst e;exact E5 P w i t
 |inr x=>obtain⟨t,e⟩:=(show ∃t,u=Value.str x t from r);subst e;exact F5 P w x t
theorem eP{P:Program}{w:World}:∀{ks:List gb}{us:List Value},Ea (ks.map kV) us->ItemsAre (dN P w) ks us
 |[],_,r=>by rw[kH]at r;cases r;exact .nil
 |k::ks,_,r=>by
  rw[wc]at r;cases r with
  |cons h t=>exact .cons (Bk h) (eP t)
abbrev KT(H:Hp):List (List gb×V)->List (List gb×Addr×Value)->Prop:=Paired λp q=>p.1=q.1/\H q.2.1=some (.tup (p.1.map kV))/\RelV p.2 q.2.2
def KT.val{H:Hp}{ma:List (List gb×V)}{xs:List (List gb×Addr×Value)}(r:KT H ma xs)(k:List gb):xM (vD ma k) ((atKey xs k).map (·.2)):=by
 induction r with
 |nil=>exact True.intro
 |@cons p q ps qs h t ih=>
  obtain⟨h1,_,h2⟩:=h
  by_cases e:p.1=k
  .have e':q.1=k:=h1.symm.trans e;have b:atKey (q::qs) k=some q.2:=by simp[atKey,List.find?_cons,e']
   rw[zU e,b];exact h2
  .have e':¬ q.1=k:=λz=>e (h1.trans z)
   have b:atKey (q::qs) k=atKey qs k:=by simp[atKey,List.find?_cons,e']
   rw[zV e,b];exact ih
def KT.xp{H:Hp}{ma:List (List gb×V)}{xs:List (List gb×Addr×Value)}(r:KT H ma xs)(k:List gb){y:V}{u:Value}(ry:RelV y u) :
  KT H (ma.map λkv=>if kv.1=k then (kv.1,y) else kv) (xs.map (putAt k u)):=by
 induction r with
 |nil=>exact .nil
 |@cons p q ps qs h t ih=>
  rw[wc,wc];refine .cons ?_ ih;obtain⟨h1,h2,h3⟩:=h;unfold putAt
  by_cases e:p.1=k
  .rw[Na e,Na (h1.symm.trans e)];exact⟨h1,h2,ry⟩
  .rw[La e,La (λz=>e (h1.trans z))];exact⟨h1,h2,h3⟩
def KT.put{H:Hp}{ma:List (List gb×V)}{xs:List (List gb×Addr×Value)}(r:KT H ma xs)(k:List gb){b:Addr}{y:V}{u:Value}(hb:H b=some (.tup (k.map kV)))(ry:RelV y u) :
  KT H (Vb ma k y) (storedH xs k b u):=by
 have e:(ma.any λkv=>decide (kv.1=k))=(atKey xs k).isSome:=by
  rw[MC,(r.val k).Wc,JG]
 unfold Vb storedH;rw[e]
 by_cases q:(atKey xs k).isSome=true
 .rw[Na q,Na q];exact r.xp k ry
 .rw[La q,La q];exact Paired.snoc r ⟨rfl,hb,ry⟩
def KT.keeps{H H':Hp}{ma:List (List gb×V)}{xs:List (List gb×Addr×Value)}(r:KT H ma xs)(ht:∀b ys,H b=some (.tup ys)->H' b=some (.tup ys)):KT H' ma xs:=
 Paired.gp r λ_ _ z=>⟨z.1,ht _ _ z.2.1,z.2.2⟩
section
variable{P:Program}{w:World}{H:Hp}{h:Heap}{a:Addr}
def RW{u:HO}(ok:Od P w H h)(e:Rd H a u):mK P w H h a u:=e.ok ok
def Ck{ma:List (gb×V)}(ok:Od P w H h)(e:Rd H a (.dK ma)):ma.length<=sizeLine/\(a==sysModules)=false/\∃vs,KV ma vs/\h.DictOf (dN P w) a vs:=
 show mK P w H h a (.dK ma) from RW ok e
def Dk{ma:List (gb×V)}(ok:Od P w H h)(e:H a=some (.dK ma)):ma.length<=sizeLine/\(a==sysModules)=false/\∃vs,KV ma vs/\h.DictOf (dN P w) a vs:=Ck ok (.inl e)
def Hn{ks:List gb}(ok:Od P w H h)(e:H a=some (.tup (ks.map kV))):(tupleKind (dN P w)).is h ks a:=by
 obtain⟨_,Ga,r,o,h1,h2,n,h3⟩:=(show mK P w H h a (.tup (ks.map kV)) from ok a _ e)
 exact⟨o,Ga.toArray,n,h1,h2,h3,by simpa using eP r⟩
def um{ma:List (List gb×V)}(ok:Od P w H h)(e:Rd H a (.dT ma)):ma.length<=sizeLine/\(a==sysModules)=false/\
  ∃xs,KT H ma xs/\h.DictOfH (tupleKind (dN P w)) a xs:=by
 obtain⟨z,y,xs,r,o,es,ep,h1,h2,h3,h4,h5⟩:=(show mK P w H h a (.dT ma) from RW ok e)
 refine⟨z,y,xs,r,o,es,ep,h1,h2,h3,h4,λx hx=>?_,h5⟩
 have all:∀{l:List (List gb×V)} {m:List (List gb×Addr×Value)},KT H l m->∀x∈m,(tupleKind (dN P w)).is h x.1 x.2.1:=by
  intro l m q
  induction q with
  |nil=>intro x hx;exact nomatch hx
  |@cons p q ps qs hq t ih=>
   intro x hx;rcases Nb.mp hx with e|hx
   .subst e;exact Hn ok (by rw[<-hq.1];exact hq.2.1)
   .exact ih x hx
 exact all r x hx
def bJx{ma:List (List gb×V)}(ok:Od P w H h)(e:H a=some (.dT ma)):ma.length<=sizeLine/\(a==sysModules)=false/\
  ∃xs,KT H ma xs/\h.DictOfH (tupleKind (dN P w)) a xs:=um ok (.inl e)
end
def zM(H:Hp)(a:Addr)(y:V)(r:Option V):Prop:=
 (∃ma k,Rd H a (.dK ma)/\y=kV k/\r=vD ma k)\/∃ma k b,Rd H a (.dT ma)/\y=.ref b/\H b=some (.tup (k.map kV))/\r=vD ma k
def Pk(H:Hp)(a:Addr)(y v:V)(H':Hp):Prop:=
 (∃ma k,H a=some (.dK ma)/\y=kV k/\ma.length<sizeLine/\H'=Ua H a (.dK (Vb ma k v)))\/
 ∃ma k b,H a=some (.dT ma)/\y=.ref b/\H b=some (.tup (k.map kV))/\ma.length<sizeLine/\H'=Ua H a (.dT (Vb ma k v))
theorem zM.k{H:Hp}{a:Addr}{ma:List (gb×V)}{k:gb}(e:H a=some (.dK ma)):zM H a (kV k) (vD ma k):=.inl ⟨ma,k,.inl e,rfl,rfl⟩
def zM.t{H:Hp}{a b:Addr}{ma:List (List gb×V)}{k:List gb}(e:H a=some (.dT ma))(eb:H b=some (.tup (k.map kV))):zM H a (.ref b) (vD ma k):=.inr ⟨ma,k,b,.inl e,rfl,eb,rfl⟩
theorem Pk.k{H:Hp}{a:Addr}{ma:List (gb×V)}{k:gb}{v:V}(e:H a=some (.dK ma))(hl:ma.length<sizeLine):Pk H a (kV k) v (Ua H a (.dK (Vb ma k v))):=.inl ⟨ma,k,e,rfl,hl,rfl⟩
def Pk.t{H:Hp}{a b:Addr}{ma:List (List gb×V)}{k:List gb}{v:V}(e:H a=some (.dT ma))(eb:H b=some (.tup (k.map kV)))(hl:ma.length<sizeLine) :
  Pk H a (.ref b) v (Ua H a (.dT (Vb ma k v))):=.inr ⟨ma,k,b,e,rfl,eb,hl,rfl⟩
section
variable{X:Cx}{aa:List (Addr×Obj)}{σ:St}{H:Hp}{s:Shared}{a:Addr}{y v:V}{u r:Value}{o:Option V}{A:Around}{E:Value->Shared->Prop}
def xa.big(I:xa X aa σ H s):sysModules<s.heap.objs.size:=by
 have h:mainGlobals<s.heap.objs.size:=(I.mod.glob.keeps I.bk).lt;exact Du (by decide) h
def P7{Q:Value->Shared->Prop}(hu:A.units+1<cLine)(I:xa X aa σ H s)(g:zM H a y (some v))(ry:RelV y u)(h:∀w' s',xa X aa σ H s'->RelV v w'->Q w' s') :
  wpAny (model X.prog X.w) A (getItem (.ref a) u) Q E s:=by
 rcases g with ⟨ma,k,e,ey,l⟩|⟨ma,k,b,e,ey,eb,l⟩
 .subst ey;obtain⟨z,hd,vs,rel,dd⟩:=Ck I.Ra e;obtain⟨w',hw,Te⟩:=xM.some_of (v:=v) (o:=valueAt vs k) (by rw[l];exact rel.val k)
  exact wpAny_getItem_of (Bk ry) dd.mapOf hw (h w' _ (I.tok _) Te)
 .subst ey;cases (show u=Value.ref b from ry)
  obtain⟨z,hd,xs,rel,dd⟩:=um I.Ra e;obtain⟨w',hw,Te⟩:=xM.some_of (v:=v) (o:=(atKey xs k).map (·.2)) (by rw[l];exact rel.val k)
  obtain⟨p,hp,hp2⟩:=Option.map_eq_some_iff.mp hw;refine wpAny_getItem_heap (Jq hu) (Hn I.Ra eb) dd hp ?_
  rw[hp2];exact h w' _ (I.tok _) Te
def bMq{Q:Value->Shared->Prop}(hu:A.units+1<cLine)(I:xa X aa σ H s)(g:zM H a y o)(ry:RelV y u)(h:∀s',xa X aa σ H s'->Q (.bool o.isSome) s') :
  wpAny (model X.prog X.w) A (compareOp .In u (.ref a)) Q E s:=by
 rcases g with ⟨ma,k,e,ey,l⟩|⟨ma,k,b,e,ey,eb,l⟩
 .subst ey;obtain⟨z,hd,vs,rel,dd⟩:=Ck I.Ra e;refine wpAny_in_of (Bk ry) hd dd.mapOf ?_
  rw[<-(rel.val k).Wc,<-l];exact h _ (I.tok _)
 .subst ey;cases (show u=Value.ref b from ry)
  obtain⟨z,hd,xs,rel,dd⟩:=um I.Ra e;refine wpAny_in_heap (Jq hu) (Hn I.Ra eb) hd dd ?_
  have q:=(rel.val k).Wc;rw[JG]at q;rw[<-q,<-l];exact h _ (I.tok _)
def ω{Q:Value->Shared->Prop}(hu:A.units+1<cLine)(I:xa X aa σ H s)(g:zM H a y o)(ry:RelV y u)(h:∀s',xa X aa σ H s'->Q (.bool (!o.isSome)) s') :
  wpAny (model X.prog X.w) A (compareOp .NotIn u (.ref a)) Q E s:=by
 rcases g with ⟨ma,k,e,ey,l⟩|⟨ma,k,b,e,ey,eb,l⟩
 .subst ey;obtain⟨z,hd,vs,rel,dd⟩:=Ck I.Ra e;refine wpAny_notIn_of (Bk ry) hd dd.mapOf ?_
  rw[<-(rel.val k).Wc,<-l];exact h _ (I.tok _)
 .subst ey;cases (show u=Value.ref b from ry)
  obtain⟨z,hd,xs,rel,dd⟩:=um I.Ra e;refine wpAny_notIn_heap (Jq hu) (Hn I.Ra eb) hd dd ?_
  have q:=(rel.val k).Wc;rw[JG]at q;rw[<-q,<-l];exact h _ (I.tok _)
def Zr{h':Heap}{t':Nat}{ob:HO}(I:xa X aa σ H s)(mu:yg (H a))(hs:Heap.SameBut a s.heap h')(he:∃q,h'.get? a=some q)(new:mK X.prog X.w (Ua H a ob) h' a ob) :
  xa X aa σ (Ua H a ob) {s with heap:=h',toks:=t'}:=
 I.write (x:=a) (e:=a) mu (.inl rfl) (λb q hb z=>(hs.2 b hb).trans z) he new
def Wx{P:Program}{w:World}{H':Hp}{h':Heap}{ma:List (gb×V)}{vs:List (gb×Value)}(z:ma.length<=sizeLine)(hd:(a==sysModules)=false)(rel:KV ma vs)(dd:h'.DictOf (dN P w) a vs) :
  mK P w H' h' a (.dK ma):=⟨z,hd,vs,rel,dd⟩
def Q7{H':Hp}{Q:Unit->Shared->Prop}(hu:A.units+1<cLine)(I:xa X aa σ H s)(g:Pk H a y v H')(ry:RelV y u)(rv:RelV v r)(h:∀s',xa X aa σ H' s'->Q () s') :
  wpAny (model X.prog X.w) A (setItem (.ref a) u r) Q E s:=by
 rcases g with ⟨ma,k,e,ey,l,eH⟩|⟨ma,k,b,e,ey,eb,l,eH⟩
 .subst ey eH;obtain⟨z,hd,vs,rel,dd⟩:=Dk I.Ra e;have hz:vs.length<=sizeLine:=by rw[<-rel.length];exact z
  have hl:(Vb ma k v).length<=sizeLine:=by have:=qT ma k v;omega
  refine wpAny_setItem_pairs (hsz:=hz) (Bk ry) dd λh' Yh hs=>h _ ?_
  have he:∃q,h'.get? a=some q:=let ⟨q,_,_,hq,_⟩:=Yh;⟨q,hq⟩;exact Zr I (by rw[e];exact True.intro) hs he (Wx hl hd (rel.put k rv) Yh)
 .subst ey eH;cases (show u=Value.ref b from ry)
  obtain⟨z,hd,xs,rel,dd⟩:=bJx I.Ra e;have hz:xs.length<=sizeLine:=by rw[<-Paired.length rel];exact z
  have hl:(Vb ma k v).length<=sizeLine:=by have:=qT ma k v;omega
  refine wpAny_setItem_heap (hsz:=hz) (Jq hu) (Hn I.Ra eb) dd λh' Yh hs=>h _ ?_
  obtain⟨q,es,ep,hq,h2,h3,h4,_,h5⟩:=Yh;refine Zr I (by rw[e];exact True.intro) hs ⟨q,hq⟩ ⟨hl,hd,_,(rel.put k eb rv).keeps λc ys ec=>?_,q,es,ep,hq,h2,h3,h4,h5⟩
  rw[bF (bJ6 ec e (λz=>nomatch z))]
  exact ec
end
section
variable{X:Cx}{aa:List (Addr×Obj)}{σ:St}{H:Hp}{s:Shared}{a:Addr}{ma:List (gb×V)}{k:gb}{u:Value}{A:Around}{E:Value->Shared->Prop}
def bJy{Q:Value->Shared->Prop}(I:xa X aa σ H s)(e:Rd H a (.dK ma))(h:∀t s',xa X aa σ H s'->Q (.int ma.length t) s'):wpAny (model X.prog X.w) A (call (.builtin "len") [.ref a]) Q E s:=by
 obtain⟨z,hd,vs,rel,dd⟩:=Ck I.Ra e;refine call_len_dict hd dd (by rw[<-rel.length];rw[Km]at z;omega) ?_
 rw[<-rel.length];exact h _ _ (I.tok _)
end
def J5{X:Cx}{aa:List (Addr×Obj)}{σ:St}{H:Hp}{s:Shared}{a:Addr}{y:V}{o:Option V}(I:xa X aa σ H s)(g:zM H a y o):s.TypeIs (.ref a) "dict":=by
 rcases g with ⟨ma,k,e,_,_⟩|⟨ma,k,b,e,_,_,_⟩
 .obtain⟨_,_,vs,_,dd⟩:=Ck I.Ra e;exact dd.typeIs
 .obtain⟨_,_,xs,_,dd⟩:=um I.Ra e;exact dd.typeIs
def Vd(td ty tv:TE):TS:=λD σ H=>tv σ H λv H1=>td σ H1 λx H2=>ty σ H2 λy H3=>∃a H4,x=.ref a/\Pk H3 a y v H4/\D.nx σ H4
def MQ{P:Program}{w:World}{H:Hp}(h:Heap)(hb:sysModules<h.objs.size):mK P w H (h.push {cls:=.type "dict",data:=.dict #[]}) h.objs.size (.dK []):=
 ⟨Dg _,Yj.mpr (tf (Hd hb)),[],.nil,Heap.DictOf.new h⟩
def bGc:TE:=λ_ H Q=>∀p,H p=none->Q (.ref p) (Ua H p (.dK []))
section
variable{X:Cx}{pos:Pos}
def u9:PE X (.Dict [] [] pos) bGc:=λaa s σ H Q I h=>
 wpAny_Dict_empty ⟨.ref s.heap.objs.size,_,I.laid (a:=s.heap.objs.size) (o:=.dK []) (t':=s.toks) (λ_ _ q=>Tb _ q) (Cb _) (MQ s.heap I.big),rfl,h _ (I.Ra.fresh (Cb _))⟩
end
def nE:List (TE×TE)->St->Hp->(List (V×V)->Hp->Prop)->Prop
 |[],_,H,Q=>Q [] H
 |(tk,tv)::r,σ,H,Q=>tk σ H λx H1=>tv σ H1 λy H2=>nE r σ H2 λps H3=>Q ((x,y)::ps) H3
abbrev VV:List (V×V)->List (Value×Value)->Prop:=Paired λp q=>RelV p.1 q.1/\RelV p.2 q.2
def Fw(X:Cx)(pos:Pos)(keys:List (Option Expr))(values:List Expr)(Zl:List (TE×TE)):Prop:=
 ∀(aa:List (Addr×Obj)) (s:Shared) (σ:St) (H:Hp) (Q:List (V×V)->Hp->Prop),xa X aa σ H s->nE Zl σ H Q->
  wpAny (model X.prog X.w) X.A (evalPairs (pairTrees keys values X.env pos)) (λvs s'=>∃ps H',xa X aa σ H' s'/\VV ps vs/\Q ps H') X.xe s
def Α{X:Cx}{pos:Pos}:Fw X pos [] [] []:=λaa s σ H Q I h=>pairTrees_nil_walk ⟨[],H,I,.nil,h⟩
def v9{X:Cx}{pos:Pos}{k v:Expr}{ks:List (Option Expr)}{vs:List Expr}{tk tv:TE}{Zl:List (TE×TE)}(hk:PE X k tk)(hv:PE X v tv)(hr:Fw X pos ks vs Zl) :
  Fw X pos (some k::ks) (v::vs) ((tk,tv)::Zl):=λaa s σ H Q I h=>
 pairTrees_cons_walk (Ib (hk aa s σ H _ I h) λu s1 ⟨x,H1,I1,rx,q1⟩=>Ib (hv aa s1 σ H1 _ I1 q1) λw2 s2 ⟨y,H2,I2,ry,q2⟩=>
  Ib (hr aa s2 σ H2 _ I2 q2) λws s3 ⟨ps,H3,I3,rel,q3⟩=>⟨(x,y)::ps,H3,I3,.cons ⟨rx,ry⟩ rel,q3⟩)
def Qp(ma more:List (gb×V)):List (gb×V):=more.foldl (λqa kv=>Vb qa kv.1 kv.2) ma
def KV.merge:∀{more:List (gb×V)} {rs:List (gb×Value)} {ma:List (gb×V)} {vs:List (gb×Value)},KV more rs->KV ma vs->KV (Qp ma more) (merged vs rs):=by
 intro more rs ma vs r;unfold KV at r
 induction r generalizing ma vs with
 |nil=>intro q;exact q
 |@cons p q ps qs h t ih=>
  intro r0;have e:KV (Vb ma p.1 p.2) (stored vs q.1 q.2):=by
   have:=r0.put p.1 h.2;rw[<-h.1];exact this
  exact ih e
theorem JL:∀(more ma:List (gb×V)),(Qp ma more).length<=ma.length+more.length
 |[],ma=>by show ma.length<=ma.length+0;omega
 |p::r,ma=>by
  have h1:=JL r (Vb ma p.1 p.2);have h2:=qT ma p.1 p.2;show (Qp (Vb ma p.1 p.2) r).length<=_;rw[Qd];omega
theorem NN{P:Program}{w:World}:∀{ma:List (gb×V)} {ws:List (Value×Value)},VV (ma.map λkv=>(kV kv.1,kv.2)) ws->∃rs,Carries (dN P w) ws rs/\KV ma rs
 |[],_,r=>by rw[kH]at r;cases r;exact⟨[],True.intro,.nil⟩
 |p::ma,_,r=>by
  rw[wc]at r;cases r with
  |@cons a b as bs h t=>
   obtain⟨rs,c,q⟩:=NN (P:=P) (w:=w) t;obtain⟨b1,b2⟩:=b;exact⟨(p.1,b2)::rs,⟨Bk h.1,rfl,c⟩,.cons ⟨rfl,h.2⟩ q⟩
def bJz(Zl:List (TE×TE)):TE:=λσ H Q=>∀p,H p=none->nE Zl σ (Ua H p (.dK [])) λps H2=>H2 p=some (.dK [])/\∃ma:List (gb×V),ps=ma.map (λkv=>(kV kv.1,kv.2))/\ma.length<=15/\Q (.ref p) (Ua H2 p (.dK (Qp [] ma)))
def Β{X:Cx}{pos:Pos}{keys:List (Option Expr)}{values:List Expr}{Zl:List (TE×TE)}(h:Fw X pos keys values Zl)(ij:keys.all (·.isSome)=true)(hl:keys.length=values.length)(h0:keys≠[])
  (h15:keys.length<=15):PE X (.Dict keys values pos) (bJz Zl):=by
 intro aa s σ H Q I q;have hn:=I.Ra.fresh (Cb s.heap.objs.size);have I1:=I.laid (a:=s.heap.objs.size) (o:=.dK []) (h':=s.heap.push {cls:=.type "dict",data:=.dict #[]}) (t':=s.toks) (λ_ _ q=>Tb _ q) (Cb _) (MQ s.heap I.big)
 refine wpAny_Dict_walk (knd:=dN X.prog X.w) ij hl h0 h15 (Ib (h aa _ σ _ _ I1 (q _ hn)) λws s2 ⟨ps,H2,I2,rel,e,ma,ep,lk,q2⟩=>?_)
 subst ep;obtain⟨rs,c,rk⟩:=NN (P:=X.prog) (w:=X.w) rel;obtain⟨z,hd,vs0,r0,dd⟩:=Dk I2.Ra e;cases r0;refine⟨rs,c,dd,λh' Yh hs=>⟨.ref s.heap.objs.size,_,?_,rfl,q2⟩⟩
 have hz:(Qp [] ma).length<=sizeLine:=by
  have h1:=JL ma [];rw[Fz]at h1;rw[Km];omega
 have he:∃q,h'.get? s.heap.objs.size=some q:=let ⟨q,_,_,hq,_⟩:=Yh;⟨q,hq⟩;exact Zr I2 (by rw[e];exact True.intro) hs he (Wx hz hd (rk.merge .nil) Yh)
structure M1(X:Cx)(o:Expr)(m:Str)(Oa:Pos)(e:Expr)(Aa:Pos):Prop where
 base:attributeBase o m X.env (eval o X.env)=eval o X.env
 ff:((backTo Aa (starEach [e] X.env)).all (λx=>!x.1)&&(backToKw Aa (keywordEach [] X.env)).all (λx=>x.1.isSome)
  && decide (([e]:List Expr).length+([]:List Keyword).length+(if ([]:List Keyword).isEmpty then 0 else 1)<30))=true
 line:(Oa.endLine==Aa.line)=true
 Fj:backTo Aa (starEach [e] X.env)=[(false,eval e X.env)]
structure M2(X:Cx)(o:Expr)(m:Str)(Oa:Pos)(e f:Expr)(Aa:Pos):Prop where
 base:attributeBase o m X.env (eval o X.env)=eval o X.env
 ff:((backTo Aa (starEach [e,f] X.env)).all (λx=>!x.1)&&(backToKw Aa (keywordEach [] X.env)).all (λx=>x.1.isSome)
  && decide (([e,f]:List Expr).length+([]:List Keyword).length+(if ([]:List Keyword).isEmpty then 0 else 1)<30))=true
 line:(Oa.endLine==Aa.line)=true
 Fj:backTo Aa (starEach [e,f] X.env)=[(false,eval e X.env),(false,eval f X.env)]
def Bw(H:Hp)(a:Addr):Prop:=(∃ma,Rd H a (.dK ma))\/∃ma,Rd H a (.dT ma)
def ZU{X:Cx}{aa:List (Addr×Obj)}{σ:St}{H:Hp}{s:Shared}{a:Addr}(I:xa X aa σ H s)(d:Bw H a) :
  s.TypeIs (.ref a) "dict"/\(∀b,Value.ref a=.ref b->∃ob,s.heap.get? b=some ob/\ob.dict=none)/\(a==sysModules)=false:=by
 rcases d with ⟨ma,e⟩|⟨ma,e⟩
 .obtain⟨_,hd,vs,_,dd⟩:=Ck I.Ra e;refine⟨dd.typeIs,λb q=>?_,hd⟩
  cases q;obtain⟨ob,_,_,h1,h2,_⟩:=dd;exact⟨ob,h1,h2.2.1⟩
 .obtain⟨_,hd,xs,_,dd⟩:=um I.Ra e;refine⟨dd.typeIs,λb q=>?_,hd⟩
  cases q;obtain⟨ob,_,_,h1,h2,_⟩:=dd;exact⟨ob,h1,h2.2.1⟩
section
variable{X:Cx}{aa:List (Addr×Obj)}{σ:St}{H:Hp}{s:Shared}{a:Addr}{y d:V}{u r:Value}{o:Option V}{A:Around}{E:Value->Shared->Prop}
def bGd{Q:Value->Shared->Prop}(hu:A.units+1<cLine)(I:xa X aa σ H s)(g:zM H a y o)(ry:RelV y u)(h:∀w' s',xa X aa σ H s'->RelV (o.getD .Gb) w'->Q w' s') :
  wpAny (model X.prog X.w) A (call (.builtin "dict.get") [.ref a,u]) Q E s:=by
 rcases g with ⟨ma,k,e,ey,l⟩|⟨ma,k,b,e,ey,eb,l⟩
 .subst ey;obtain⟨z,hd,vs,rel,dd⟩:=Ck I.Ra e;refine Hm Iq dd.typeIs gz (TY _ _) (meets_dict_get (dN X.prog X.w) a (Bk ry) hd) ⟨_,dd.mapOf,h _ _ (I.tok _) ?_⟩;rw[l];exact(rel.val k).getD rfl
 .subst ey;cases (show u=Value.ref b from ry)
  obtain⟨z,hd,xs,rel,dd⟩:=um I.Ra e;refine Hm Iq dd.typeIs gz (TY _ _) (meetsH_dict_get (tupleKind (dN X.prog X.w)) a b hd) ⟨Jq hu,k,xs,Hn I.Ra eb,dd,h _ _ (I.tok _) ?_⟩;rw[l];exact(rel.val k).getD rfl
def bGe{Q:Value->Shared->Prop}(hu:A.units+1<cLine)(I:xa X aa σ H s)(g:zM H a y o)(ry:RelV y u)(rd:RelV d r)(h:∀w' s',xa X aa σ H s'->RelV (o.getD d) w'->Q w' s') :
  wpAny (model X.prog X.w) A (call (.builtin "dict.get") [.ref a,u,r]) Q E s:=by
 rcases g with ⟨ma,k,e,ey,l⟩|⟨ma,k,b,e,ey,eb,l⟩
 .subst ey;obtain⟨z,hd,vs,rel,dd⟩:=Ck I.Ra e;refine Hm Iq dd.typeIs gz (UY _ _ _) (meets_dict_get_default (dN X.prog X.w) a (Bk ry) hd r) ⟨_,dd.mapOf,h _ _ (I.tok _) ?_⟩;rw[l];exact(rel.val k).getD rd
 .subst ey;cases (show u=Value.ref b from ry)
  obtain⟨z,hd,xs,rel,dd⟩:=um I.Ra e;refine Hm Iq dd.typeIs gz (UY _ _ _) (meetsH_dict_get_default (tupleKind (dN X.prog X.w)) a b hd r) ⟨Jq hu,k,xs,Hn I.Ra eb,dd,h _ _ (I.tok _) ?_⟩;rw[l];exact(rel.val k).getD rd
end
def bGf(td ty:TE):TE:=λσ H Q=>td σ H λx H1=>∃a,x=.ref a/\Bw H1 a/\ty σ H1 λy H2=>∃o,zM H2 a y o/\Q (o.getD .Gb) H2
def bGg(td ty tx:TE):TE:=λσ H Q=>td σ H λx H1=>∃a,x=.ref a/\Bw H1 a/\ty σ H1 λy H2=>tx σ H2 λz H3=>∃o,zM H3 a y o/\Q (o.getD z) H3
section
variable{X:Cx}{o e f:Expr}{Oa Aa:Pos}{td ty tx:TE}
def w9(hu:X.A.units+1<cLine)(ho:PE X o td)(he:PE X e ty)(m:M1 X o "get" Oa e Aa):PE X (.Call (.Attribute o "get" Oa) [e] [] Aa) (bGf td ty):=by
 intro aa s σ H Q I h;refine wpAny_Call_method m.base m.ff m.line Fq Iq HZ (Ib (ho aa s σ H _ I h) λu s1 ⟨x,H1,I1,rx,a,ex,d,q1⟩=>?_)
 subst ex;obtain rfl:u=Value.ref a:=rx;obtain⟨t1,t2,_⟩:=ZU I1 d;refine⟨t1,t2,?_⟩;rw[m.Fj];refine dz rfl (CG (vz (Ib (he aa s1 σ H1 _ I1 q1) λiv s2 ⟨y,H2,I2,ry,ov,g,q2⟩=>IG ?_)))
 exact bGd hu I2 g ry λw' s3 I3 Te=>⟨_,H2,I3,Te,q2⟩
def A9(hu:X.A.units+1<cLine)(ho:PE X o td)(he:PE X e ty)(hf:PE X f tx)(m:M2 X o "get" Oa e f Aa):PE X (.Call (.Attribute o "get" Oa) [e,f] [] Aa) (bGg td ty tx):=by
 intro aa s σ H Q I h;refine wpAny_Call_method m.base m.ff m.line Fq Iq HZ (Ib (ho aa s σ H _ I h) λu s1 ⟨x,H1,I1,rx,a,ex,d,q1⟩=>?_)
 subst ex;obtain rfl:u=Value.ref a:=rx;obtain⟨t1,t2,_⟩:=ZU I1 d;refine⟨t1,t2,?_⟩;rw[m.Fj];refine dz rfl (CG (vz (Ib (he aa s1 σ H1 _ I1 q1) λiv s2 ⟨y,H2,I2,ry,q2⟩=>
  vz (Ib (hf aa s2 σ H2 _ I2 q2) λfv s3 ⟨z,H3,I3,rz,ov,g,q3⟩=>IG ?_))))
 exact bGe hu I3 g ry rz λw' s4 I4 Te=>⟨_,H3,I4,Te,q3⟩
end
end L2
set_option maxHeartbeats 1000000
open PySem.W (Frag findIn mroIn nsIn notCls keepIn kia_one fnOf codeIn mg_of isFn OpenLaw mg_none_of WalkO InK)
open List (foldl_cons mem_cons_self mem_cons_of_mem map_cons getD_eq_getElem?_getD length_cons length_append length_singleton drop_zero take_of_length_le length_map filter_cons_of_pos filter_cons_of_neg length_range getElem?_cons_succ zip_cons_cons append_nil nil_append exists_mem_of_ne_nil not_mem_nil nodup_nil mem_cons length_set drop_eq_getElem_cons getElem?_take nodup_range any_cons all_cons drop_length forIn_nil forIn_cons lookup_cons)
open Nat (zero_le mod_lt zero_testBit not_lt_zero le_succ)
open Array (ext' getElem?_toList getD_eq_getD_getElem? toList_push)
open Int (toNat_of_nonneg toNat_natCast emod_nonneg emod_lt_of_pos)
open Option (getD_some map_some)
open Bool (or_eq_true and_eq_true)
variable{α:Type}{c n np i m r q j Y Z mo x1 t' ep:Nat}{b v':Bool}{l z rk ks row od:List Nat}{a C fa I Ka:PySem.Addr}{tg e elt:PySem.Expr}{x qual name:PySem.Str}{E Q Qf:PySem.Value->PySem.Shared->Prop}{v:L2.V}{S T:List (List Nat)}{s:PySem.Shared}{P prog:PySem.Program}{al:Nat->Bool}{B A A' fp:List PySem.Addr}{W π:Nat->Nat}{qa:List (Nat×List Nat)}{ns:List Int}{o:L2.HO}{w:PySem.World}{base h h':PySem.Heap}{X:L2.Cx}{H H' H1 G:L2.Hp}{vs ws dvs:List L2.V}{Dn:L2.Ends}{es ai:List PySem.Expr}{pos p0 pos' p2 p1 Oa Aa px Rg:PySem.Pos}{op:PySem.CmpOp}{gv:Int->Int->L2.V}{fd:PySem.FuncData}{ps N loose:List PySem.Str}{u dV oc:PySem.Value}{sm:PySem.Stmt}{items:Array PySem.Value}{M:PySem.Model}{env:PySem.Env}{body:List PySem.Stmt}{mg:PySem.Str->Option PySem.Value}{scope:PySem.Scope}{aa:List (PySem.Addr×PySem.Obj)}{te:L2.TE}{tt:L2.TT}{pl:PySem.Sem Bool}{xg:Array (Option PySem.Value)}{newId:String}{Be yd Bc:PySem.Tok}{XP:(PySem.Str->Option PySem.Value)->PySem.Heap->Prop}
namespace Pu
inductive D where
 |Gb|bl (b:Bool)|int (i:Int)|str (s:List Nat)|tup (xs:List D)|lst (xs:List D)
 |jd (t:Bool) (ks vs:List D)
 |ins (c:String) (ns:List String) (xs:List D)
 |Ei (c:String) (ns:List String) (xs:List D)
 |fn (f:String)
inductive R (α:Type) where
 |ok (a:α)|exc (x:D)|bad
@[inline] def R.bind{α β:Type}(r:R α)(f:α->R β):R β:=match r with
 |.ok a=>f a
 |.exc x=>.exc x
 |.bad=>.bad
def R.ja{β:Type}{r:R α}{f:α->R β}{b:β}(h:r.bind f=.ok b):∃a,r=.ok a/\f a=.ok b:=by
 cases r with
 |ok a=>exact⟨a,rfl,h⟩
 |exc x=>exact nomatch h
 |bad=>exact nomatch h
noncomputable section
open Classical in
def aV{α:Type}(c:Prop)(r:R α):R α:=if c then r else .bad
def aD{c:Prop}{r:R α}(h:c):aV c r=r:=Na h
def aJ{c:Prop}{r:R α}{a:α}(h:aV c r=.ok a):c/\r=.ok a:=by
 unfold aV at h;split at h
 .exact⟨by assumption,h⟩
 .exact nomatch h
inductive OK where
 |l|d (t:Bool) (ks:List D)|i (n:Nat) (c:String) (ns:List String)
def qp:OK->List D->D
 |.l,xs=>.lst xs
 |.d t ks,xs=>.jd t ks xs
 |.i _ c ns,xs=>.ins c ns xs
inductive Sl where
 |v (d:D)|o (k:OK) (xs:List D)
abbrev ya:=List (Option Sl)
abbrev Ex:=ya->R D
inductive Fl where
 |nx (st:ya)|rt (d:D)|bk (st:ya)|ct (st:ya)
abbrev Bd:=ya->R Fl
@[irreducible] def big:Nat:=10000000
def jH:big=10000000:=by unfold big;rfl
def dR(h:n<=10000000):n<=big:=by rw[jH];exact h
def Jn(h:n<10000000):n<big:=by rw[jH];exact h
def js{n:Int}(h:n<=10000000):n<=(big:Int):=by rw[jH];exact h
def GD{n:Int}(h : -10000000<=n) : -(big:Int)<=n:=by rw[jH];exact h
def Kc(n d:Nat):Option Int->Nat
 |none=>d
 |some v=>if v<0 then (v+(n:Int)).toNat else min v.toNat n
def lc(n:Nat)(i:Int):Option Nat:=if 0<=i then (if i<n then some i.toNat else none) else if -(n:Int)<=i then some (i+n).toNat else none
def Wb{α:Type}(xs:List α)(i:Int):Option α:=(lc xs.length i).bind λj=>xs[j]?
def cut{α:Type}(xs:List α)(lo hi:Option Int):List α:=(xs.drop (Kc xs.length 0 lo)).take (Kc xs.length xs.length hi-Kc xs.length 0 lo)
def rep{α:Type}(n:Nat)(xs:List α):List α:=(List.replicate n xs).flatten
def Xc{α:Type}:Option α->R α
 |some a=>.ok a
 |none=>.bad
abbrev pe:=D->D->R D
def gP:pe
 |.int i,.int j=>.ok (.int (i+j))
 |.str x,.str y=>aV (x.length+y.length<=big) (.ok (.str (x++y)))
 |.lst x,.lst y=>aV (x.length+y.length<=big) (.ok (.lst (x++y)))
 |_,_=>.bad
def Nt:pe
 |.int i,.int j=>.ok (.int (i-j))
 |_,_=>.bad
def zW:pe
 |.int i,.int j=>aV (0<j/\j<1073741824) (.ok (.int (i/j)))
 |_,_=>.bad
def qU:pe
 |.int i,.int j=>aV (0<j) (.ok (.int (i%j)))
 |_,_=>.bad
def xq:pe
 |.int i,.int j=>aV (0<=j/\j<=1000000/\i.natAbs<18446744073709551616) (.ok (.int (i^j.toNat)))
 |_,_=>.bad
def Si:D->R D
 |.int i=>.ok (.int (-i))
 |_=>.bad
def Ot:D->Bool
 |.int _=>true
 |.str _=>true
 |_=>false
def Fb(t:Bool)(d:D):Bool:=match d with
 |.int _=>!t
 |.str _=>!t
 |.tup xs=>t&&xs.all Ot
 |_=>false
mutual
def Sd:D->D->Bool
 |.int i,.int j=>i==j
 |.str x,.str y=>x==y
 |.tup x,.tup y=>Xn x y
 |_,_=>false
def Xn:List D->List D->Bool
 |[],[]=>true
 |a::x,b::y=>Sd a b&&Xn x y
 |_,_=>false
end
def uK(ks vs:List D)(k:D):Option D:=((ks.zip vs).find? λp=>Sd p.1 k).map (·.2)
def oH(ks:List D)(k:D):Bool:=ks.any λx=>Sd x k
def oJ(ks:List D)(k:D):List D:=if oH ks k=true then ks else ks++[k]
def rR(ks vs:List D)(k v:D):List D:=if oH ks k=true then (ks.zip vs).map (λp=>if Sd p.1 k=true then v else p.2) else vs++[v]
def Ta:pe
 |.jd t ks vs,k=>aV (Fb t k=true) (Xc (uK ks vs k))
 |.lst x,.int i=>Xc (Wb x i)
 |.tup x,.int i=>Xc (Wb x i)
 |.str x,.int i=>aV (x.length<=big) (Xc ((Wb x i).map λc=>.str [c]))
 |_,_=>.bad
mutual
def bc:D->D->Bool
 |.Gb,.Gb=>true
 |.bl a,.bl b=>a==b
 |.bl a,.int j=>(if a then (1:Int) else 0)==j
 |.int i,.bl b=>i==(if b then (1:Int) else 0)
 |.int i,.int j=>i==j
 |.str x,.str y=>x==y
 |.tup x,.tup y=>jT x y
 |.lst x,.lst y=>jT x y
 |_,_=>false
def jT:List D->List D->Bool
 |[],[]=>true
 |a::x,b::y=>bc a b&&jT x y
 |_,_=>false
end
mutual
def de:D->Nat
 |.tup x=>jX x+1
 |.lst x=>jX x+1
 |.Gb=>0
 |.bl _=>0
 |.int _=>0
 |.str _=>0
 |.jd _ _ _=>0
 |.ins _ _ _=>0
 |.Ei _ _ _=>0
 |.fn _=>0
def jX:List D->Nat
 |[]=>0
 |a::x=>max (de a) (jX x)
end
mutual
def plain:D->Bool
 |.tup x=>eV x
 |.lst x=>eV x
 |.Gb=>true
 |.bl _=>true
 |.int _=>true
 |.str _=>true
 |.jd _ _ _=>false
 |.ins _ _ _=>false
 |.Ei _ _ _=>false
 |.fn _=>false
def eV:List D->Bool
 |[]=>true
 |a::x=>plain a&&eV x
end
def Jd:pe:=λa b=>aV (de a<=64/\plain a=true/\plain b=true) (.ok (.bl (bc a b)))
def Ue:pe:=λa b=>aV (de a<=64/\plain a=true/\plain b=true) (.ok (.bl (!bc a b)))
def Oz:pe
 |.int i,.int j=>.ok (.bl (decide (i<=j)))
 |_,_=>.bad
def Xg:pe
 |.int i,.int j=>.ok (.bl (decide (j<i)))
 |_,_=>.bad
def Il:pe
 |.int i,.int j=>.ok (.bl (decide (j<=i)))
 |_,_=>.bad
def fU:D->R D
 |.jd false ks _=>.ok (.int ks.length)
 |.lst x=>.ok (.int x.length)
 |.tup x=>.ok (.int x.length)
 |.str x=>aV (x.length<=big) (.ok (.int x.length))
 |_=>.bad
def ym:D->Bool
 |.ins _ _ _=>false
 |.Ei _ _ _=>false
 |.fn _=>false
 |_=>true
def Pl:D->Bool
 |.Gb=>true
 |_=>false
def NF:D->Bool
 |.str _=>true
 |_=>false
def OF:D->Bool
 |.bl _=>true
 |_=>false
def isIn:D->Bool
 |.bl _=>true
 |.int _=>true
 |_=>false
def PF:D->Bool
 |.tup _=>true
 |_=>false
def MX:D->Bool
 |.jd _ _ _=>true
 |_=>false
def yq:D->Bool
 |.lst _=>true
 |_=>false
def pH(x y:List Nat)(lo:Nat):Option Nat:=(List.range' lo (x.length+1-lo)).find? λi=>decide (i+y.length<=x.length)&&((x.drop i).take y.length==y)
def zX:Option Nat->Int
 |some i=>i
 |none=>-1
def vG(x y:List Nat):List Nat:=(((x.dropWhile λc=>y.contains c).reverse).dropWhile λc=>y.contains c).reverse
abbrev Cn:=D->List D->R D
def yt:Cn
 |.str x,[.str y]=>.ok (.int (zX (pH x y 0)))
 |.str x,[.str y,.int i]=>aV (0<=i) (.ok (.int (zX (pH x y i.toNat))))
 |_,_=>.bad
def Ss:Cn
 |.str x,[.str y]=>aV (x.length<=big) (.ok (.str (vG x y)))
 |_,_=>.bad
def RE:D->D->R D
 |.int i,.int j=>.ok (.int (if j>i then j else i))
 |_,_=>.bad
def inD(x:D)(ys:List D):Bool:=ys.any λy=>bc y x
def nr:D->D->R D
 |k,.jd t ks _=>aV (Fb t k=true) (.ok (.bl (oH ks k)))
 |x,.lst ys=>aV (jX ys<=60/\plain x=true/\eV ys=true) (.ok (.bl (inD x ys)))
 |x,.tup ys=>aV (jX ys<=60/\plain x=true/\eV ys=true) (.ok (.bl (inD x ys)))
 |.str x,.str y=>.ok (.bl (pH y x 0).isSome)
 |_,_=>.bad
def tL:D->D->R D
 |k,.jd t ks _=>aV (Fb t k=true) (.ok (.bl (!oH ks k)))
 |x,.lst ys=>aV (jX ys<=60/\plain x=true/\eV ys=true) (.ok (.bl (!inD x ys)))
 |x,.tup ys=>aV (jX ys<=60/\plain x=true/\eV ys=true) (.ok (.bl (!inD x ys)))
 |.str x,.str y=>.ok (.bl (!(pH y x 0).isSome))
 |_,_=>.bad
def YZ:D->D->R D
 |x,.Gb=>.ok (.bl (Pl x))
 |.bl a,.bl b=>.ok (.bl (a==b))
 |_,_=>.bad
def gV:D->D->R D
 |x,.Gb=>.ok (.bl (!Pl x))
 |.bl a,.bl b=>.ok (.bl (!(a==b)))
 |_,_=>.bad
def aB(i:Nat):Ex:=λst=>match st[i]? with
 |some (some (.v d))=>.ok d
 |_=>.bad
def eO(i:Nat):Ex:=λst=>match st[i]? with
 |some (some (.v d))=>.ok d
 |some (some (.o k xs))=>.ok (qp k xs)
 |_=>.bad
def eC(d:D):Ex:=λ_=>.ok d
def e2(op:pe)(f g:Ex):Ex:=λst=>(f st).bind λx=>(g st).bind λy=>op x y
def e1(op:D->R D)(f:Ex):Ex:=λst=>(f st).bind op
def eB(p:D->Bool)(f:Ex):Ex:=λst=>(f st).bind λx=>aV (ym x=true) (.ok (.bl (p x)))
def nh{α:Type}(d:D)(f:Bool->R α):R α:=match d with
 |.bl b=>f b
 |_=>.bad
def vH{d:D}{f:Bool->R α}{a:α}(h:nh d f=.ok a):∃b,d=.bl b/\f b=.ok a:=by
 cases d<;>first|exact⟨_,rfl,h⟩|exact nomatch h
def xO(f g:Ex):Ex:=λst=>(f st).bind λx=>nh x λb=>if b=true then g st else .ok (.bl false)
def Jl(f g:Ex):Ex:=λst=>(f st).bind λx=>nh x λb=>if b=true then .ok (.bl true) else g st
def zN(f:Ex):Ex:=λst=>(f st).bind λx=>nh x λb=>.ok (.bl (!b))
def yo(c f g:Ex):Ex:=λst=>(c st).bind λx=>nh x λb=>if b=true then f st else g st
abbrev zd:=ya->R (List D)
def aL:zd:=λ_=>.ok []
def aA(f:Ex)(r:zd):zd:=λst=>(f st).bind λx=>(r st).bind λxs=>.ok (x::xs)
def zY(r:zd):Ex:=λst=>(r st).bind λxs=>aV (xs.length<=big) (.ok (.tup xs))
def iR(r:zd):Ex:=λst=>(r st).bind λxs=>aV (xs.length<=big) (.ok (.lst xs))
def aK(p:List D->R D)(r:zd):Ex:=λst=>(r st).bind p
def Zh(m:Cn)(f:Ex)(r:zd):Ex:=λst=>(f st).bind λx=>(r st).bind λxs=>m x xs
def Pg(d:D){α:Type}(f:Int->R α):R α:=match d with
 |.int i=>f i
 |_=>.bad
def tM{d:D}{f:Int->R α}{a:α}(h:Pg d f=.ok a):∃i,d=.int i/\f i=.ok a:=by
 cases d<;>first|exact⟨_,rfl,h⟩|exact nomatch h
abbrev yn:=ya->R (Option Int)
def aq:yn:=λ_=>.ok none
def uM(f:Ex):yn:=λst=>(f st).bind λx=>Pg x λi=>.ok (some i)
def FH(x:D)(lo hi:Option Int):R D:=match x with
 |.lst xs=>.ok (.lst (cut xs lo hi))
 |.str xs=>aV (xs.length<=big) (.ok (.str (cut xs lo hi)))
 |_=>.bad
def bj(f:Ex)(lo hi:yn):Ex:=λst=>(f st).bind λx=>(lo st).bind λl=>(hi st).bind λh=>FH x l h
abbrev Nj:=ya->R (List D)
def Fc(f:Ex):Nj:=λst=>(f st).bind λx=>match x with
 |.lst xs=>.ok xs
 |.tup xs=>.ok xs
 |.str xs=>aV (xs.length<=big) (.ok (xs.map λc=>.str [c]))
 |_=>.bad
def iC(lo:Int)(n:Nat):List D:=(List.range n).map λ(k:Nat)=>.int (lo+(k:Int))
def uL(f:Ex):Nj:=λst=>(f st).bind λx=>Pg x λj=>aV (-(big:Int)<=j/\j<=(big:Int)) (.ok (iC 0 j.toNat))
abbrev Tg:=D->ya->R ya
def ib(i:Nat):Tg:=λd st=>.ok (st.set i (some (.v d)))
def Ts:List Nat->List D->ya->R ya
 |[],[],st=>.ok st
 |i::is,d::ds,st=>Ts is ds (st.set i (some (.v d)))
 |_,_,_=>.bad
def Nr(is:List Nat):Tg:=λd st=>match d with
 |.tup xs=>Ts is xs st
 |.lst xs=>Ts is xs st
 |_=>.bad
def iQ(tg:Tg)(c f:Ex)(st:ya):List D->R (List D)
 |[]=>.ok []
 |d::ds=>(tg d st).bind λs1=>(c s1).bind λx=>nh x λb=>if b=true then (f s1).bind λy=>(iQ tg c f st ds).bind λys=>.ok (y::ys) else iQ tg c f st ds
def ae(is:List Nat)(st:ya):ya:=is.foldl (λs i=>s.set i none) st
def dI(is:List Nat)(tg:Tg)(it:Nj)(c f:Ex):Ex:=λst=>(it st).bind λxs=>aV (xs.length<=big) ((iQ tg c f (ae is st) xs).bind λys=>.ok (.lst ys))
def cH:Ex:=λ_=>.ok (.bl true)
def zq(r:R Fl)(f:ya->R Fl):R Fl:=r.bind λx=>match x with
 |.nx st=>f st
 |.rt d=>.ok (.rt d)
 |.bk st=>.ok (.bk st)
 |.ct st=>.ok (.ct st)
def eQ:Bd:=λst=>.ok (.nx st)
def bG(a b:Bd):Bd:=λst=>zq (a st) b
def dH(i:Nat)(f:Ex):Bd:=λst=>(f st).bind λd=>.ok (.nx (st.set i (some (.v d))))
def qW(i:Nat)(f:Ex):Bd:=λst=>(f st).bind λd=>match d with
 |.lst xs=>.ok (.nx (st.set i (some (.o .l xs))))
 |_=>.bad
def Py(tg:Tg)(f:Ex):Bd:=λst=>(f st).bind λd=>(tg d st).bind λs1=>.ok (.nx s1)
def xh(i:Nat)(f:Ex):Bd:=λst=>(f st).bind λd=>match st[i]? with
 |some (some (.o .l xs))=>aV (xs.length<big) (.ok (.nx (st.set i (some (.o .l (xs++[d]))))))
 |_=>.bad
def Pt(i:Nat)(g f:Ex):Bd:=λst=>(f st).bind λd=>(g st).bind λx=>Pg x λj=>match st[i]? with
 |some (some (.o .l xs))=>(Xc (lc xs.length j)).bind λk=>.ok (.nx (st.set i (some (.o .l (xs.set k d)))))
 |_=>.bad
def Qy(i:Nat)(f:Ex):Bd:=λst=>(f st).bind λd=>match d with
 |.lst ys=>(match st[i]? with
  |some (some (.o .l xs))=>aV (xs.length+ys.length<=big) (.ok (.nx (st.set i (some (.o .l (xs++ys))))))
  |_=>.bad)
 |_=>.bad
def zt(i:Nat)(t:Bool):Bd:=λst=>.ok (.nx (st.set i (some (.o (.d t []) []))))
def Vd(i:Nat)(g f:Ex):Bd:=λst=>(f st).bind λd=>(g st).bind λk=>match st[i]? with
 |some (some (.o (.d t ks) vs))=>aV (Fb t k=true/\vs.length<big) (.ok (.nx (st.set i (some (.o (.d t (oJ ks k)) (rR ks vs k d))))))
 |_=>.bad
def bq(i:Nat)(c f:String)(e:Ex):Bd:=λst=>(e st).bind λd=>match st[i]? with
 |some (some (.o (.i n c' ns) xs))=>aV (c'=c/\f∉ns/\ns.length<900) (.ok (.nx (st.set i (some (.o (.i n c' (ns++[f])) (xs++[d]))))))
 |_=>.bad
def jN(c f:String):D->R D
 |.ins c' ns xs=>aV (c'=c) (Xc ((ns.zip xs).lookup f))
 |_=>.bad
def rT(c m:String)(p:List D->R D)(dv:List D)(f:Ex)(r:zd):Ex:=λst=>(f st).bind λx=>(r st).bind λxs=>match x with
 |.ins c' ns _=>aV (c'=c/\m∉ns) (p (x::(xs++dv)))
 |_=>.bad
def nO:Bd:=λ_=>.bad
def Qm(st:ya)(i:Nat):ya:=match st[i]? with
 |some (some (.o k xs))=>st.set i (some (.v (qp k xs)))
 |_=>st
def Yg(is:List Nat)(b:Bd):Bd:=λst=>b (is.foldl Qm st)
def cZ(f:Ex):Bd:=λst=>(f st).bind λd=>.ok (.rt d)
def Ry(f:Ex):Bd:=λst=>(f st).bind λ_=>.ok (.nx st)
def gd(c:Ex)(a b:Bd):Bd:=λst=>(c st).bind λx=>nh x λq=>if q=true then a st else b st
def Lb(tg:Tg)(body:Bd):List D->ya->R Fl
 |[],st=>.ok (.nx st)
 |d::ds,st=>(tg d st).bind λs1=>(body s1).bind λx=>match x with
  |.nx s2=>Lb tg body ds s2
  |.ct s2=>Lb tg body ds s2
  |.bk s2=>.ok (.nx s2)
  |.rt v=>.ok (.rt v)
def xP(tg:Tg)(it:Nj)(body:Bd):Bd:=λst=>(it st).bind λxs=>Lb tg body xs st
def jU(c:Ex)(body:Bd):Nat->ya->R Fl
 |0,_=>.bad
 |n+1,st=>(c st).bind λx=>nh x λq=>if q=true then (body st).bind λx=>(match x with
  |.nx s2=>jU c body n s2
  |.ct s2=>jU c body n s2
  |.bk s2=>.ok (.nx s2)
  |.rt v=>.ok (.rt v)) else .ok (.nx st)
def Kn(n:Nat)(c:Ex)(body:Bd):Bd:=λst=>jU c body n st
def cQ(np n:Nat)(b:Bd)(ds:List D):R D:=
 aV (ds.length=np) ((b (ds.map (λd=>some (.v d))++List.replicate (n-np) none)).bind λx=>match x with
  |.nx _=>.ok .Gb
  |.rt d=>.ok d
  |_=>.bad)
def dq(c:String)(np n:Nat)(b:Bd)(x:Nat)(ds:List D):R D:=
 aV (ds.length=np) ((b (some (.o (.i x c []) [])::(ds.map (λd=>some (.v d))++List.replicate (n-np-1) none))).bind λ(fl:Fl)=>match fl with
  |.nx st=>(match (st[0]?:Option (Option Sl)) with
   |some (some (.o (.i y c' ns) xs))=>aV (y=x) (.ok (.ins c' ns xs))
   |_=>.bad)
  |_=>.bad)
open Classical in
def Qk(c:String)(np n:Nat)(b:Bd)(ds:List D):R D:=if h:∃d,∀x,dq c np n b x ds=.ok d then .ok (choose h) else .bad
def Γ{c:String} {b:Bd} {ds:List D} {d:D} (h:∀x,dq c np n b x ds=.ok d):Qk c np n b ds=.ok d:=by
 unfold Qk;rw[dif_pos ⟨d,h⟩];have:=IZ (p:=λd=>∀x,dq c np n b x ds=.ok d) ⟨d,h⟩ 0
 rw[h 0]at this;exact this.symm
def DS{c:String} {b:Bd} {ds:List D} {d:D} (h:Qk c np n b ds=.ok d) (x:Nat):dq c np n b x ds=.ok d:=by
 unfold Qk at h;split at h
 .rename_i e;have:=IZ e x;rw[this];exact h
 .cases h
end
end Pu
variable{d y:Pu.D}{ds xs ys dv:List Pu.D}{st' s1:Pu.ya}{f g:Pu.Ex}{p:List Pu.D->Pu.R Pu.D}{it:Pu.Nj}{L bd ck:Pu.Bd}{x3:Option Pu.Sl}{Xa:List (List Pu.D)}
namespace Pu
@[simp] theorem bg1:1<=big:=dR (by decide)
@[simp] theorem bg3:3<=big:=dR (by decide)
@[simp] theorem aG{β:Type}(a:α)(f:α->R β):(R.ok a).bind f=f a:=rfl
@[simp] theorem jY(b:Bool)(f:Bool->R α):nh (.bl b) f=f b:=rfl
@[simp] theorem bLn(i:Int)(f:Int->R α):Pg (.int i) f=f i:=rfl
@[simp] theorem bLo(st:ya)(f:ya->R Fl):zq (.ok (.nx st)) f=f st:=rfl
@[simp] theorem bLp(d:D)(f:ya->R Fl):zq (.ok (.rt d)) f=.ok (.rt d):=rfl
@[simp] theorem ES(i:Nat)(st:ya):aB i st=(match st[i]? with|some (some (.v d))=>R.ok d|_=>.bad):=rfl
@[simp] theorem SW(d:D)(st:ya):eC d st=.ok d:=rfl
@[simp] theorem Bt(op:pe)(f g:Ex)(st:ya):e2 op f g st=(f st).bind λx=>(g st).bind λy=>op x y:=rfl
@[simp] theorem bK1(op:D->R D)(f:Ex)(st:ya):e1 op f st=(f st).bind op:=rfl
@[simp] theorem bN6(p:D->Bool)(f:Ex)(st:ya):eB p f st=(f st).bind λx=>aV (ym x=true) (.ok (.bl (p x))):=rfl
@[simp] theorem GS(f g:Ex)(st:ya):xO f g st=(f st).bind λx=>nh x λb=>if b=true then g st else .ok (.bl false):=rfl
@[simp] theorem bGk(f g:Ex)(st:ya):Jl f g st=(f st).bind λx=>nh x λb=>if b=true then .ok (.bl true) else g st:=rfl
@[simp] theorem HS(f:Ex)(st:ya):zN f st=(f st).bind λx=>nh x λb=>.ok (.bl (!b)):=rfl
@[simp] theorem bLq(st:ya):aL st=.ok []:=rfl
@[simp] theorem B9(f:Ex)(r:zd)(st:ya):aA f r st=(f st).bind λx=>(r st).bind λxs=>.ok (x::xs):=rfl
@[simp] theorem Δ(r:zd)(st:ya):iR r st=(r st).bind λxs=>aV (xs.length<=big) (.ok (.lst xs)):=rfl
@[simp] theorem C9(p:List D->R D)(r:zd)(st:ya):aK p r st=(r st).bind p:=rfl
@[simp] theorem bMr(m:Cn)(f:Ex)(r:zd)(st:ya):Zh m f r st=(f st).bind λx=>(r st).bind λxs=>m x xs:=rfl
@[simp] theorem bK2(st:ya):aq st=.ok none:=rfl
@[simp] theorem bK3(f:Ex)(st:ya):uM f st=(f st).bind λx=>Pg x λi=>.ok (some i):=rfl
@[simp] theorem bGl(f:Ex)(lo hi:yn)(st:ya):bj f lo hi st=(f st).bind λx=>(lo st).bind λl=>(hi st).bind λh=>FH x l h:=rfl
@[simp] theorem Ε(f:Ex)(st:ya):uL f st=(f st).bind λx=>Pg x λj=>aV (-(big:Int)<=j/\j<=(big:Int)) (.ok (iC 0 j.toNat)):=rfl
@[simp] theorem bK4(tg:Tg)(b:Bd)(st:ya):Lb tg b [] st=.ok (.nx st):=rfl
def wC(tg:Tg)(b:Bd)(d:D)(ds:List D)(st:ya):Lb tg b (d::ds) st=(tg d st).bind λs1=>(b s1).bind λx=>match x with
  |.nx s2=>Lb tg b ds s2
  |.ct s2=>Lb tg b ds s2
  |.bk s2=>.ok (.nx s2)
  |.rt v=>.ok (.rt v):=rfl
def uN(c:Ex)(b:Bd)(n:Nat)(st:ya):jU c b (n+1) st=(c st).bind λx=>nh x λq=>if q=true then (b st).bind λx=>(match x with
  |.nx s2=>jU c b n s2
  |.ct s2=>jU c b n s2
  |.bk s2=>.ok (.nx s2)
  |.rt v=>.ok (.rt v)) else .ok (.nx st):=rfl
@[simp] theorem hV(f:Ex)(st:ya):Fc f st=(f st).bind λx=>match x with|.lst xs=>.ok xs|.tup xs=>.ok xs|.str xs=>aV (xs.length<=big) (.ok (xs.map λc=>.str [c]))|_=>.bad:=rfl
@[simp] theorem R7(n:Nat)(c:Ex)(b:Bd)(st:ya):Kn n c b st=jU c b n st:=rfl
@[simp] theorem Ζ(i:Nat)(f:Ex)(st:ya):xh i f st=(f st).bind λd=>match st[i]? with|some (some (.o .l xs))=>aV (xs.length<big) (.ok (.nx (st.set i (some (.o .l (xs++[d]))))))|_=>.bad:=rfl
@[simp] theorem E9(i:Nat)(f:Ex)(st:ya):qW i f st=(f st).bind λd=>match d with|.lst xs=>.ok (.nx (st.set i (some (.o .l xs))))|_=>.bad:=rfl
@[simp] theorem Η(i:Nat)(g f:Ex)(st:ya):Pt i g f st=(f st).bind λd=>(g st).bind λx=>Pg x λj=>match st[i]? with|some (some (.o .l xs))=>(Xc (lc xs.length j)).bind λk=>.ok (.nx (st.set i (some (.o .l (xs.set k d)))))|_=>.bad:=rfl
@[simp] theorem Θ(i:Nat)(f:Ex)(st:ya):Qy i f st=(f st).bind λd=>match d with|.lst ys=>(match st[i]? with|some (some (.o .l xs))=>aV (xs.length+ys.length<=big) (.ok (.nx (st.set i (some (.o .l (xs++ys))))))|_=>.bad)|_=>.bad:=rfl
@[simp] theorem F9(i:Nat)(c f:String)(e:Ex)(st:ya):bq i c f e st=(e st).bind λd=>match st[i]? with|some (some (.o (.i n c' ns) xs))=>aV (c'=c/\f∉ns/\ns.length<900) (.ok (.nx (st.set i (some (.o (.i n c' (ns++[f])) (xs++[d]))))))|_=>.bad:=rfl
@[simp] theorem zZ(c f c':String)(ns:List String)(xs:List D):jN c f (.ins c' ns xs)=aV (c'=c) (Xc ((ns.zip xs).lookup f)):=rfl
@[simp] theorem NQ(c m:String)(p:List D->R D)(dv:List D)(f:Ex)(r:zd)(st:ya):rT c m p dv f r st=(f st).bind λx=>(r st).bind λxs=>match x with|.ins c' ns _=>aV (c'=c/\m∉ns) (p (x::(xs++dv)))|_=>.bad:=rfl
@[simp] theorem bMs(is:List Nat)(b:Bd)(st:ya):Yg is b st=b (is.foldl Qm st):=rfl
@[simp] theorem bMt(st:ya)(i:Nat):Qm st i=(match st[i]? with|some (some (.o k xs))=>st.set i (some (.v (qp k xs)))|_=>st):=rfl
@[simp] theorem bLr(x y:List Nat):yt (.str x) [.str y]=.ok (.int (zX (pH x y 0))):=rfl
@[simp] theorem bK5(x y:List Nat):Ss (.str x) [.str y]=aV (x.length<=big) (.ok (.str (vG x y))):=rfl
@[simp] theorem bEy(i:Nat):zX (some i)=i:=rfl
@[simp] theorem bK6(x:List D):fU (.tup x)=.ok (.int x.length):=rfl
@[simp] theorem bLs(i j:Int):Il (.int i) (.int j)=.ok (.bl (decide (j<=i))):=rfl
@[simp] theorem bK7(b:Int):ym (.int b)=true:=rfl
@[simp] theorem bK8(b:List Nat):ym (.str b)=true:=rfl
@[simp] theorem bK9(b:List D):ym (.tup b)=true:=rfl
@[simp] theorem bKa(b:List D):ym (.lst b)=true:=rfl
@[simp] theorem bMu(i:Nat)(d:D)(st:ya):ib i d st=.ok (st.set i (some (.v d))):=rfl
@[simp] theorem bLt(st:ya):ae [] st=st:=rfl
@[simp] theorem bKb(i:Nat)(is:List Nat)(st:ya):ae (i::is) st=ae is (st.set i none):=rfl
def jZ(tg:Tg)(c f:Ex)(st:ya)(d:D)(ds:List D):iQ tg c f st (d::ds)=(tg d st).bind λs1=>(c s1).bind λx=>nh x λb=>if b=true then (f s1).bind λy=>(iQ tg c f st ds).bind λys=>.ok (y::ys) else iQ tg c f st ds:=rfl
@[simp] theorem NC(is:List Nat)(tg:Tg)(it:Nj)(c f:Ex)(st:ya):dI is tg it c f st=(it st).bind λxs=>aV (xs.length<=big) ((iQ tg c f (ae is st) xs).bind λys=>.ok (.lst ys)):=rfl
@[simp] theorem bKc(st:ya):eQ st=.ok (.nx st):=rfl
@[simp] theorem IS(a b:Bd)(st:ya):bG a b st=zq (a st) b:=rfl
@[simp] theorem JS(i:Nat)(f:Ex)(st:ya):dH i f st=(f st).bind λd=>.ok (.nx (st.set i (some (.v d)))):=rfl
@[simp] theorem xQ(f:Ex)(st:ya):cZ f st=(f st).bind λd=>.ok (.rt d):=rfl
@[simp] theorem pE(c:Ex)(a b:Bd)(st:ya):gd c a b st=(c st).bind λx=>nh x λq=>if q=true then a st else b st:=rfl
@[simp] theorem KS(tg:Tg)(it:Nj)(body:Bd)(st:ya):xP tg it body st=(it st).bind λxs=>Lb tg body xs st:=rfl
@[simp] theorem bKd(i j:Int):gP (.int i) (.int j)=.ok (.int (i+j)):=rfl
@[simp] theorem bKe(i j:Int):qU (.int i) (.int j)=aV (0<j) (.ok (.int (i%j))):=rfl
@[simp] theorem bLu(i j:Int):Oz (.int i) (.int j)=.ok (.bl (decide (i<=j))):=rfl
@[simp] theorem bMv(x y:D):Jd x y=aV (de x<=64/\plain x=true/\plain y=true) (.ok (.bl (bc x y))):=rfl
@[simp] theorem bGm(x y:D):Ue x y=aV (de x<=64/\plain x=true/\plain y=true) (.ok (.bl (!bc x y))):=rfl
@[simp] theorem bLv(i:Int):de (.int i)=0:=by unfold de;rfl
@[simp] theorem bLw(s:List Nat):de (.str s)=0:=by unfold de;rfl
@[simp] theorem bLx(x:List D):de (.lst x)=jX x+1:=by conv=>lhs;unfold de
@[simp] theorem bIw:plain .Gb=true:=by unfold plain;rfl
@[simp] theorem bKf(b:Bool):plain (.bl b)=true:=by unfold plain;rfl
@[simp] theorem bIx(i:Int):plain (.int i)=true:=by unfold plain;rfl
@[simp] theorem bIy(s:List Nat):plain (.str s)=true:=by unfold plain;rfl
@[simp] theorem bIz(x:List D):plain (.tup x)=eV x:=by conv=>lhs;unfold plain
@[simp] theorem bJ0(x:List D):plain (.lst x)=eV x:=by conv=>lhs;unfold plain
@[simp] theorem bJ1(t:Bool)(k v:List D):plain (.jd t k v)=false:=by unfold plain;rfl
@[simp] theorem bJ2(c:String)(n:List String)(v:List D):plain (.ins c n v)=false:=by unfold plain;rfl
@[simp] theorem bJ3(c:String)(n:List String)(v:List D):plain (.Ei c n v)=false:=by unfold plain;rfl
@[simp] theorem bKg(f:String):plain (.fn f)=false:=by unfold plain;rfl
@[simp] theorem bGn:eV []=true:=by unfold eV;rfl
@[simp] theorem qX(a:D)(x:List D):eV (a::x)=(plain a&&eV x):=by conv=>lhs;unfold eV
@[simp] theorem bKh:jX []=0:=by unfold jX;rfl
@[simp] theorem S7(a:D)(x:List D):jX (a::x)=max (de a) (jX x):=by conv=>lhs;unfold jX
@[simp] theorem bLy(i j:Int):bc (.int i) (.int j)=(i==j):=by unfold bc;rfl
@[simp] theorem bLz(i j:List Nat):bc (.str i) (.str j)=(i==j):=by unfold bc;rfl
@[simp] theorem bEz(x:List D)(y:List D):bc (.lst x) (.lst y)=jT x y:=by conv=>lhs;unfold bc
@[simp] theorem bCa:jT [] []=true:=by unfold jT;rfl
@[simp] theorem bBa(b:D)(y:List D):jT [] (b::y)=false:=by unfold jT;rfl
@[simp] theorem bBb(b:D)(y:List D):jT (b::y) []=false:=by unfold jT;rfl
@[simp] theorem bKi(x:List D):fU (.lst x)=.ok (.int x.length):=rfl
@[simp] theorem bM0(x:List D)(i:Int):Ta (.tup x) (.int i)=Xc (Wb x i):=rfl
@[simp] theorem bM1(x:List D)(i:Int):Ta (.lst x) (.int i)=Xc (Wb x i):=rfl
@[simp] theorem bM2(x:List Nat)(l h:Option Int):FH (.str x) l h=aV (x.length<=big) (.ok (.str (cut x l h))):=rfl
@[simp] theorem bKj(a:α):Xc (some a)=.ok a:=rfl
@[simp] theorem gR{c:Prop}{r:R α}(h:c):aV c r=r:=aD h
@[simp] theorem LS{b:Bd} (h:ds.length=np):cQ np n b ds=(b (ds.map (λd=>some (.v d))++List.replicate (n-np) none)).bind λx=>match x with
  |.nx _=>.ok .Gb
  |.rt d=>.ok d
  |_=>.bad:=aD h
def nV{xs:List α}{i:Int}(h0:0<=i)(h:i<xs.length):Wb xs i=some (xs[i.toNat]'(by omega)):=by
 unfold Wb lc;rw[Na h0,Na h];exact Pc (by omega)
def Pb{xs:List α}{i:Nat}(h:i<xs.length):Wb xs (i:Int)=some xs[i]:=by
 rw[nV (by omega) (by omega)]
 simp
def KL(lo:Int)(n:Nat):(iC lo n).length=n:=by simp[iC]
def xy:D->R D
 |.lst x=>.ok (.lst x)
 |.tup x=>.ok (.lst x)
 |_=>.bad
def jr:List D->R (List Bool)
 |[]=>.ok []
 |.bl b::r=>(jr r).bind λx=>.ok (b::x)
 |_::_=>.bad
def tQ:List D->R (List Int)
 |[]=>.ok []
 |.int i::r=>(tQ r).bind λx=>.ok (i::x)
 |_::_=>.bad
def gq:List D->R (List (List Nat))
 |[]=>.ok []
 |.str s::r=>(gq r).bind λx=>.ok (s::x)
 |_::_=>.bad
def zi:D->R D
 |.lst x=>(jr x).bind λl=>.ok (.bl (l.all id))
 |_=>.bad
def Sg:List Int->Int
 |[]=>0
 |i::r=>r.foldl (λa b=>if b>a then b else a) i
noncomputable def Qn:D->R D
 |.lst x=>(tQ x).bind λl=>aV (0<l.length) (.ok (.int (Sg l)))
 |_=>.bad
def Ek(sep:List Nat):List (List Nat)->List Nat
 |[]=>[]
 |[x]=>x
 |x::r=>x++sep++Ek sep r
noncomputable def iq:Cn
 |.str sep,[.lst x]=>(gq x).bind λl=>aV ((l.map List.length).sum+l.length*sep.length<=big) (.ok (.str (Ek sep l)))
 |_,_=>.bad
theorem pV:∀{x:List D}{l:List Bool},jr x=.ok l->x=l.map D.bl
 |[],l,h=>by cases h;rfl
 |d::x,l,h=>by
  cases d<;>first|(cases h;done)|skip
  obtain⟨l',h1,h2⟩:=R.ja h;cases h2;rw[pV h1];rfl
theorem wF:∀{x:List D}{l:List Int},tQ x=.ok l->x=l.map D.int
 |[],l,h=>by cases h;rfl
 |d::x,l,h=>by
  cases d<;>first|(cases h;done)|skip
  obtain⟨l',h1,h2⟩:=R.ja h;cases h2;rw[wF h1];rfl
theorem OQ:∀{x:List D} {l:List (List Nat)},gq x=.ok l->x=l.map D.str
 |[],l,h=>by cases h;rfl
 |d::x,l,h=>by
  cases d<;>first|(cases h;done)|skip
  obtain⟨l',h1,h2⟩:=R.ja h;cases h2;rw[OQ h1];rfl
theorem MS:∀(l:List Bool),jr (l.map D.bl)=.ok l
 |[]=>rfl
 |b::l=>by show (jr (l.map D.bl)).bind _=_;rw[MS l];rfl
theorem tE:∀(l:List Int),tQ (l.map D.int)=.ok l
 |[]=>rfl
 |b::l=>by show (tQ (l.map D.int)).bind _=_;rw[tE l];rfl
theorem iP:∀(l:List (List Nat)),gq (l.map D.str)=.ok l
 |[]=>rfl
 |b::l=>by show (gq (l.map D.str)).bind _=_;rw[iP l];rfl
theorem Gw:∀(r:List Int)(a:Int),a<=r.foldl (λa b=>if b>a then b else a) a/\(∀x∈r,x<=r.foldl (λa b=>if b>a then b else a) a)/\(r.foldl (λa b=>if b>a then b else a) a=a\/r.foldl (λa b=>if b>a then b else a) a∈r)
 |[],a=>⟨Int.le_refl _,λ_ h=>(by cases h),.inl rfl⟩
 |b::r,a=>by
  obtain⟨h1,h2,h3⟩:=Gw r (if b>a then b else a)
  rw[Mm];have ha:a<=(if b>a then b else a):=by split<;>omega
  have hb:b<=(if b>a then b else a):=by split<;>omega
  refine⟨Int.le_trans ha h1,λx hx=>?_,?_⟩
  .rcases Nb.mp hx with rfl|hx
   .exact Int.le_trans hb h1
   .exact h2 x hx
  .rcases h3 with h3|h3
   .rw[h3];split
    .exact .inr xb
    .exact .inl rfl
   .exact .inr (Bb _ h3)
def As{l:List Int}{m:Int}(hm:m∈l)(hx:∀x∈l,x<=m):Sg l=m:=by
 cases l with
 |nil=>cases hm
 |cons i r=>
  obtain⟨h1,h2,h3⟩:=Gw r i;have ha:Sg (i::r)<=m:=by
   rcases h3 with h3|h3
   .exact hx _ (by show r.foldl _ i∈_;rw[h3];exact xb)
   .exact hx _ (Bb _ h3)
  have hb:m<=Sg (i::r):=by
   rcases Nb.mp hm with e|e
   .rw[e];exact h1
   .exact h2 _ e
  omega
inductive Pj where
 |nx (Xa:List (List D)) (st:ya)|rt (d:D)
abbrev NB:=List (List D)->ya->R Pj
def Yn(j:Nat)(f:Ex):NB:=λXa st=>(f st).bind λd=>.ok (.nx Xa (st.set j (some (.v d))))
def Rh(a b:NB):NB:=λXa st=>(a Xa st).bind λr=>match r with
 |.nx x s=>b x s
 |.rt d=>.ok (.rt d)
noncomputable def bMw(g f:Ex):NB:=λXa st=>(g st).bind λx=>Pg x λj=>(f st).bind λd=>(Xc (lc Xa.length j)).bind λk=>match Xa[k]? with
 |some ys=>aV (ys.length<big) (.ok (.nx (Xa.set k (ys++[d])) st))
 |none=>.bad
def Gk(tg:Tg)(body:NB):List D->List (List D)->ya->R Pj
 |[],Xa,st=>.ok (.nx Xa st)
 |d::ds,Xa,st=>(tg d st).bind λs1=>(body Xa s1).bind λr=>match r with
  |.nx x s2=>Gk tg body ds x s2
  |.rt v=>.ok (.rt v)
def Sy(tg:Tg)(it:Nj)(body:NB):NB:=λXa st=>(it st).bind λds=>Gk tg body ds Xa st
def qE(i:Nat)(b:Bd):NB:=λXa st=>(b (st.set i (some (.v (.lst (Xa.map D.lst)))))).bind λfl=>match fl with
 |.rt d=>.ok (.rt d)
 |_=>.bad
def SE(i:Nat):Bd:=λst=>match st[i]? with
 |some (some (.o .l xs))=>.ok (.rt (.lst xs))
 |_=>.bad
def Hk(bd:Bd)(i:Nat):Bd:=λst=>match bd st with
 |.ok (.nx s)=>SE i s
 |_=>.bad
def oK(l:List Int):List Int:=l.foldl (λqa x=>if qa.any (· == x) then qa else qa++[x]) []
noncomputable def HD:D->R D
 |.lst x=>(tQ x).bind λl=>aV (l.length<=4000) (.ok (.int (oK l).length))
 |_=>.bad
def atom:D->Bool
 |.Gb=>true
 |.bl _=>true
 |.int _=>true
 |.str _=>true
 |_=>false
def yy:D->Bool
 |.lst xs=>xs.all atom
 |_=>false
noncomputable section
def Us:D->R D
 |.lst xs=>aV (xs.length<=big/\xs.all yy=true) (.ok (.lst xs))
 |_=>.bad
def Gj:D->List D
 |.lst xs=>xs
 |_=>[]
open Classical in
def bN7(c:String)(np n:Nat)(b:Bd)(ds:List D):R D:=if h:∃r,∀x,dq c np n b x ds=r then choose h else .bad
end
def UE(j:Nat)(f:Ex):NB:=λXa st=>(f st).bind λd=>match d with
 |.lst xs=>.ok (.nx Xa (st.set j (some (.o .l xs))))
 |_=>.bad
noncomputable section
def vE(i:Nat)(f:Ex)(nb:NB):Bd:=λst=>(f st).bind λd=>(Us d).bind λd=>(nb ((Gj d).map Gj) (st.set i none)).bind λr=>match r with
 |.rt d=>.ok (.rt d)
 |_=>.bad
end
def yh:List Nat->List D->List D
 |c::z,d::ds=>.tup [.str [c],d] :: yh z ds
 |_,_=>[]
def UW(f g:Ex):Nj:=λst=>(f st).bind λx=>(g st).bind λy=>match x,y with
 |.str z,.lst ds=>.ok (yh z ds)
 |_,_=>.bad
noncomputable section
def Bs:D->R D
 |.int n=>aV (-(big:Int)<=n/\n<=(big:Int)) (.ok (.lst (iC 0 n.toNat)))
 |_=>.bad
def xE(i:Nat)(g f:Ex):Bd:=λst=>(g st).bind λk=>(f st).bind λd=>aV (Ot k=true/\atom d=true) (.ok (.nx (st.set i (some (.o (.d false [k]) [d])))))
end
noncomputable section
def zm:pe
 |.int i,.int j=>aV (0<=j/\j<=1000000/\i.natAbs<18446744073709551616) (.ok (.int (i*2^j.toNat)))
 |_,_=>.bad
def Aq:pe
 |.int i,.int j=>aV (0<=j) (.ok (.int (i/2^j.toNat)))
 |_,_=>.bad
def Am:pe
 |.int i,.int j=>aV (0<=i/\0<=j) (.ok (.int ((i.toNat&&&j.toNat:Nat):Int)))
 |_,_=>.bad
def Pm:pe
 |.int i,.int j=>aV (0<=i/\0<=j) (.ok (.int ((i.toNat|||j.toNat:Nat):Int)))
 |_,_=>.bad
def zy:Cn
 |.lst xs,[.int k]=>(tQ xs).bind λl=>(Xc (l.findIdx? λi=>i==k)).bind λn=>aV (xs.length<=big) (.ok (.int (n:Int)))
 |_,_=>.bad
end
def wG(i:Int):Nat:=if i=0 then 0 else i.natAbs.log2+1
def xx:D->R D
 |.int i=>.ok (.int (wG i:Nat))
 |_=>.bad
noncomputable def Vs:D->R D
 |.jd false ks ds=>aV (ks.length<=big) (.ok (.lst (List.zipWith (λk d=>.tup [k,d]) ks ds)))
 |_=>.bad
def uO(bd:Bd)(f:Ex):Bd:=λst=>match bd st with
 |.ok (.nx s)=>(f s).bind λd=>match d with
  |.lst xs=>.ok (.rt (.lst xs))
  |_=>.bad
 |_=>.bad
def QF(g h f:Ex):NB:=λXa st=>(f st).bind λd=>(g st).bind λa=>Pg a λj=>(h st).bind λb=>Pg b λk=>(Xc (lc Xa.length j)).bind λm=>match Xa[m]? with
 |some ys=>(Xc (lc ys.length k)).bind λl=>.ok (.nx (Xa.set m (ys.set l d)) st)
 |none=>.bad
def Zn:pe
 |.int i,.int j=>.ok (.bl (decide (i<j)))
 |_,_=>.bad
noncomputable def jO:pe
 |.int i,.int j=>aV ((-18446744073709551616<i/\i<18446744073709551616)\/(-18446744073709551616<j/\j<18446744073709551616)) (.ok (.int (i*j)))
 |_,_=>.bad
@[simp] theorem bKk(i j:Int):Zn (.int i) (.int j)=.ok (.bl (decide (i<j))):=rfl
@[simp] theorem bJ4(i j:Int):jO (.int i) (.int j)=aV ((-18446744073709551616<i/\i<18446744073709551616)\/(-18446744073709551616<j/\j<18446744073709551616)) (.ok (.int (i*j))):=rfl
end Pu
variable{nb:Pu.NB}
namespace Pu
noncomputable section
def Rk(l:List Int):List Int:=l.mergeSort λa b=>decide (a<=b)
def OC(l:List Int):(Rk l).Perm l:=List.mergeSort_perm _ _
def G9(l:List Int):(Rk l).Pairwise (· <= ·):=by
 have h:=List.pairwise_mergeSort (le:=λa b:Int=>decide (a<=b)) (λa b c h1 h2=>by
  have:=Zj h1;have:=Zj h2;exact Ld (by omega)) (λa b=>by
  rcases Int.le_total a b with h|h
  .simp[h]
  .simp[h]) l
 exact h.imp λh=>Zj h
def Cs:D->R D
 |.lst x=>(tQ x).bind λl=>aV (l.length<=4000/\(oK l).length<64) (.ok (.lst ((Rk (oK l)).map D.int)))
 |_=>.bad
end
noncomputable section
def jq:D->D->D->R D
 |.jd t ks vs,k,x=>aV (Fb t k=true) (if oH ks k=true then Xc (uK ks vs k) else .ok x)
 |_,_,_=>.bad
def Qt(f g h:Ex):Ex:=λst=>(f st).bind λd=>(g st).bind λk=>(h st).bind λx=>jq d k x
end
noncomputable section
def Ay(i j:Nat)(p:List D->R D)(f:Ex):Bd:=λst=>(f st).bind λx=>match st[j]? with
 |some (some (.o .l ys))=>(match ys.getLast? with
  |some d=>aV (ys.length<=big) ((p [x,d]).bind λy=>.ok (.nx ((st.set j (some (.o .l ys.dropLast))).set i (some (.v y)))))
  |none=>.bad)
 |_=>.bad
end
noncomputable section
def vm(r:zd)(g:Ex):Ex:=λst=>(r st).bind λxs=>(g st).bind λy=>Pg y λj=>aV (xs.length<=big/\xs.length*j.toNat<=big/\-4611686018427387904<=j/\j<4611686018427387904) (.ok (.lst (rep j.toNat xs)))
end
noncomputable section
def Ai:List D->List D->List D->List D->List D×List D
 |ks,vs,k::kr,v::vr=>Ai (oJ ks k) (rR ks vs k v) kr vr
 |ks,vs,_,_=>(ks,vs)
def Rt(i:Nat)(f:Ex):Bd:=λst=>(f st).bind λd=>match d with
 |.jd false sA qi=>(match st[i]? with
  |some (some (.o (.d false ks) vs))=>aV (sA.length=qi.length/\vs.length+qi.length<=big) (.ok (.nx (st.set i (some (.o (.d false (Ai ks vs sA qi).1) (Ai ks vs sA qi).2)))))
  |_=>.bad)
 |_=>.bad
def By(i:Nat)(g f:Ex):Bd:=λst=>(g st).bind λk=>(f st).bind λd=>match st[i]? with
 |some (some (.o (.d false ks) vs))=>aV (Fb false k=true/\vs.length<big) (.ok (.nx (if oH ks k=true then st else st.set i (some (.o (.d false (oJ ks k)) (rR ks vs k d))))))
 |_=>.bad
end
noncomputable def Cy:D->R D
 |.jd false _ ds=>(tQ ds).bind λl=>aV (0<l.length) (.ok (.int (Sg l)))
 |_=>.bad
noncomputable section
def NX(f g:Ex):Ex:=λst=>(f st).bind λx=>(g st).bind λy=>Pg x λi=>Pg y λj=>aV (-(big:Int)<=i/\i<=(big:Int)/\-(big:Int)<=j/\j<=(big:Int)/\j-i<=(big:Int)) (.ok (.lst (iC i (j-i).toNat)))
def OS(i j:Nat)(f:Ex):Bd:=λst=>(f st).bind λd=>Pg d λn=>match st[i]?,st[j]? with
 |some (some (.o .l xs)),some (some (.o .l ys))=>(Xc (lc ys.length n)).bind λm=>(Xc ys[m]?).bind λy=>aV (xs.length<big/\i≠j/\ys.length<=big) (.ok (.nx ((st.set j (some (.o .l (ys.eraseIdx m)))).set i (some (.o .l (xs++[y]))))))
 |_,_=>.bad
def VE(j:Nat)(g f:Ex):NB:=λXa st=>(f st).bind λd=>(g st).bind λx=>Pg x λn=>match st[j]? with
 |some (some (.o .l xs))=>(Xc (lc xs.length n)).bind λk=>.ok (.nx Xa (st.set j (some (.o .l (xs.set k d)))))
 |_=>.bad
end
noncomputable section
def XM:Bd:=bG (gd (e2 Zn (aB 1) (e1 fU (aB 0))) (cZ (e2 Ta (aB 0) (aB 1))) (eQ)) (bG (gd (e2 Jd (aB 0) (iR (aL))) (cZ (e2 jO (eC (.int 7919)) (aB 1))) (eQ)) (cZ (e2 gP (e2 zW (e2 Ta (aB 0) (e2 qU (aB 1) (e1 fU (aB 0)))) (e2 gP (aB 1) (eC (.int 1)))) (e2 jO (eC (.int 7919)) (aB 1)))))
def cI:List D->R D:=cQ 2 2 XM
def DB:Bd:=bG (dH 3 (e2 qU (e2 jO (e2 gP (e2 qU (aB 0) (eC (.int 2147483647))) (e2 jO (eC (.int 7919)) (aB 1))) (eC (.int 48271))) (eC (.int 2147483629)))) (bG (dH 3 (e2 qU (e2 jO (e2 qU (e2 jO (aB 3) (aB 3)) (eC (.int 2147483647))) (eC (.int 69621))) (eC (.int 2147483587)))) (cZ (e2 qU (e2 qU (e2 jO (aB 3) (aB 3)) (eC (.int 2147483629))) (aB 2))))
def bI:List D->R D:=cQ 3 4 DB
def wH(st:ya):R D:=(aK bI (aA (aB 10) (aA (e2 gP (eC (.int 11)) (aB 13)) (aA (aB 4) (aL))))) st
def lM(st:ya):R D:=(e2 qU (e2 zW (aB 10) (e2 Ta (iR (aA (eC (.int 1)) (aA (eC (.int 8)) (aA (eC (.int 64)) (aL))))) (aB 13))) (aB 4)) st
def lO(st:ya):R Fl:=(bG (dH 10 (aK cI (aA (aB 0) (aA (e2 gP (e2 gP (aB 1) (eC (.int 2))) (aB 9)) (aL))))) (bG (qW 11 (dI [13] (ib 13) (uL (aB 5)) cH (wH))) (bG (dH 12 (aK bI (aA (aB 10) (aA (eC (.int 10)) (aA (eC (.int 7)) (aL)))))) (bG (gd (e2 Jd (aK bI (aA (aB 3) (aA (eC (.int 6)) (aA (eC (.int 2)) (aL))))) (eC (.int 0))) (bG (qW 11 (dI [13] (ib 13) (uL (aB 5)) cH (lM))) (dH 12 (e2 qU (e2 zW (aB 10) (eC (.int 512))) (eC (.int 7))))) (gd (xO (e2 Jd (aK bI (aA (aB 3) (aA (eC (.int 3)) (aA (eC (.int 2)) (aL))))) (eC (.int 0))) (e2 Xg (aK bI (aA (aB 10) (aA (eC (.int 8)) (aA (eC (.int 4)) (aL))))) (eC (.int 0)))) (Pt 11 (aK bI (aA (aB 10) (aA (eC (.int 9)) (aA (aB 5) (aL))))) (e2 qU (e2 gP (aB 9) (eC (.int 1))) (aB 4))) (eQ))) (bG (Yg [11] (xh 7 (aB 11))) (xh 8 (e2 jO (aB 12) (aB 6)))))))) st
def ZK:Bd:=bG (dH 3 (aK cI (aA (aB 0) (aA (aB 1) (aL))))) (bG (dH 4 (e2 gP (eC (.int 1)) (aK bI (aA (aB 3) (aA (eC (.int 1)) (aA (aB 2) (aL))))))) (bG (dH 5 (e2 gP (eC (.int 1)) (aK bI (aA (aB 3) (aA (eC (.int 2)) (aA (eC (.int 3)) (aL))))))) (bG (dH 6 (e2 Ta (iR (aA (eC (.int 1)) (aA (eC (.int 1)) (aA (eC (.int 1)) (aA (e2 gP (eC (.int 1)) (e2 jO (eC (.int 2)) (e2 qU (aK cI (aA (aB 0) (aA (e2 gP (aB 1) (eC (.int 1))) (aL)))) (e2 xq (eC (.int 10)) (eC (.int 27)))))) (aL)))))) (aK bI (aA (aB 3) (aA (eC (.int 4)) (aA (eC (.int 4)) (aL))))))) (bG (qW 7 (iR (aL))) (bG (qW 8 (iR (aL))) (bG (xP (ib 9) (uL (aB 4)) (lO)) (Yg [7,8] (cZ (zY (aA (aB 7) (aA (aB 8) (aL))))))))))))
def kE:List D->R D:=cQ 3 14 ZK
def tR(st:ya):R Fl:=(OS 3 2 (aK bI (aA (aK cI (aA (aB 0) (aA (e2 gP (eC (.int 8)) (e1 fU (eO 2))) (aL)))) (aA (eC (.int 51)) (aA (e1 fU (eO 2)) (aL)))))) st
def eL(st:ya):R D:=(e2 Ue (eO 2) (iR (aL))) st
def DM:Bd:=bG (qW 2 (NX (eC (.int 1)) (aB 1))) (bG (qW 3 (iR (aA (eC (.int 0)) (aL)))) (bG (Kn 100000 (eL) (tR)) (Yg [3] (cZ (aB 3)))))
def sJ:List D->R D:=cQ 2 4 DM
def iT(st:ya):R D:=(vm (aA (eC (.int 0)) (aL)) (e1 fU (e2 Ta (aB 1) (eC (.int 0))))) st
def pL(Xa:List (List D))(st:ya):R Pj:=(Rh (Yn 11 (e2 gP (e2 jO (eC (.int 2)) (e2 Ta (e2 Ta (aB 1) (e2 zW (aB 9) (eC (.int 2)))) (aB 10))) (aK bI (aA (aK cI (aA (aB 0) (aA (e2 gP (eC (.int 11)) (aB 9)) (aL)))) (aA (e2 gP (eC (.int 54)) (aB 10)) (aA (eC (.int 2)) (aL))))))) (QF (e2 Ta (aB 4) (aB 9)) (aB 10) (e2 Ta (aB 4) (aB 11)))) Xa st
def pM(Xa:List (List D))(st:ya):R Pj:=(Rh (Sy (ib 10) (uL (e1 fU (e2 Ta (aB 1) (eC (.int 0))))) pL) (VE 6 (e2 Ta (aB 4) (aB 9)) (e2 gP (e2 jO (e2 Ta (aB 2) (e2 zW (aB 9) (eC (.int 2)))) (aB 7)) (aB 8)))) Xa st
def gL:Bd:=bG (dH 3 (e2 jO (eC (.int 2)) (e1 fU (aB 1)))) (bG (dH 4 (aK sJ (aA (aB 0) (aA (aB 3) (aL))))) (vE 5 (dI [9] (ib 9) (uL (aB 3)) cH (iT)) (Rh (UE 6 (vm (aA (eC (.int 0)) (aL)) (aB 3))) (Rh (Yn 7 (e2 gP (eC (.int 1)) (e2 jO (eC (.int 2)) (aK bI (aA (aK cI (aA (aB 0) (aA (eC (.int 9)) (aL)))) (aA (eC (.int 52)) (aA (eC (.int 5)) (aL)))))))) (Rh (Yn 8 (e2 jO (eC (.int 2)) (e2 qU (aK cI (aA (aB 0) (aA (eC (.int 10)) (aL)))) (e2 Ta (iR (aA (eC (.int 1)) (aA (eC (.int 9)) (aA (e2 xq (eC (.int 10)) (eC (.int 20))) (aL))))) (aK bI (aA (aK cI (aA (aB 0) (aA (eC (.int 9)) (aL)))) (aA (eC (.int 53)) (aA (eC (.int 3)) (aL))))))))) (Rh (Sy (ib 9) (uL (aB 3)) pM) (qE 5 (Yg [6] (cZ (zY (aA (aB 5) (aA (aB 6) (aL)))))))))))))
def kI:List D->R D:=cQ 3 12 gL
def EB:Bd:=cZ (e2 Jd (e2 Am (e2 Aq (aB 0) (aB 1)) (eC (.int 1))) (eC (.int 1)))
def iG:List D->R D:=cQ 2 2 EB
def xR(st:ya):R D:=(aB 1) st
def xT(st:ya):R D:=(aK iG (aA (aB 0) (aA (aB 1) (aL)))) st
def GB:Bd:=cZ (dI [1] (ib 1) (uL (e1 xx (aB 0))) (xT) (xR))
def cT:List D->R D:=cQ 1 2 GB
def oA(st:ya):R Fl:=(dH 1 (e2 Pm (aB 1) (e2 zm (eC (.int 1)) (aB 2)))) st
def kC:Bd:=bG (dH 1 (eC (.int 0))) (bG (xP (ib 2) (Fc (aB 0)) (oA)) (cZ (aB 1)))
def lQ:List D->R D:=cQ 1 3 kC
def iL(st:ya):R Fl:=(Vd 3 (aB 4) (e2 Am (e2 Pm (aK lQ (aA (e2 Ta (aB 0) (aB 4)) (aL))) (e2 zm (eC (.int 1)) (aB 4))) (aB 1))) st
def oM(st:ya):R Fl:=(gd (aK iG (aA (e2 Ta (eO 3) (aB 4)) (aA (aB 5) (aL)))) (Vd 3 (aB 4) (e2 Pm (e2 Ta (eO 3) (aB 4)) (e2 Ta (eO 3) (aB 5)))) (eQ)) st
def kL(st:ya):R Fl:=(xP (ib 4) (Fc (aB 2)) (oM)) st
def EM:Bd:=bG (dH 2 (aK cT (aA (aB 1) (aL)))) (bG (zt 3 false) (bG (xP (ib 4) (Fc (aB 2)) (iL)) (bG (xP (ib 5) (Fc (aB 2)) (kL)) (Yg [3] (cZ (aB 3))))))
def lR:List D->R D:=cQ 2 6 EM
def HM:Bd:=bG (dH 2 (aK cT (aA (aB 1) (aL)))) (cZ (Jl (e2 Xg (e1 fU (aB 2)) (eC (.int 1))) (e2 nr (e2 Ta (aB 2) (eC (.int 0))) (e2 Ta (aB 0) (e2 Ta (aB 2) (eC (.int 0)))))))
def sO:List D->R D:=cQ 2 3 HM
def yR(st:ya):R D:=(aB 6) st
def yS(st:ya):R D:=(aK iG (aA (e2 Ta (aB 2) (aB 6)) (aA (aB 4) (aL)))) st
def rH(st:ya):R Fl:=(bG (dH 5 (aK lQ (aA (dI [6] (ib 6) (Fc (aK cT (aA (e2 Ta (aB 2) (aB 4)) (aL)))) (yS) (yR)) (aL)))) (gd (xO (e2 tL (aB 5) (eO 3)) (aK sO (aA (aB 0) (aA (aB 5) (aL))))) (xh 3 (aB 5)) (eQ))) st
def LL:Bd:=bG (dH 2 (aK lR (aA (aB 0) (aA (aB 1) (aL))))) (bG (qW 3 (iR (aL))) (bG (xP (ib 4) (Fc (aK cT (aA (aB 1) (aL)))) (rH)) (Yg [3] (cZ (aB 3)))))
def qC:List D->R D:=cQ 2 7 LL
def IM:Bd:=cZ (aK qC (aA (e1 (jN "Machine" "steps") (aB 0)) (aA (aB 1) (aL))))
def lU:List D->R D:=cQ 2 2 IM
def YM:Bd:=cZ (aK lQ (aA (e1 Bs (e1 (jN "Machine" "many") (aB 0))) (aL)))
def qY:List D->R D:=cQ 1 1 YM
def ZM:Bd:=cZ (e2 Ta (aK lR (aA (e1 (jN "Machine" "steps") (aB 0)) (aA (aK qY (aA (aB 0) (aL))) (aL)))) (aB 1))
def uP:List D->R D:=cQ 2 2 ZM
def ML:Bd:=cZ (aK lU (aA (aB 0) (aA (aK uP (aA (aB 0) (aA (eC (.int 0)) (aL)))) (aL))))
def mX:List D->R D:=cQ 1 1 ML
def sS(st:ya):R D:=(e2 Ta (e1 (jN "Machine" "ranks") (aB 0)) (aB 2)) st
def HB:Bd:=bG (gd (e2 Jd (aB 1) (eC (.int 0))) (nO) (eQ)) (cZ (e1 Qn (dI [2] (ib 2) (Fc (aK cT (aA (aB 1) (aL)))) cH (sS))))
def tU:List D->R D:=cQ 2 3 HB
def oC:Bd:=cZ (e2 Jd (e2 qU (aK tU (aA (aB 0) (aA (aB 1) (aL)))) (eC (.int 2))) (eC (.int 0)))
def gW:List D->R D:=cQ 2 2 oC
def yU(st:ya):R D:=(aB 3) st
def yV(st:ya):R D:=(e2 Ue (e2 Ta (e1 (jN "Machine" "ranks") (aB 0)) (aB 3)) (aB 2)) st
def NL:Bd:=bG (dH 2 (aK tU (aA (aB 0) (aA (aB 1) (aL))))) (cZ (aK lQ (aA (dI [3] (ib 3) (Fc (aK cT (aA (aB 1) (aL)))) (yV) (yU)) (aL))))
def qD:List D->R D:=cQ 2 4 NL
def yW(st:ya):R Fl:=(gd (e2 Jd (aK gW (aA (aB 0) (aA (aB 5) (aL)))) (aK gW (aA (aB 0) (aA (aB 1) (aL))))) (xh 3 (aB 5)) (xh 2 (aB 5))) st
def yX(st:ya):R Fl:=(bG (Ay 4 3 qD (aB 0)) (xP (ib 5) (Fc (aK lU (aA (aB 0) (aA (aB 4) (aL))))) (yW))) st
def yZ(st:ya):R D:=(e2 Ue (eO 3) (iR (aL))) st
def OL:Bd:=bG (qW 2 (iR (aL))) (bG (qW 3 (iR (aA (aB 1) (aL)))) (bG (Kn 100000 (yZ) (yX)) (Yg [2] (cZ (aB 2)))))
def iH:List D->R D:=cQ 2 6 OL
def rJ(rec:List D->R D)(st:ya):R Fl:=(bG (dH 5 (aK rec (aA (aB 0) (aA (aB 4) (aA (aB 2) (aL)))))) (gd (e2 Il (e1 fU (aB 5)) (e1 fU (aB 3))) (dH 3 (e2 gP (aB 5) (iR (aA (aB 1) (aL))))) (eQ))) st
def vI(rec:List D->R D):Bd:=bG (dH 3 (yo (e2 Jd (aK gW (aA (aB 0) (aA (aB 1) (aL)))) (aB 2)) (iR (aA (aB 1) (aL))) (iR (aL)))) (bG (xP (ib 4) (Fc (aK iH (aA (aB 0) (aA (aB 1) (aL))))) ((rJ rec))) (cZ (aB 3)))
def kJ:Nat->List D->R D
 |0=>cQ 3 6 nO
 |n+1=>cQ 3 6 (vI (kJ n))
def mY:List D->R D:=kJ 12
def qF(st:ya):R Fl:=(gd (xO (e2 nr (aB 8) (aB 2)) (e2 tL (aB 8) (eO 3))) (bG (Vd 3 (aB 8) (e2 gP (e2 Ta (eO 3) (aB 6)) (aB 7))) (xh 4 (aB 8))) (eQ)) st
def PL(st:ya):R Fl:=(bG (dH 6 (e2 Ta (eO 4) (aB 5))) (bG (xP (Nr [7,8]) (UW (eC (.str [97,98,99])) (e2 Ta (aB 0) (aB 6))) (qF)) (dH 5 (e2 gP (aB 5) (eC (.int 1)))))) st
def vJ(st:ya):R D:=(e2 Zn (aB 5) (e1 fU (eO 4))) st
def YA:Bd:=bG (xE 3 (aB 1) (eC (.str []))) (bG (qW 4 (iR (aA (aB 1) (aL)))) (bG (dH 5 (eC (.int 0))) (bG (Kn 100000 (vJ) (PL)) (Yg [3] (cZ (aB 3))))))
def qZ:List D->R D:=cQ 3 9 YA
def lV:Bd:=bG (dH 1 (aK qZ (aA (e1 (jN "Machine" "steps") (aB 0)) (aA (eC (.int 0)) (aA (e1 Bs (e1 (jN "Machine" "many") (aB 0))) (aL)))))) (eQ)
def o4:Bd:=uO lV (e1 Vs (aB 1))
def jP:List D->R D:=cQ 1 2 o4
def sC:Bd:=cZ (e2 Jd (aK lU (aA (aB 0) (aA (aB 1) (aL)))) (iR (aA (aB 1) (aL))))
def wI:List D->R D:=cQ 2 2 sC
def PQ:Bd:=bG (gd (zN (aK iG (aA (aB 1) (aA (aB 2) (aL))))) (cZ (eC .Gb)) (eQ)) (cZ (Qt (aK qZ (aA (e1 (jN "Machine" "steps") (aB 0)) (aA (aB 2) (aA (aK cT (aA (aB 1) (aL))) (aL))))) (aB 3) (eC .Gb)))
def Sr:List D->R D:=cQ 4 4 PQ
def iU(st:ya):R Fl:=(bG (dH 1 (e2 Ta (e2 Ta (e1 (jN "Machine" "steps") (aB 0)) (aB 1)) (Zh yt (eC (.str [97,98,99])) (aA (aB 4) (aL))))) (xh 3 (aB 1))) st
def eX:Bd:=bG (qW 3 (iR (aA (aB 1) (aL)))) (bG (xP (ib 4) (Fc (aB 2)) (iU)) (eQ))
def zO:Bd:=Hk eX 3
def bJ:List D->R D:=cQ 3 5 zO
def JM(st:ya):R Fl:=(gd (e2 tL (aB 5) (rT "Machine" "rooms_along" (bJ) [] (aB 0) (aA (aB 2) (aA (aB 3) (aL))))) (bG (dH 3 (e2 gP (aB 3) (aK Sr (aA (aB 0) (aA (aB 1) (aA (aB 4) (aA (aB 5) (aL)))))))) (dH 4 (aB 5))) (eQ)) st
def ON:Bd:=bG (gd (zN (aK wI (aA (aB 0) (aA (aB 1) (aL))))) (nO) (eQ)) (bG (gd (zN (aK iG (aA (aB 1) (aA (aB 2) (aL))))) (nO) (eQ)) (bG (gd (e2 Jd (aK cT (aA (aB 1) (aL))) (iR (aA (aB 2) (aL)))) (cZ (e2 Ta (eC (.str [97,98,99])) (Zh zy (e2 Ta (e1 (jN "Machine" "steps") (aB 0)) (aB 2)) (aA (aB 2) (aL))))) (eQ)) (bG (dH 3 (eC (.str []))) (bG (dH 4 (aB 2)) (bG (xP (ib 5) (Fc (aK cT (aA (aB 1) (aL)))) (JM)) (cZ (e2 gP (aB 3) (aK Sr (aA (aB 0) (aA (aB 1) (aA (aB 4) (aA (aB 2) (aL)))))))))))))
def kO:List D->R D:=cQ 3 6 ON
def fN(st:ya):R D:=(aB 5) st
def iN(st:ya):R D:=(aK iG (aA (e2 Ta (aB 1) (eC (.int 0))) (aA (e2 Ta (aB 5) (eC (.int 0))) (aL)))) st
def uQ(st:ya):R D:=(aK kO (aA (aB 0) (aA (aB 6) (aA (aB 3) (aL))))) st
def kP:Bd:=bG (dH 2 (dI [5] (ib 5) (Fc (aK jP (aA (aB 0) (aL)))) (iN) (fN))) (bG (dH 3 (e2 Ta (e2 Ta (aB 2) (eC (.int 0))) (eC (.int 0)))) (bG (dH 4 (e2 Ta (e2 Ta (aB 2) (eC (.int 0))) (eC (.int 1)))) (cZ (zY (aA (aB 4) (aA (dI [6] (ib 6) (Fc (aB 1)) cH (uQ)) (aL)))))))
def tH:List D->R D:=cQ 2 7 kP
def lW(st:ya):R Fl:=(bG (dH 4 (aK mY (aA (aB 0) (aA (aB 3) (aA (aB 1) (aL)))))) (gd (e2 Xg (e1 fU (aB 4)) (e1 fU (aB 2))) (dH 2 (aB 4)) (eQ))) st
def nL:Bd:=bG (dH 2 (iR (aL))) (bG (xP (ib 3) (Fc (aK mX (aA (aB 0) (aL)))) (lW)) (cZ (yo (e2 Ue (aB 2) (iR (aL))) (aK tH (aA (aB 0) (aA (aB 2) (aL)))) (eC .Gb))))
def fM:List D->R D:=cQ 2 5 nL
def QS:Bd:=cZ (zY (aA (aK fM (aA (aB 0) (aA (eC (.bl true)) (aL)))) (aA (aK fM (aA (aB 0) (aA (eC (.bl false)) (aL)))) (aL))))
def xU:List D->R D:=cQ 1 1 QS
def iV(st:ya):R D:=(xO (e2 gV (aB 1) (eC .Gb)) (e1 fU (e2 Ta (aB 1) (eC (.int 1))))) st
def rL:Bd:=cZ (dI [1] (ib 1) (Fc (aK xU (aA (aB 0) (aL)))) cH (iV))
def gC:List D->R D:=cQ 1 2 rL
def rK(st:ya):R D:=(aB 3) st
def rM(st:ya):R D:=(e2 tL (aB 3) (aB 1)) st
def rN(st:ya):R Fl:=(bG (dH 1 (e2 gP (aB 1) (dI [3] (ib 3) (Fc (e1 Cs (e2 Ta (aB 0) (e2 Ta (aB 1) (aB 2))))) (rM) (rK)))) (dH 2 (e2 gP (aB 2) (eC (.int 1))))) st
def rO(st:ya):R D:=(e2 Zn (aB 2) (e1 fU (aB 1))) st
def QL:Bd:=bG (dH 1 (iR (aA (eC (.int 0)) (aL)))) (bG (dH 2 (eC (.int 0))) (bG (Kn 100000 (rO) (rN)) (cZ (aB 1))))
def qG:List D->R D:=cQ 1 4 QL
def RL:Bd:=cZ (yo (e2 YZ (aB 0) (eC .Gb)) (eC (.int 0)) (e1 fU (e2 Ta (aB 0) (eC (.int 1)))))
def mZ:List D->R D:=cQ 1 1 RL
def LM:Bd:=cZ (yo (e2 Jd (e2 Jd (e2 qU (aB 0) (eC (.int 2))) (eC (.int 0))) (aB 1)) (aB 0) (e2 gP (aB 0) (eC (.int 1))))
def sU:List D->R D:=cQ 2 2 LM
def wJ(rec:List D->R D)(st:ya):R Fl:=(bG (dH 7 (aK rec (aA (aB 0) (aA (aB 5) (aA (aB 2) (aL)))))) (bG (dH 4 (e2 RE (aB 4) (e2 gP (e1 Cy (aB 7)) (eC (.int 1))))) (Rt 3 (aB 7)))) st
def wK(rec:List D->R D)(st:ya):R Fl:=(By 3 (aB 6) (aB 4)) st
def tV(rec:List D->R D):Bd:=bG (zt 3 false) (bG (dH 4 (aK sU (aA (aB 2) (aA (aK gW (aA (aB 0) (aA (aB 1) (aL)))) (aL))))) (bG (xP (ib 5) (Fc (aK iH (aA (aB 0) (aA (aB 1) (aL))))) ((wJ rec))) (bG (xP (ib 6) (Fc (aK cT (aA (aB 1) (aL)))) ((wK rec))) (Yg [3] (cZ (aB 3))))))
def jQ:Nat->List D->R D
 |0=>cQ 3 8 nO
 |n+1=>cQ 3 8 (tV (jQ n))
def oN:List D->R D:=jQ 12
def sL(st:ya):R Fl:=(Rt 2 (aK oN (aA (aB 0) (aA (aB 3) (aA (aB 1) (aL)))))) st
def tW(st:ya):R D:=(Qt (eO 2) (aB 4) (aB 1)) st
def TL:Bd:=bG (zt 2 false) (bG (xP (ib 3) (Fc (aK mX (aA (aB 0) (aL)))) (sL)) (eQ))
def p5:Bd:=uO TL (dI [4] (ib 4) (uL (e1 (jN "Machine" "many") (aB 0))) cH (tW))
def eY:List D->R D:=cQ 2 5 p5
def AL:Bd:=bG (dH 1 (aK xU (aA (aB 0) (aL)))) (bG (dH 2 (aK mZ (aA (e2 Ta (aB 1) (eC (.int 0))) (aL)))) (bG (dH 3 (aK mZ (aA (e2 Ta (aB 1) (eC (.int 1))) (aL)))) (bG (gd (e2 Xg (aB 3) (aB 2)) (cZ (zY (aA (aK eY (aA (aB 0) (aA (eC (.int 1)) (aL)))) (aA (iR (aA (e2 Ta (aB 1) (eC (.int 1))) (aL))) (aL))))) (eQ)) (bG (gd (e2 Xg (aB 2) (aB 3)) (cZ (zY (aA (aK eY (aA (aB 0) (aA (eC (.int 0)) (aL)))) (aA (iR (aA (e2 Ta (aB 1) (eC (.int 0))) (aL))) (aL))))) (eQ)) (cZ (zY (aA (aK eY (aA (aB 0) (aA (eC (.int 0)) (aL)))) (aA (iR (aA (e2 Ta (aB 1) (eC (.int 0))) (aA (e2 Ta (aB 1) (eC (.int 1))) (aL)))) (aL)))))))))
def fO:List D->R D:=cQ 1 4 AL
def vK(st:ya):R D:=(e2 Ta (aB 3) (aB 5)) st
def kN:Bd:=bG (dH 2 (aK qG (aA (aB 1) (aL)))) (bG (Py (Nr [3,4]) (aK fO (aA (aB 0) (aL)))) (cZ (zY (aA (e1 HD (dI [5] (ib 5) (Fc (aB 2)) cH (vK))) (aA (e1 fU (aB 4)) (aL))))))
def kW:List D->R D:=cQ 2 6 kN
def pN:Bd:=cZ (xO (eB yq (aB 0)) (xO (e2 Il (e1 fU (aB 0)) (eC (.int 1))) (e2 Oz (e1 fU (aB 0)) (aB 1))))
def fD:List D->R D:=cQ 2 2 pN
def IB:Bd:=cZ (xO (eB isIn (aB 0)) (zN (eB OF (aB 0))))
def pO:List D->R D:=cQ 1 1 IB
def JB:Bd:=cZ (xO (aK pO (aA (aB 0) (aL))) (xO (e2 Il (aB 0) (eC (.int 0))) (e2 Zn (aB 0) (aB 1))))
def nP:List D->R D:=cQ 2 2 JB
def LB(st:ya):R D:=(aK nP (aA (aB 3) (aA (aB 2) (aL)))) st
def PC:Bd:=cZ (xO (e2 Jd (e1 fU (aB 0)) (aB 1)) (e1 zi (dI [3] (ib 3) (Fc (aB 0)) cH (LB))))
def Mw:List D->R D:=cQ 3 4 PC
def vL(st:ya):R D:=(aK fD (aA (aB 1) (aA (eC (.int 3)) (aL)))) st
def vM(st:ya):R D:=(aK Mw (aA (aB 1) (aA (e1 fU (e2 Ta (aB 0) (eC (.int 0)))) (aA (e1 fU (aB 0)) (aL))))) st
def ZA:Bd:=bG (gd (zN (aK fD (aA (aB 0) (aA (eC (.int 8)) (aL))))) (cZ (eC (.bl false))) (eQ)) (bG (gd (zN (e1 zi (dI [1] (ib 1) (Fc (aB 0)) cH (vL)))) (cZ (eC (.bl false))) (eQ)) (cZ (e1 zi (dI [1] (ib 1) (Fc (aB 0)) cH (vM)))))
def uR:List D->R D:=cQ 1 2 ZA
def vN(st:ya):R D:=(xO (aK pO (aA (aB 2) (aL))) (e2 Il (aB 2) (eC (.int 0)))) st
def kB:Bd:=bG (gd (Jl (zN (eB yq (aB 0))) (e2 Ue (e1 fU (aB 0)) (aB 1))) (cZ (eC (.bl false))) (eQ)) (cZ (e1 zi (dI [2] (ib 2) (Fc (aB 0)) cH (vN))))
def uT:List D->R D:=cQ 2 3 kB
def kY(st:ya):R D:=(e1 xy (aB 3)) st
def gD:Bd:=bG (gd (zN (aK uR (aA (aB 1) (aL)))) (nO) (eQ)) (bG (gd (zN (aK uT (aA (aB 2) (aA (e1 fU (aB 1)) (aL))))) (nO) (eQ)) (bG (bq 0 "Machine" "steps" (dI [3] (ib 3) (Fc (aB 1)) cH (kY))) (bG (bq 0 "Machine" "ranks" (e1 xy (aB 2))) (bG (bq 0 "Machine" "many" (e1 fU (aB 1))) (bq 0 "Machine" "letters" (e1 fU (e2 Ta (aB 1) (eC (.int 0)))))))))
def fG:List D->R D:=Qk "Machine" 2 4 gD
def lP:Bd:=cZ (aK fG (aA (e1 (jN "Machine" "steps") (aB 0)) (aA (e2 Ta (aK fO (aA (aB 0) (aL))) (eC (.int 0))) (aL))))
def wL:List D->R D:=cQ 1 1 lP
def UL(st:ya):R D:=(e2 Ta (eC (.str [97,98,99])) (aK bI (aA (e2 zW (aB 0) (e2 gP (e2 qU (aB 5) (eC (.int 5))) (eC (.int 1)))) (aA (e2 gP (eC (.int 32)) (aB 5)) (aA (aB 1) (aL)))))) st
def nN:Bd:=bG (dH 4 (e2 gP (aB 2) (aK bI (aA (aB 0) (aA (eC (.int 31)) (aA (e2 gP (e2 Nt (aB 3) (aB 2)) (eC (.int 1))) (aL))))))) (cZ (Zh iq (eC (.str [])) (aA (dI [5] (ib 5) (uL (aB 4)) cH (UL)) (aL))))
def rA:List D->R D:=cQ 4 6 nN
def xC:Bd:=cZ (xO (eB NF (aB 0)) (e2 Jd (Zh Ss (aB 0) (aA (bj (eC (.str [97,98,99])) (aq) (uM (aB 1))) (aL))) (eC (.str []))))
def oE:List D->R D:=cQ 2 2 xC
def xV:Bd:=bG (gd (Jl (zN (eB PF (aB 0))) (e2 Ue (e1 fU (aB 0)) (eC (.int 2)))) (cZ (eC (.bl false))) (eQ)) (cZ (xO (aK oE (aA (e2 Ta (aB 0) (eC (.int 0))) (aA (aB 1) (aL)))) (xO (aK oE (aA (e2 Ta (aB 0) (eC (.int 1))) (aA (aB 1) (aL)))) (e2 Ue (e2 Ta (aB 0) (eC (.int 1))) (eC (.str []))))))
def jJ:List D->R D:=cQ 2 2 xV
def rB:Bd:=gd (zN (aK nP (aA (aB 1) (aA (e1 (jN "Machine" "many") (aB 0)) (aL))))) (nO) (eQ)
def eF:List D->R D:=cQ 2 2 rB
def pP(st:ya):R Fl:=(bG (Vd 4 (e2 Ta (eO 3) (e1 Si (eC (.int 1)))) (e2 Nt (e1 fU (eO 3)) (eC (.int 1)))) (Qy 3 (bj (rT "Machine" "rooms_along" (bJ) [] (aB 0) (aA (e2 Ta (eO 3) (e1 Si (eC (.int 1)))) (aA (e2 Ta (aB 1) (eC (.int 1))) (aL)))) (uM (eC (.int 1))) (aq)))) st
def lX(st:ya):R D:=(e2 tL (e2 Ta (eO 3) (e1 Si (eC (.int 1)))) (eO 4)) st
def BL:Bd:=bG (Ry (rT "Machine" "check_room" (eF) [] (aB 0) (aA (aB 2) (aL)))) (bG (gd (zN (aK jJ (aA (aB 1) (aA (e1 (jN "Machine" "letters") (aB 0)) (aL))))) (nO) (eQ)) (bG (qW 3 (rT "Machine" "rooms_along" (bJ) [] (aB 0) (aA (aB 2) (aA (e2 Ta (aB 1) (eC (.int 0))) (aL))))) (bG (zt 4 false) (bG (Kn 100000 (lX) (pP)) (bG (dH 5 (e2 Ta (eO 4) (e2 Ta (eO 3) (e1 Si (eC (.int 1)))))) (cZ (zY (aA (bj (eO 3) (aq) (uM (aB 5))) (aA (bj (eO 3) (uM (aB 5)) (uM (e1 Si (eC (.int 1))))) (aL))))))))))
def kZ:List D->R D:=cQ 3 6 BL
def pQ(st:ya):R D:=(e2 Ta (e1 (jN "Machine" "ranks") (aB 0)) (aB 4)) st
def CL:Bd:=bG (dH 3 (e2 Ta (rT "Machine" "walk" (kZ) [] (aB 0) (aA (aB 1) (aA (aB 2) (aL)))) (eC (.int 1)))) (cZ (e2 Jd (e2 qU (e1 Qn (dI [4] (ib 4) (Fc (aB 3)) cH (pQ))) (eC (.int 2))) (eC (.int 0))))
def fP:List D->R D:=cQ 3 5 CL
def ID(st:ya):R D:=(rT "Machine" "lets" (fP) [.int 0] (aB 12) (aA (aB 10) (aL))) st
def JD(st:ya):R Fl:=(bG (dH 10 (zY (aA (aK rA (aA (aB 5) (aA (e1 fU (e2 Ta (aB 6) (eC (.int 0)))) (aA (eC (.int 0)) (aA (eC (.int 9)) (aL)))))) (aA (aK rA (aA (e2 gP (aB 5) (eC (.int 1))) (aA (e1 fU (e2 Ta (aB 6) (eC (.int 0)))) (aA (eC (.int 1)) (aA (eC (.int 9)) (aL)))))) (aL))))) (bG (dH 11 (dI [12] (ib 12) (Fc (iR (aA (aB 1) (aA (aB 2) (aA (aB 3) (aA (aB 4) (aL))))))) cH (ID))) (gd (e2 Ue (aB 11) (vm (aA (e2 Ta (aB 11) (eC (.int 0))) (aL)) (eC (.int 4)))) (cZ (eC (.bl false))) (eQ)))) st
def VW:Bd:=bG (Py (Nr [6,7]) (aK kE (aA (aB 0) (aA (eC (.int 0)) (aA (eC (.int 4)) (aL)))))) (bG (Py (Nr [8,9]) (aK kI (aA (aB 0) (aA (aB 6) (aA (aB 7) (aL)))))) (bG (dH 1 (aK fG (aA (aB 6) (aA (aB 7) (aL))))) (bG (dH 2 (aK fG (aA (aB 8) (aA (aB 9) (aL))))) (bG (gd (Jl (e2 Ue (aK gC (aA (aB 1) (aL))) (aK gC (aA (aB 2) (aL)))) (e2 Ue (aK kW (aA (aB 1) (aA (aB 6) (aL)))) (aK kW (aA (aB 2) (aA (aB 8) (aL)))))) (cZ (eC (.bl false))) (eQ)) (bG (dH 3 (aK wL (aA (aB 1) (aL)))) (bG (dH 4 (aK wL (aA (aB 2) (aL)))) (bG (xP (ib 5) (Fc (bj (aB 0) (uM (eC (.int 10))) (uM (eC (.int 30))))) (JD)) (cZ (eC (.bl true))))))))))
def kq:List D->R D:=cQ 1 13 VW
end
@[simp] theorem QQ(x:List D):zi (.lst x)=(jr x).bind λl=>.ok (.bl (l.all id)):=rfl
@[simp] theorem bJ5(x:List D):xy (.lst x)=.ok (.lst x):=rfl
def H9{x:List D}{l:List Bool}(h:x=l.map D.bl)(ht:∀b∈l,b=true):zi (.lst x)=.ok (.bl true):=by
 subst h;rw[QQ,MS];have:l.all id=true:=xu.mpr λb hb=>by simp[ht b hb]
 simp[this]
@[simp] theorem bM3(g f:Ex)(Xa:List (List D))(st:ya):bMw g f Xa st=(g st).bind λx=>Pg x λj=>(f st).bind λd=>(Xc (lc Xa.length j)).bind λk=>match Xa[k]? with
 |some ys=>aV (ys.length<big) (.ok (.nx (Xa.set k (ys++[d])) st))
 |none=>.bad:=rfl
def vf(m:Int)(x:List Nat):Prop:=∀c∈x,97<=c/\(c:Int)<97+m
def aU{a b:Bd}{st:ya}{r:R Fl}(h:a st=.ok (.nx st'))(h2:b st'=r):bG a b st=r:=by
 rw[IS,h];exact h2
def gZ{a b:Bd}{st:ya}{r:R Fl}(h:a st=.ok (.nx st))(h2:b st=r):bG a b st=r:=aU h h2
def Ws{a b:Bd}{st:ya} (h:a st=.ok (.rt d)):bG a b st=.ok (.rt d):=by
 rw[IS,h];rfl
def cB{b:Bd} {d:D} (h:ds.length=np) (hb:b (ds.map (λd=>some (.v d))++List.replicate (n-np) none)=.ok (.rt d)):cQ np n b ds=.ok d:=by
 rw[LS h,hb];rfl
def bGp{b:Bd} {st:ya} (h:ds.length=np) (hb:b (ds.map (λd=>some (.v d))++List.replicate (n-np) none)=.ok (.nx st)):cQ np n b ds=.ok .Gb:=by
 rw[LS h,hb];rfl
def mB(n:Nat):iC 0 n=(List.range n).map λ(k:Nat)=>D.int (k:Int):=by
 unfold iC;refine Xi λk _=>?_
 rw[Int.zero_add]
theorem wM{tg:Tg}{c f:Ex}{st:ya}(g:D->D):∀(ds:List D),(∀d∈ds,∃s1,tg d st=.ok s1/\c s1=.ok (.bl true)/\f s1=.ok (g d))->iQ tg c f st ds=.ok (ds.map g)
 |[],_=>rfl
 |d::ds,h=>by
  obtain⟨s1,e1,e2,e3⟩:=h d xb;rw[jZ,e1];simp only[aG,e2,jY,if_true,e3,wM g ds λd hd=>h d (mem_cons_of_mem _ hd),map_cons]
def bU{st:ya} (h:f st=.ok d):dH i f st=.ok (.nx (st.set i (some (.v d)))):=by rw[JS,h,aG]
def qH{st:ya} (h:f st=.ok (.lst xs)):qW i f st=.ok (.nx (st.set i (some (.o .l xs)))):=by rw[E9,h,aG]
def aO{r:zd}{st:ya} {x:R D} (h:r st=.ok ds) (hp:p ds=x):aK p r st=x:=by rw[C9,h,aG,hp]
def aP{op:pe} {st:ya} {x:D} {z:R D} (hf:f st=.ok x) (hg:g st=.ok y) (h:op x y=z):e2 op f g st=z:=by rw[Bt,hf,aG,hg,aG,h]
def zh{c:Ex}{a b:Bd}{st:ya}{r:R Fl}(h:c st=.ok (.bl true))(ha:a st=r):gd c a b st=r:=by rw[pE,h,aG,jY,Na rfl,ha]
def tX{c:Ex}{a b:Bd}{st:ya}{r:R Fl}(h:c st=.ok (.bl false))(hb:b st=r):gd c a b st=r:=by rw[pE,h,aG,jY,La Ef,hb]
def AE{st:ya}{p q:Bool}(hf:f st=.ok (.bl p))(hg:p=true->g st=.ok (.bl q)):xO f g st=.ok (.bl (p&&q)):=by
 rw[GS,hf,aG,jY];cases p with
 |true=>rw[Na rfl,hg rfl];rfl
 |false=>rfl
def bKm{st:ya}{p q:Bool}(hf:f st=.ok (.bl p))(hg:p=false->g st=.ok (.bl q)):Jl f g st=.ok (.bl (p||q)):=by
 rw[bGk,hf,aG,jY];cases p with
 |true=>rfl
 |false=>rw[La Ef,hg rfl];rfl
def Zs{st:ya}{p:Bool}(hf:f st=.ok (.bl p)):zN f st=.ok (.bl (!p)):=by rw[HS,hf,aG,jY]
def dB{st:ya} (h:f st=.ok d):cZ f st=.ok (.rt d):=by rw[xQ,h,aG]
def oO{tg:Tg} {st:ya} {r:R Fl} (h:it st=.ok xs) (hr:Lb tg L xs st=r):xP tg it L st=r:=by rw[KS,h,aG,hr]
def aW{r:zd}{st:ya}{d:D} (h:f st=.ok d) (hr:r st=.ok ds):aA f r st=.ok (d::ds):=by rw[B9,h,aG,hr,aG]
def fQ{r:zd}{st:ya} (h:r st=.ok ds) (hl:ds.length<=1000:=by exact Zj rfl):iR r st=.ok (.lst ds):=by rw[Δ,h,aG,aD (dR (Zd hl (by decide)))]
def xW{i j:Int}(h:0<j):qU (.int i) (.int j)=.ok (.int (i%j)):=aD h
def Ep{i j:Int}(h:0<j/\j<1073741824):zW (.int i) (.int j)=.ok (.int (i/j)):=aD h
def Xx(i j:Int):Jd (.int i) (.int j)=.ok (.bl (decide (i=j))):=by
 have:(i==j)=decide (i=j):=by by_cases h:i=j<;>simp[h]
 rw[<-this];exact aD ⟨Dg 64,rfl,rfl⟩
def bGq(i j:Int):Ue (.int i) (.int j)=.ok (.bl (!decide (i=j))):=by
 have:(i==j)=decide (i=j):=by by_cases h:i=j<;>simp[h]
 rw[<-this];exact aD ⟨Dg 64,rfl,rfl⟩
def Rp{st:ya} (h:f st=.ok d) (hs:st[i]?=some (some (.o .l xs))) (hl:xs.length<1000000):xh i f st=.ok (.nx (st.set i (some (.o .l (xs++[d]))))):=by
 rw[Ζ,h,aG,hs];exact aD (Jn (Du hl (by decide)))
def oq{st:ya} (h:f st=.ok (.int n)) (hn:n<=1000000):uL f st=.ok ((List.range n).map λ(k:Nat)=>D.int (k:Int)):=by
 rw[Ε,h,aG,<-mB];exact aD ⟨GD (by omega),js (by omega)⟩
def nG{E C:Ex}{is:List Nat}{tg:Tg} {st:ya} (h:it st=.ok xs) (hl:xs.length<=1000000) (hc:iQ tg C E (ae is st) xs=.ok ys):dI is tg it C E st=.ok (.lst ys):=by
 rw[NC,h,aG,aD (dR (Zd hl (by decide))),hc,aG]
def Nw{c:Ex}{b:Bd}{st:ya} {r:R Fl} (hc:c st=.ok (.bl true)) (hb:b st=.ok (.nx st')) (hr:jU c b n st'=r):jU c b (n+1) st=r:=by
 rw[uN,hc,aG,jY,Na rfl,hb];exact hr
def wN{c:Ex}{b:Bd}{st:ya} (hc:c st=.ok (.bl false)):jU c b (n+1) st=.ok (.nx st):=by rw[uN,hc,aG,jY,La Ef]
def oR{tg:Tg} {d:D} {st s2:ya} {r:R Fl} (ht:tg d st=.ok s1) (hL:L s1=.ok (.nx s2)) (hr:Lb tg L ds s2=r):Lb tg L (d::ds) st=r:=by
 rw[wC,ht,aG,hL];exact hr
def iW{i:Int} (h:Wb xs i=some d):Ta (.lst xs) (.int i)=.ok d:=by
 show Xc (Wb xs i)=_;rw[h];rfl
def OX{p q:Nat}(h:p<q):decide ((p:Int)<(q:Int))=true:=Ld (by omega)
def PX{p q:Nat}(h:¬ p<q):decide ((p:Int)<(q:Int))=false:=Cd (by omega)
def zA{r:R D}{p q:Bool}(h:r=.ok (.bl p))(e:p=q):r=.ok (.bl q):=by rw[h,e]
def rW{st:ya} (h:f st=.ok (.lst xs)):Fc f st=.ok xs:=by rw[hV,h,aG]
def bGr{st:ya} (h:f st=.ok (.lst ys)) (hs:st[i]?=some (some (.o .l xs))) (hl:xs.length+ys.length<=big):Qy i f st=.ok (.nx (st.set i (some (.o .l (xs++ys))))):=by
 rw[Θ,h,aG];dsimp only;rw[hs];exact aD hl
def good(m:Int)(x:List Nat):Bool:=x.all λc=>decide (97<=c/\(c:Int)<97+m)
def QC{m:Int}{x:List Nat}:good m x=true↔vf m x:=by
 unfold good vf;simp
def SS{m:Int}(hm:1<=m)(zI:m<=3){c:Nat}:c∈cut [97,98,99] none (some m)↔97<=c/\(c:Int)<97+m:=by
 have h3:m=1\/m=2\/m=3:=by omega
 rcases h3 with rfl|rfl|rfl
 .show c∈[97]↔_;simp;omega
 .show c∈[97,98]↔_;simp;omega
 .show c∈[97,98,99]↔_;simp;omega
theorem VL{α:Type}(p:α->Bool):∀x:List α,x.dropWhile p=[]↔∀c∈x,p c=true
 |[]=>by simp
 |a::x=>by
  cases h:p a with
  |true=>rw[GY h,VL p x];simp[h]
  |false=>rw[HY (by simp[h])];simp[h]
theorem takeWhile_all{α:Type}(p:α->Bool):∀(x:List α)(c:α),c∈x.takeWhile p->p c=true
 |[],c,h=>by simp at h
 |a::x,c,h=>by
  cases ha:p a with
  |true=>
   rw[IY ha]at h;rcases Nb.mp h with rfl|h
   .exact ha
   .exact takeWhile_all p x c h
  |false=>rw[JY (by simp[ha])]at h;simp at h
def strip_nil(x y:List Nat):vG x y=[]↔∀c∈x,c∈y:=by
 unfold vG;rw[List.reverse_eq_nil_iff,VL];constructor
 .intro h;have h2:∀c∈x.dropWhile (λc=>y.contains c),c∈y:=λc hc=>by simpa using h c (by simpa using hc)
  have h3:∀c∈x.takeWhile (λc=>y.contains c),c∈y:=λc hc=>by
   simpa using takeWhile_all (λc=>y.contains c) x c hc
  intro c hc;rw[<-BY (p:=λc=>y.contains c) (l:=x)]at hc
  exact(Ed.mp hc).elim (h3 c) (h2 c)
 .intro h c hc;rw[List.mem_reverse]at hc;have:c∈x:=List.IsSuffix.subset (List.dropWhile_suffix _) hc;simpa using h c this
def PN(x:List Nat)(m:Int)(hm:1<=m)(zI:m<=3)(h:x.length<=1000000):oE [.str x,.int m]=.ok (.bl (good m x)):=by
 unfold oE xC;have e:(vG x (cut [97,98,99] none (some m))==[])=good m x:=by
  rw[Vq,Bh,strip_nil,QC];exact⟨λz c hc=>(SS hm zI).mp (z c hc),λz c hc=>(SS hm zI).mpr (z c hc)⟩
 simp[NF,show x.length<=big from dR (by omega),e]
def Q4(x y:D)(m:Int)(p q:Bool)(hp:oE [x,.int m]=.ok (.bl p))(hq:oE [y,.int m]=.ok (.bl q))(hy:plain y=true)(hd:de y<=64):jJ [.tup [x,y],.int m]=.ok (.bl (p&&(q && !bc y (.str [])))):=by
 unfold jJ xV;have g1:Wb [x,y] 0=some x:=rfl;have g2:Wb [x,y] 1=some y:=rfl;cases p<;>cases q<;>simp[PF,g1,g2,hp,hq,hy,hd]
def ba(l:List Nat):List D:=l.map λ(x:Nat)=>D.int (x:Int)
structure Ma(S:List (List Nat))(rk:List Nat)(c:Nat):Prop where
 one:1<=S.length
 most:S.length<=8
 c1:1<=c
 c3:c<=3
 row:∀r∈S,r.length=c/\∀x∈r,x<S.length
 Jr:rk.length=S.length
def Sa(S:List (List Nat)):List D:=S.map λr=>D.lst (ba r)
theorem RQ{tg:Tg}{c f:Ex}{st:ya}{P:D->D->Prop}:∀(ds:List D),(∀d∈ds,∃s1 y,tg d st=.ok s1/\c s1=.ok (.bl true)/\f s1=.ok y/\P d y)->∃ys,iQ tg c f st ds=.ok ys/\ys.length=ds.length/\∀y∈ys,∃d∈ds,P d y
 |[],_=>⟨[],rfl,rfl,λ_ h=>nomatch h⟩
 |d::ds,h=>by
  obtain⟨s1,y,e1,e2,e3,e4⟩:=h d xb;obtain⟨ys,e5,e6,e7⟩:=RQ ds λd hd=>h d (Bb _ hd)
  refine⟨y::ys,?_,by simp[e6],λz hz=>?_⟩
  .rw[jZ,e1];simp[e2,e3,e5]
  .rcases Nb.mp hz with rfl|hz
   .exact⟨d,xb,e4⟩
   .obtain⟨d',h1,h2⟩:=e7 z hz;exact⟨d',Bb _ h1,h2⟩
def w6{lo:Int} (h:d∈iC lo n):∃k:Nat,k<n/\d=.int (lo+k):=by
 unfold iC at h;obtain⟨k,h1,h2⟩:=Rc.mp h;exact⟨k,Qc.mp h1,h2.symm⟩
theorem US:∀(ys:List D)(n:Int),(∀y∈ys,∃i:Int,y=.int i/\0<=i/\i<n)->∃r:List Nat,ys=ba r/\∀x∈r,(x:Int)<n
 |[],_,_=>⟨[],rfl,λ_ h=>nomatch h⟩
 |y::ys,n,h=>by
  obtain⟨i,rfl,h0,h1⟩:=h y xb;obtain⟨r,rfl,h2⟩:=US ys n λy hy=>h y (Bb _ hy)
  refine⟨i.toNat::r,?_,λx hx=>?_⟩
  .unfold ba;rw[wc,Wq h0]
  .rcases Nb.mp hx with rfl|hx
   .rw[Wq h0];exact h1
   .exact h2 x hx
def I9{E:Ex}{st:ya}{v:Nat}{P:D->Prop}(hv:st[v]?=some (some (.v (.int n))))(hn:n<=100000)(hE:∀k:Nat,k<n->∃y,E ((st.set j none).set j (some (.v (.int k))))=.ok y/\P y) :
  ∃ys,dI [j] (ib j) (uL (aB v)) cH E st=.ok (.lst ys)/\ys.length=n/\∀y∈ys,P y:=by
 obtain⟨ys,e1,e2,e3⟩:=RQ (tg:=ib j) (c:=cH) (f:=E) (st:=st.set j none) (P:=λ_ y=>P y) (iC 0 n) (λd hd=>by
  obtain⟨k,hk,rfl⟩:=w6 hd;obtain⟨y,h1,h2⟩:=hE k hk;rw[Int.zero_add];exact⟨_,y,rfl,rfl,h1,h2⟩)
 rw[KL]at e2;refine⟨ys,?_,e2,λy hy=>let ⟨_,_,h⟩:=e3 y hy;h⟩
 simp[hv,show (n:Int)<=(big:Int) from js (by omega),KL,show n<=big from dR (by omega),e1]
def mP{E:Ex}{st:ya}{v:Nat}{m:Int}(hv:st[v]?=some (some (.v (.int n))))(hn:n<=100000)(hE:∀k:Nat,k<n->∃i,E ((st.set j none).set j (some (.v (.int k))))=.ok (.int i)/\0<=i/\i<m) :
  ∃r,dI [j] (ib j) (uL (aB v)) cH E st=.ok (.lst (ba r))/\r.length=n/\∀x∈r,(x:Int)<m:=by
 obtain⟨ys,e1,e2,e3⟩:=I9 (P:=λy=>∃i:Int,y=.int i/\0<=i/\i<m) hv hn λk hk=>let ⟨i,h1,h2⟩:=hE k hk;⟨_,h1,i,rfl,h2⟩
 obtain⟨r,rfl,h⟩:=US ys m e3;exact⟨r,e1,by rw[<-e2];unfold ba;simp,h⟩
def VS{xs:List α}{i:Int}(h0:0<=i)(h:i<xs.length):∃a∈xs,Wb xs i=some a:=⟨_,Wf _,nV h0 h⟩
def Ow{E:Ex}{st:ya}{v:Nat}{xs:List D}(hv:st[v]?=some (some (.v (.lst xs))))(hl:xs.length<=100000)(h:∀d∈xs,E ((st.set j none).set j (some (.v d)))=.ok (.bl true)):e1 zi (dI [j] (ib j) (Fc (aB v)) cH E) st=.ok (.bl true):=by
 have e:=wM (tg:=ib j) (c:=cH) (f:=E) (st:=st.set j none) (λ_=>D.bl true) xs λd hd=>⟨_,rfl,rfl,h d hd⟩
 have e2:xs.map (λ_=>D.bl true)=(xs.map λ_=>true).map D.bl:=by simp
 simp[hv,show xs.length<=big from dR (by omega),e]
 rw[e2,<-QQ];exact H9 rfl λb hb=>by obtain⟨_,_,z⟩:=Rc.mp hb;exact z.symm
def T7{E:Ex}{st:ya}{v:Nat}{xs:List D}(hv:st[v]?=some (some (.v (.lst xs))))(hl:xs.length<=100000)(h:∀d∈xs,E ((st.set j none).set j (some (.v d)))=.ok d):dI [j] (ib j) (Fc (aB v)) cH E st=.ok (.lst xs):=by
 have e:=wM (tg:=ib j) (c:=cH) (f:=E) (st:=st.set j none) id xs λd hd=>⟨_,rfl,rfl,h d hd⟩
 simp[hv,show xs.length<=big from dR (by omega),e]
def oP(i:Int):pO [.int i]=.ok (.bl true):=by
 unfold pO IB;simp[isIn,OF]
def sP{x:Nat}(h:x<n):nP [.int x,.int n]=.ok (.bl true):=by
 have hw:=oP x;unfold nP JB;simp[hw,h]
def BP(xs:List D)(m:Int):fD [.lst xs,.int m]=.ok (.bl (decide (1<=(xs.length:Int))&&decide ((xs.length:Int)<=m))):=by
 unfold fD pN
 by_cases h:1<=xs.length
 .have h':(1:Int)<=xs.length:=by omega
  simp[yq,h,h']
 .have h':¬ (1:Int)<=xs.length:=by omega
  simp[yq,h,h']
def bD(r:List Nat):(ba r).length=r.length:=by unfold ba;simp
def nH(S:List (List Nat)):(Sa S).length=S.length:=by unfold Sa;simp
def Qw{r:List Nat} (h:d∈ba r):∃x∈r,d=.int (x:Nat):=by
 obtain⟨x,h1,h2⟩:=Rc.mp h;exact⟨x,h1,h2.symm⟩
def KD{S:List (List Nat)} (h:d∈Sa S):∃r∈S,d=.lst (ba r):=by
 obtain⟨x,h1,h2⟩:=Rc.mp h;exact⟨x,h1,h2.symm⟩
def bGs(r:List Nat)(n:Nat)(h:∀x∈r,x<n)(hl:r.length<=1000):Mw [.lst (ba r),.int r.length,.int n]=.ok (.bl true):=by
 have e:=Ow (E:=LB) (st:=[some (.v (.lst (ba r))),some (.v (.int r.length)),some (.v (.int n)),none]) (j:=3) (v:=0) (xs:=ba r) rfl (by rw[bD];omega) (λd hd=>by
  obtain⟨x,hx,rfl⟩:=Qw hd;have:=h x hx;simp[LB,sP this])
 refine cB rfl ?_
 unfold PC;have h1:e2 Jd (e1 fU (aB 0)) (aB 1) [some (.v (.lst (ba r))),some (.v (.int r.length)),some (.v (.int n)),none]=.ok (.bl true):=by simp[bD]
 show cZ _ [some (.v (.lst (ba r))),some (.v (.int r.length)),some (.v (.int n)),none]=_;rw[xQ,GS,h1];show (e1 zi _ _).bind _=_;rw[e];rfl
def mD(S:List (List Nat))(rk:List Nat)(c:Nat):D:=.ins "Machine" ["steps","ranks","many","letters"] [.lst (Sa S),.lst (ba rk),.int S.length,.int c]
section
def Ma.YJ(M:Ma S rk c):∃r T,S=r::T/\r.length=c:=by
 cases S with
 |nil=>exact absurd M.one (by simp)
 |cons r T=>exact⟨r,T,rfl,(M.row r xb).1⟩
def Ma.DW(M:Ma S rk c):∃r,r∈S/\Wb (Sa S) 0=some (.lst (ba r))/\r.length=c:=by
 obtain⟨r,T,rfl,h⟩:=M.YJ;refine⟨r,xb,?_,h⟩;have:=Pb (xs:=Sa (r::T)) (i:=0) (by simp[Sa])
 simpa [Sa] using this
def J9(M:Ma S rk c):uR [.lst (Sa S)]=.ok (.bl true):=by
 obtain⟨r0,JI,e0,l0⟩:=M.DW;have h1:=M.one;have h8:=M.most;have f1:=BP (Sa S) 8;rw[nH]at f1;have f1':fD [.lst (Sa S),.int 8]=.ok (.bl true):=by rw[f1];congr 2;simp;omega
 have a1:=Ow (E:=vL) (st:=[some (.v (.lst (Sa S))),none]) (j:=1) (v:=0) (xs:=Sa S) rfl (by rw[nH];omega) (λd hd=>by
  obtain⟨r,hr,rfl⟩:=KD hd;have f:=BP (ba r) 3;rw[bD,(M.row r hr).1]at f;have h3:=M.c3;have h0:=M.c1;simp[vL,f];omega)
 have a2:=Ow (E:=vM) (st:=[some (.v (.lst (Sa S))),none]) (j:=1) (v:=0) (xs:=Sa S) rfl (by rw[nH];omega) (λd hd=>by
  obtain⟨r,hr,rfl⟩:=KD hd;have h3:=M.c3;have f:=bGs r S.length (M.row r hr).2 (by rw[(M.row r hr).1];omega)
  have el:(ba r0).length=r.length:=by rw[bD,l0,(M.row r hr).1]
  simp[vM,e0,el,nH,f])
 refine cB rfl ?_
 unfold ZA;refine gZ (by simp[f1']) (gZ ?_ ?_)
 .rw[pE,HS];show ((e1 zi _ [some (.v (.lst (Sa S))),none]).bind _).bind _=_;rw[a1];rfl
 .rw[xQ];show (e1 zi _ [some (.v (.lst (Sa S))),none]).bind _=_;rw[a2];rfl
def K9(M:Ma S rk c):uT [.lst (ba rk),.int S.length]=.ok (.bl true):=by
 have h8:=M.most;have a1:=Ow (E:=vN) (st:=[some (.v (.lst (ba rk))),some (.v (.int S.length)),none]) (j:=2) (v:=0) (xs:=ba rk) rfl (by rw[bD,M.Jr];omega) (λd hd=>by
  obtain⟨x,hx,rfl⟩:=Qw hd;simp[vN,oP])
 refine cB rfl ?_
 unfold kB;refine gZ (by simp[yq,bD,M.Jr]) ?_
 rw[xQ];show (e1 zi _ [some (.v (.lst (ba rk))),some (.v (.int S.length)),none]).bind _=_;rw[a1];rfl
def Rw:jN "Machine" "many" (mD S rk c)=.ok (.int S.length):=by unfold mD;rw[zZ,aD rfl];rfl
def K5:jN "Machine" "letters" (mD S rk c)=.ok (.int c):=by unfold mD;rw[zZ,aD rfl];rfl
def pR:jN "Machine" "steps" (mD S rk c)=.ok (.lst (Sa S)):=by unfold mD;rw[zZ,aD rfl];rfl
end
section
def LD(M:Ma S rk c):fG [.lst (Sa S),.lst (ba rk)]=.ok (mD S rk c):=by
 obtain⟨r0,JI,e0,l0⟩:=M.DW;have h8:=M.most;refine Γ λx=>?_
 unfold dq;rw[aD (show ([D.lst (Sa S),D.lst (ba rk)]:List D).length=2 from rfl)]
 have hs:=J9 M;have hk:=K9 M;have cp:=T7 (E:=kY) (st:=[some (.o (.i x "Machine" []) []),some (.v (.lst (Sa S))),some (.v (.lst (ba rk))),none]) (j:=3) (v:=1) (xs:=Sa S) rfl (by rw[nH];omega) (λd hd=>by
  obtain⟨r,hr,rfl⟩:=KD hd;simp[kY])
 have key:gD [some (.o (.i x "Machine" []) []),some (.v (.lst (Sa S))),some (.v (.lst (ba rk))),none]=.ok (.nx [some (.o (.i x "Machine" ["steps","ranks","many","letters"]) [.lst (Sa S),.lst (ba rk),.int S.length,.int c]),some (.v (.lst (Sa S))),some (.v (.lst (ba rk))),none]):=by
  unfold gD;refine gZ (by simp[hs]) (gZ (by simp[nH,hk]) ?_)
  refine aU (st':=[some (.o (.i x "Machine" ["steps"]) [.lst (Sa S)]),some (.v (.lst (Sa S))),some (.v (.lst (ba rk))),none]) ?_ ?_
  .rw[F9,cp];simp
  refine aU (st':=[some (.o (.i x "Machine" ["steps","ranks"]) [.lst (Sa S),.lst (ba rk)]),some (.v (.lst (Sa S))),some (.v (.lst (ba rk))),none]) (by simp) ?_
  refine aU (st':=[some (.o (.i x "Machine" ["steps","ranks","many"]) [.lst (Sa S),.lst (ba rk),.int S.length]),some (.v (.lst (Sa S))),some (.v (.lst (ba rk))),none]) (by simp[nH]) ?_
  simp[e0,bD,l0]
 show (gD [some (.o (.i x "Machine" []) []),some (.v (.lst (Sa S))),some (.v (.lst (ba rk))),none]).bind _=_;rw[key];simp[mD]
end
def zC(x:Nat)(l:List Nat):ba (x::l)=.int (x:Nat)::ba l:=rfl
theorem jK:∀l:List Nat,eV (ba l)=true/\jX (ba l)=0/\jT (ba l) (ba l)=true
 |[]=>⟨rfl,by unfold ba;simp,by unfold ba;simp[jT]⟩
 |x::l=>by
  obtain⟨h1,h2,h3⟩:=jK l;rw[zC];refine⟨by simp[h1],by simp[h2],?_⟩
  unfold jT;rw[h3];simp
section
variable{S:List (List Nat)}{rk:List Nat}{c:Nat}
def Mb(S:List (List Nat))(q a:Nat):Nat:=(S.getD q []).getD a 0
def xX(M:Ma S rk c){q a:Nat}(hq:q<S.length)(ha:a<c):∃r,Wb (Sa S) (q:Int)=some (.lst (ba r))/\Wb (ba r) (a:Int)=some (.int (Mb S q a))/\Mb S q a<S.length:=by
 have hr:=M.row S[q] (Wf hq);have Eg:a<S[q].length:=by rw[hr.1];exact ha
 have e:Mb S q a=S[q][a]:=by
  simp[Mb,getD_eq_getElem?_getD,List.getElem?_eq_getElem hq,List.getElem?_eq_getElem Eg]
 refine⟨S[q],?_,?_,?_⟩
 .rw[Pb (by rw[nH];exact hq)];simp[Sa]
 .rw[Pb (by rw[bD];exact Eg),e];simp[ba]
 .rw[e];exact hr.2 _ (Wf Eg)
def L9(h:m<=3){ch:Nat}(h1:97<=ch)(h2:(ch:Int)<97+m):pH [97,98,99] [ch] 0=some (ch-97):=by
 have:ch=97\/ch=98\/ch=99:=by omega
 rcases this with rfl|rfl|rfl<;>rfl
def WS(M:Ma S rk c){q ch:Nat}(hq:q<S.length)(h1:97<=ch)(h2:(ch:Int)<97+c):∃r,Wb (Sa S) (q:Int)=some (.lst (ba r))/\Wb (ba r) (((ch-97:Nat)):Int)=some (.int (Mb S q (ch-97)))/\Mb S q (ch-97)<S.length:=xX M hq (by omega)
def runs(S:List (List Nat)):Nat->List Nat->List Nat
 |_,[]=>[]
 |q,ch::x=>Mb S q (ch-97)::runs S (Mb S q (ch-97)) x
def pq(S:List (List Nat)):Nat->List Nat->Nat
 |q,[]=>q
 |q,ch::x=>pq S (Mb S q (ch-97)) x
end
theorem lA:∀(n:Nat)(l:List Nat),l.Nodup->(∀x∈l,x<n)->l.length<=n
 |0,l,_,h=>by
  cases l with
  |nil=>exact Cb _
  |cons x l=>exact absurd (h x xb) (by omega)
 |n+1,l,nd,h=>by
  have ih:=lA n (l.erase n) (nd.erase n) λx hx=>by
   have h1:=h x (JZ hx);have h2:x≠n:=λe=>((nd.mem_erase_iff).mp hx).1 e
   omega
  by_cases hm:n∈l
  .rw[List.length_erase_of_mem hm]at ih;omega
  .rw[List.erase_of_not_mem hm]at ih;omega
def Ds(g:Nat)(l:List Nat):inD (.int g) (ba l)=decide (g∈l):=by
 unfold inD ba;rw[br]
 by_cases h:g∈l
 .rw[Ld h,Al];exact⟨g,h,by simp[bc]⟩
 .rw[Cd h,tu];intro x hx
  have : ¬ (x : Int) = (g : Int) := fun z => h (by have : x = g := by omega
                                                   rw[<-this];exact hx)
  simp[bc,this]
def qm{q:Nat}(hq:q<S.length):Wb (Sa S) (q:Int)=some (.lst (ba S[q])):=by
 rw[Pb (by rw[nH];exact hq)]
 unfold Sa;rw[NG]
section
def Tr{m:String} {r:zd} {st:ya} (hf:f st=.ok (mD S rk c)) (hr:r st=.ok xs) (hm:m∉["steps","ranks","many","letters"]):rT "Machine" m p dv f r st=p (mD S rk c::(xs++dv)):=by
 rw[NQ,hf,hr];exact aD ⟨rfl,hm⟩
theorem QN(M:Ma S rk c)(a t:Option Sl)(ha:a=some (.v (mD S rk c))):∀(x:List Nat)(q:Nat)(qa:List Nat)(l:Option Sl),q<S.length->vf c x->qa.length+x.length<=1000000->∃l',Lb (ib 4) iU (x.map λch=>D.str [ch]) [a,some (.v (.int q)),t,some (.o .l (ba qa)),l] =
  .ok (.nx [a,some (.v (.int (pq S q x))),t,some (.o .l (ba (qa++runs S q x))),l'])
 |[],q,qa,l,_,_,_=>⟨l,by simp[pq,runs]⟩
 |ch::x,q,qa,l,h,hx,hl=>by
  rw[Qd]at hl;obtain⟨h1,h2⟩:=hx ch xb;obtain⟨r,e1,e2,h3⟩:=WS M h h1 h2;obtain⟨l',e⟩:=QN M a t ha x (Mb S q (ch-97)) (qa++[Mb S q (ch-97)]) (some (.v (.str [ch]))) h3 (λz hz=>hx z (Bb _ hz)) (by rw[we,Ci];omega)
  refine⟨l',?_⟩;have f:=L9 M.c3 h1 h2;have en:ba (qa++[Mb S q (ch-97)])=ba qa++[D.int (Mb S q (ch-97))]:=by unfold ba;simp
  rw[en]at e;rw[wc,wC,show runs S q (ch::x)=Mb S q (ch-97)::runs S (Mb S q (ch-97)) x from rfl,show qa++Mb S q (ch-97)::runs S (Mb S q (ch-97)) x=qa++[Mb S q (ch-97)]++runs S (Mb S q (ch-97)) x by simp,show pq S q (ch::x)=pq S (Mb S q (ch-97)) x from rfl,<-e]
  subst ha;simp[iU,pR,e1,f,e2,bD,show qa.length<big from Jn (by omega)]
def SQ(M:Ma S rk c){q:Nat}(hq:q<S.length)(x:List Nat)(hx:vf c x)(hl:x.length<=500000):bJ [mD S rk c,.int q,.str x]=.ok (.lst (ba (q::runs S q x))):=by
 obtain⟨l',e⟩:=QN M _ (some (.v (.str x))) rfl x q [q] none hq hx (by simp;omega)
 refine cB rfl ?_
 have hb:eX [some (.v (mD S rk c)),some (.v (.int q)),some (.v (.str x)),none,none]=.ok (.nx [some (.v (mD S rk c)),some (.v (.int (pq S q x))),some (.v (.str x)),some (.o .l (ba ([q]++runs S q x))),l']):=by
  unfold eX;refine aU (st':=[some (.v (mD S rk c)),some (.v (.int q)),some (.v (.str x)),some (.o .l (ba [q])),none]) (by simp[ba]) (aU (by
   simp[show x.length<=big from dR (by omega)]
   exact e) rfl)
 show Hk eX 3 [some (.v (mD S rk c)),some (.v (.int q)),some (.v (.str x)),none,none]=_;unfold Hk;rw[hb];rfl
def Ag{xs:List α}{a:α}(h:xs.getLast?=some a):Wb xs (-1)=some a:=by
 have h0:xs≠[]:=λz=>by rw[z]at h;cases h
 have hp:0<xs.length:=nu.mpr h0;rw[LY]at h;unfold Wb lc;rw[La (by decide),Na (by omega)]
 show xs[((-1:Int)+(xs.length:Int)).toNat]?=some a;rw[show ((-1:Int)+(xs.length:Int)).toNat=xs.length-1 by omega]
 exact h
def U7{r:List Nat}{a:Nat}(h:r.getLast?=some a):(ba r).getLast?=some (.int a):=by
 unfold ba;rw[List.getLast?_map,h];rfl
end
def join_one(l:List Nat):Ek [] (l.map λc=>[c])=l:=by
 induction l with
 |nil=>rfl
 |cons a l ih=>
  cases l with
  |nil=>rfl
  |cons b l=>
   show [a]++[]++Ek [] ((b::l).map λc=>[c])=_
   rw[ih];rfl
def Ι(l:List Nat)(h:l.length<=1000000):iq (.str []) [.lst (l.map λc=>D.str [c])]=.ok (.str l):=by
 have e:(l.map λc=>D.str [c])=(l.map λc=>[c]).map D.str:=by simp
 have hs:((l.map λc=>[c]).map List.length).sum=l.length:=by
  rw[ug]
  induction l with
  |nil=>rfl
  |cons a l ih=>rw[wc,List.sum_cons,ih (by simp at h;omega) (by simp)];simp;omega
 show (gq _).bind _=_;rw[e,iP];simp only[aG];rw[aD (by rw[hs];simp;exact dR (by omega)),join_one]
def cy(c:List Nat)(i:Nat):Nat:=c.getD (i%c.length) 0
def lt(b c:List Nat)(i:Nat):Nat:=if i<b.length then b.getD i 0 else cy c (i-b.length)
def bKp{c:List Nat} (h:i<c.length):cy c i=c.getD i 0:=by unfold cy;rw[Nat.mod_eq_of_lt h]
def bGt(c:List Nat)(i:Nat):cy c (i+c.length)=cy c i:=by unfold cy;rw[Nat.add_mod_right]
def sf(n d:Nat):Kc n d none=d:=rfl
def kg(n d k:Nat):Kc n d (some (k:Int))=min k n:=by
 show (if (k:Int)<0 then ((k:Int)+n).toNat else min (k:Int).toNat n)=_
 rw[La (by omega),rg]
def bGu(x:List α)(n:Nat):cut x none (some (n:Int))=x.take n:=by
 unfold cut;rw[sf,kg,drop_zero,Nat.sub_zero]
 by_cases h:n<=x.length
 .rw[Nat.min_eq_left h]
 .rw[Nat.min_eq_right (by omega),OG,Oq (by omega)]
def bGv(x:List α)(n:Nat)(h:n<=x.length):cut x (some (n:Int)) none=x.drop n:=by
 unfold cut;rw[sf,kg];rw[Nat.min_eq_left h,Oq (by rw[List.length_drop];omega)]
theorem MD{b t:List Nat}{n:Nat}(h:b.length<=n):∀k,lt b t (n+k*t.length)=lt b t n
 |0=>by rw[AH,Dl]
 |k+1=>by
  rw[Lz,<-Nat.add_assoc,<-MD h k];unfold lt;rw[La (by omega),La (by omega),show n+k*t.length+t.length-b.length=n+k*t.length-b.length+t.length by omega,bGt]
def BE{c:Int}{b t:List Nat}(hb:vf c b)(ht:vf c t)(h1:1<=t.length)(n:Nat):97<=lt b t n/\(lt b t n:Int)<97+c:=by
 have key:∀(x:List Nat)(i:Nat),i<x.length->vf c x->97<=x.getD i 0/\(x.getD i 0:Int)<97+c:=λx i h hx=>by
  have e:x.getD i 0=x[i]:=by rw[xf,Pc h];rfl
  rw[e];exact hx _ (Wf h)
 unfold lt;split
 .exact key _ _ (by assumption) hb
 .exact key _ _ (mod_lt _ h1) ht
def fw(S:List (List Nat))(f:Nat->Nat)(q:Nat):Nat->Nat
 |0=>q
 |n+1=>Mb S (fw S f q n) (f n-97)
structure Lp(S:List (List Nat))(f:Nat->Nat)(q s e:Nat):Prop where
 lt:s<e
 T1:∀n,s<=n->f (n+(e-s))=f n
 eq:fw S f q s=fw S f q e
section
variable{f:Nat->Nat}{s e s2 e2:Nat}
theorem Lp.step(L:Lp S f q s e):∀k,fw S f q (s+k+(e-s))=fw S f q (s+k)
 |0=>by
  have:=L.lt;rw[Dl,show s+(e-s)=e by omega]
  exact L.eq.symm
 |k+1=>by
  have ih:=L.step k;have h:=L.T1 (s+k) (by omega)
  rw[show s+(k+1)+(e-s)=(s+k+(e-s))+1 by omega,show s+(k+1)=(s+k)+1 by omega]
  show Mb S (fw S f q (s+k+(e-s))) (f (s+k+(e-s))-97)=Mb S (fw S f q (s+k)) (f (s+k)-97);rw[ih,h]
theorem Lp.at(L:Lp S f q s e)(n:Nat)(h:s<=n):fw S f q (n+(e-s))=fw S f q n:=by
 have:=L.step (n-s)
 rwa [show s+(n-s)=n by omega]at this
theorem Lp.mul(L:Lp S f q s e):∀(k n:Nat),s<=n->fw S f q (n+k*(e-s))=fw S f q n
 |0,n,_=>by rw[AH,Dl]
 |k+1,n,h=>by
  rw[Lz,<-Nat.add_assoc,L.at _ (by omega),L.mul k n h]
def Lp.into(L:Lp S f q s e)(n:Nat)(h:s<=n):∃m,s<=m/\m<e/\fw S f q n=fw S f q m:=by
 have hl:=L.lt;have h1:=mod_lt (n-s) (show 0<e-s by omega)
 refine⟨s+(n-s)%(e-s),by omega,by omega,?_⟩
 have:=L.mul ((n-s)/(e-s)) (s+(n-s)%(e-s)) (by omega)
 have hd:=Nat.mod_add_div (n-s) (e-s);rw[ZG]at hd;rw[<-this];congr 1;omega
def Lp.sub(L:Lp S f q s e)(L2:Lp S f q s2 e2)(n:Nat)(h:s<=n):∃m,s2<=m/\m<e2/\fw S f q n=fw S f q m:=by
 have hl:=L.lt;have h1:s2*1<=s2*(e-s):=Nat.mul_le_mul_left _ (by omega)
 obtain⟨m,a,b,c⟩:=L2.into (n+s2*(e-s)) (by omega)
 exact⟨m,a,b,by rw[<-c,L.mul s2 n h]⟩
end
def gc(S:List (List Nat))(f:Nat->Nat)(q s e:Nat):List Nat:=(List.range' s (e-s)).map (fw S f q)
def nJ{f:Nat->Nat}{s e:Nat}:r∈gc S f q s e↔∃n,s<=n/\n<e/\fw S f q n=r:=by
 unfold gc;rw[Rc];constructor
 .rintro⟨n,h,rfl⟩;rw[KG]at h;exact⟨n,h.1,by omega,rfl⟩
 .rintro⟨n,h1,h2,rfl⟩;exact⟨n,KG.mpr ⟨h1,by omega⟩,rfl⟩
def mx(rk l:List Nat):Int:=Sg (l.map λr=>((rk.getD r 0:Nat):Int))
def Κ{l:List Int}(h:l≠[]):Sg l∈l/\∀x∈l,x<=Sg l:=by
 cases l with
 |nil=>exact(h rfl).elim
 |cons i r=>
  obtain⟨h1,h2,h3⟩:=Gw r i;refine⟨?_,λx hx=>?_⟩
  .rcases h3 with h3|h3
   .show r.foldl _ i∈_;rw[h3];exact xb
   .exact Bb _ h3
  .rcases Nb.mp hx with rfl|hx
   .exact h1
   .exact h2 x hx
def XS{l2:List Nat}(h0:l≠[])(h:∀r,r∈l↔r∈l2):mx rk l=mx rk l2:=by
 have h2:l2≠[]:=λz=>by
  cases l with
  |nil=>exact h0 rfl
  |cons a l=>have:=(h a).mp xb;rw[z]at this;cases this
 obtain⟨a,b⟩:=Κ (l:=l2.map λr=>((rk.getD r 0:Nat):Int)) (by simpa using h2)
 refine As ?_ λx hx=>?_
 .obtain⟨r,h3,h4⟩:=Rc.mp a;rw[show mx rk l2=_ from rfl,mx,<-h4]
  exact Rc.mpr ⟨r,(h r).mpr h3,rfl⟩
 .obtain⟨r,h3,h4⟩:=Rc.mp hx;exact b x (Rc.mpr ⟨r,(h r).mp h3,h4⟩)
def Ev(S:List (List Nat))(rk:List Nat)(f:Nat->Nat)(q:Nat)(v:Bool):Prop:=∃s e,Lp S f q s e/\v=decide (mx rk (gc S f q s e)%2=0)
def Tp{f:Nat->Nat}{s e:Nat}(h:s<e):gc S f q s e≠[]:=λz=>by
 have:fw S f q s∈gc S f q s e:=nJ.mpr ⟨s,Cb _,h,rfl⟩;rw[z]at this;cases this
def Ev.alone{f:Nat->Nat} {v:Bool} (h:Ev S rk f q v) (h':Ev S rk f q v'):v=v':=by
 obtain⟨s,e,L,rfl⟩:=h;obtain⟨s2,e2,L2,rfl⟩:=h';rw[XS (Tp L.lt) λr=>?_]
 rw[nJ,nJ];constructor
 .rintro⟨n,h1,h2,rfl⟩;obtain⟨m,a,b,c⟩:=L.sub L2 n h1;exact⟨m,a,b,c.symm⟩
 .rintro⟨n,h1,h2,rfl⟩;obtain⟨m,a,b,c⟩:=L2.sub L n h1;exact⟨m,a,b,c.symm⟩
theorem sN:∀(n:Nat)(l:List Nat),l.Nodup->(∀x∈l,x<n)->l.length<=n
 |0,l,_,h=>by
  cases l with
  |nil=>simp
  |cons a l=>exact absurd (h a xb) (by omega)
 |n+1,l,nd,h=>by
  have h1:=sN n (l.erase n) (nd.erase n) (λx hx=>by
   have:=h x (JZ hx);have Ee:x≠n:=λz=>by rw[z]at hx;exact(List.Nodup.not_mem_erase nd) hx
   omega)
  have h2:=List.length_erase (a:=n) (l:=l);split at h2<;>omega
def least{P:Nat->Prop}:∀n,P n->∃m,m<=n/\P m/\∀k,k<m->¬ P k:=by
 intro n
 induction n using Nat.strongRecOn with
 |ind n ih=>
  intro h
  by_cases hx:∃k,k<n/\P k
  .obtain⟨k,hk,pk⟩:=hx;obtain⟨m,a,b,c⟩:=ih k hk pk;exact⟨m,by omega,b,c⟩
  .exact⟨n,Cb _,h,λk hk pk=>hx ⟨k,hk,pk⟩⟩
def L5(g:Nat->Nat)(n:Nat)(h:∀i,g i<n):∃J,J<=n/\(∃i,i<J/\g i=g J)/\∀j,j<J->∀i,i<j->g i≠g j:=by
 have ex:∃J,J<=n/\∃i,i<J/\g i=g J:=by
  by_cases hx:∃J,J<=n/\∃i,i<J/\g i=g J
  .exact hx
  .have inj:∀i j,i<j->j<=n->g i≠g j:=λi j hi hj z=>hx ⟨j,hj,i,hi,z⟩
   have nd:((List.range (n+1)).map g).Nodup:=by
    rw[List.nodup_iff_pairwise_ne,List.pairwise_map];refine List.Pairwise.imp_of_mem ?_ ZF;intro a b ha hb QH;exact inj a b QH (by have:=Qc.mp hb;omega)
   have:=sN n _ nd (λx hx=>by obtain⟨i,_,rfl⟩:=Rc.mp hx;exact h i)
   simp at this;omega
 obtain⟨J,hJ,hp⟩:=ex;obtain⟨m,a,b,c⟩:=least (P:=λJ=>∃i,i<J/\g i=g J) J hp
 exact⟨m,by omega,b,λj hj i hi z=>c j hj ⟨i,hi,z⟩⟩
theorem CP{C:Ex}{L:Bd}(st:Nat->ya)(J:Nat)(yr:∀j,j<J->C (st j)=.ok (.bl true)/\L (st j)=.ok (.nx (st (j+1))))(wg:C (st J)=.ok (.bl false)):∀(k fuel:Nat),k<=J->k<fuel->jU C L fuel (st (J-k))=.ok (.nx (st J))
 |0,fuel,_,hf=>by
  obtain⟨m,rfl⟩:∃m,fuel=m+1:=⟨fuel-1,by omega⟩
  rw[uN,Nat.sub_zero,wg];rfl
 |k+1,fuel,hk,hf=>by
  obtain⟨m,rfl⟩:∃m,fuel=m+1:=⟨fuel-1,by omega⟩
  obtain⟨h1,h2⟩:=yr (J-(k+1)) (by omega)
  have ih:=CP st J yr wg k m (by omega) (by omega)
  rw[uN,h1];simp only[aG,jY,if_true,h2];rw[show J-(k+1)+1=J-k by omega]
  exact ih
section
variable {f:Nat->Nat}
def YS{s:Nat}:gc S f q s s=[]:=by unfold gc;rw[Nat.sub_self];rfl
def Sw{s e:Nat}(h:s<e):gc S f q s e=fw S f q s::gc S f q (s+1) e:=by
 unfold gc;rw[show e-s=(e-(s+1))+1 by omega,Cz,wc]
def yx{s e:Nat}(h1:s<=m)(h2:m<=e):gc S f q s m++gc S f q m e=gc S f q s e:=by
 unfold gc;have:=List.range'_append_1 (s:=s) (m:=m-s) (n:=e-m);rw[show s+(m-s)=m by omega,show m-s+(e-m)=e-s by omega]at this
 rw[<-Hf,this]
def Λ{s:Nat}:gc S f q s (s+1)=[fw S f q s]:=by rw[Sw (by omega),YS]
def Es{s e:Nat}:(gc S f q s e).length=e-s:=by unfold gc;simp
def TQ{s e:Nat}(h:s<=e):gc S f q s (e+1)=gc S f q s e++[fw S f q e]:=by rw[<-Λ,yx h (by omega)]
def M9{s e:Nat}(h:s<=e):(gc S f q s (e+1)).getLast?=some (fw S f q e):=by rw[TQ h,PZ];rfl
theorem UQ:∀(x:List Nat)(n:Nat),(∀i,i<x.length->x.getD i 0=f (n+i))->runs S (fw S f q n) x=gc S f q (n+1) (n+1+x.length)
 |[],n,_=>by rw[Fz,Dl,YS];rfl
 |ch::x,n,h=>by
  have h0:ch=f n:=by have:=h 0 (by simp);simpa using this
  have e:Mb S (fw S f q n) (ch-97)=fw S f q (n+1):=by rw[h0];rfl
  rw[Qd,Sw (by omega),<-e,show n+1+(x.length+1)=n+1+1+x.length by omega,<-UQ x (n+1) (λi hi=>by
   have:=h (i+1) (by simp;omega)
   rw[show n+1+i=n+(i+1) by omega,<-this]
   simp),<-e]
  rfl
theorem Ik(M:Ma S rk c)(hf:∀n,97<=f n/\(f n:Int)<97+c)(hq:q<S.length):∀n,fw S f q n<S.length
 |0=>hq
 |n+1=>by
  obtain⟨_,_,_,h⟩:=WS M (Ik M hf hq n) (hf n).1 (hf n).2;exact h
end
section
variable{K V:Nat->D}{g:Nat->Nat}(hK:∀i j,Sd (K i) (K j)=decide (g i=g j))
include hK
def Μ(h:∀i,i<j->g i≠g m):oH ((List.range j).map K) (K m)=false:=by
 unfold oH;rw[br,tu];intro i hi;have:=h i (Qc.mp hi);simp[hK,this]
def N9(h:i<j)(e:g i=g m):oH ((List.range j).map K) (K m)=true:=by
 unfold oH;rw[br,Al];exact⟨i,Qc.mpr h,by simp[hK,e]⟩
def O9(h:i<j)(e:g i=g m)(hn:∀a,a<i->g a≠g m):uK ((List.range j).map K) ((List.range j).map V) (K m)=some (V i):=by
 unfold uK;rw[XG,List.find?_map];have:(List.range j).find? ((λp:D×D=>Sd p.1 (K m)) ∘ λa=>(K a,V a))=some i:=by
  rw[List.find?_range_eq_some];refine⟨by simp[hK,e],Qc.mpr h,λa ha=>?_⟩
  have:=hn a ha;simp[hK,this]
 rw[this];rfl
end
def VQ(F:Nat->D)(j:Nat):(List.range j).map F++[F j]=(List.range (j+1)).map F:=by rw[List.range_succ,Hf];rfl
def Tw(a b:List Nat):ba a++ba b=ba (a++b):=by unfold ba;rw[Hf]
def P9(a:α)(x:List α):cut (a::x) (some 1) none=x:=by
 have:=bGv (a::x) 1 (by simp)
 simpa using this
def Ν(x y:List α)(a:α)(n:Nat)(h:x.length=n):cut (x++y++[a]) (some (n:Int)) (some (-1))=y:=by
 subst h;have l:(x++y++[a]).length=x.length+y.length+1:=by simp;omega
 unfold cut;have e1:Kc (x++y++[a]).length 0 (some (x.length:Int))=x.length:=by
  rw[l];show (if ((x.length:Int)<0) then ((x.length:Int)+((x.length+y.length+1:Nat):Int)).toNat else min (x.length:Int).toNat (x.length+y.length+1))=_;rw[La (by omega)];omega
 have e2:Kc (x++y++[a]).length (x++y++[a]).length (some (-1))=x.length+y.length:=by
  rw[l];unfold Kc;simp;omega
 rw[e1,e2,wl,List.drop_left,show x.length+y.length-x.length=y.length by omega,List.take_left]
section
def z6(M:Ma S rk c){b t:List Nat}(lb:vf c b)(l2:vf c t)(t1:1<=t.length)(tl:t.length<=10000)(bl:b.length<=10000):jJ [.tup [.str b,.str t],.int c]=.ok (.bl true):=by
 have h1:=M.c1;have h3:=M.c3;rw[Q4 (.str b) (.str t) c true true (by rw[PN b c (by omega) (by omega) (by omega),QC.mpr lb]) (by rw[PN t c (by omega) (by omega) (by omega),QC.mpr l2]) rfl (by simp)]
 have:t≠[]:=λz=>by rw[z]at t1;simp at t1
 simp[this]
def DP(M:Ma S rk c){f:Nat->Nat}(hf:∀n,97<=f n/\(f n:Int)<97+c)(hq:q<S.length)(x:List Nat)(hl:x.length<=10000)(hx:vf c x)(n:Nat)(h:∀i,i<x.length->x.getD i 0=f (n+i)):bJ [mD S rk c,.int (fw S f q n),.str x]=.ok (.lst (ba (gc S f q n (n+x.length+1)))):=by
 rw[SQ M (Ik M hf hq n) x hx (by omega),UQ x n h,Sw (s:=n) (by omega),show n+x.length+1=n+1+x.length by omega]
def bGw{b t:List Nat} (h:i<b.length):b.getD i 0=lt b t (0+i):=by unfold lt;rw[Eu,Na h]
def bGx{b t:List Nat} (j:Nat) (h:i<t.length):t.getD i 0=lt b t (b.length+j*t.length+i):=by
 rw[show b.length+j*t.length+i=b.length+i+j*t.length by omega,MD (by omega),<-bKp h]
 unfold lt;rw[La (by omega),show b.length+i-b.length=i by omega]
def V7(M:Ma S rk c)(hq:q<S.length){b t:List Nat}(lb:vf c b)(l2:vf c t)(t1:1<=t.length)(tl:t.length<=10000)(bl:b.length<=10000):∃i J,i<J/\J<=S.length/\fw S (lt b t) q (b.length+i*t.length)=fw S (lt b t) q (b.length+J*t.length)/\(∀j,j<J->∀i,i<j->fw S (lt b t) q (b.length+i*t.length)≠fw S (lt b t) q (b.length+j*t.length))/\
  ∃(Kr vk Ql dm:List D)(gJ:Nat),bJ [mD S rk c,.int q,.str b]=.ok (.lst Kr)/\
   jU lX pP 100000 [some (.v (mD S rk c)),some (.v (.tup [.str b,.str t])),some (.v (.int q)),some (.o .l Kr),some (.o (.d false []) []),none]=.ok (.nx [some (.v (mD S rk c)),some (.v (.tup [.str b,.str t])),some (.v (.int q)),some (.o .l vk),some (.o (.d false Ql) dm),none])/\
   Wb vk (-1)=some (.int gJ)/\uK Ql dm (.int gJ)=some (.int ((b.length+i*t.length:Nat):Int))/\cut vk none (some ((b.length+i*t.length:Nat):Int))=ba (gc S (lt b t) q 0 (b.length+i*t.length))/\
   cut vk (some ((b.length+i*t.length:Nat):Int)) (some (-1))=ba (gc S (lt b t) q (b.length+i*t.length) (b.length+J*t.length)):=by
 have hf:=BE lb l2 t1;have h8:=M.most;generalize hg:(λi=>fw S (lt b t) q (b.length+i*t.length))=g
 obtain⟨J,hJ,⟨i,hi,e⟩,hn⟩:=L5 g S.length (λi=>by rw[<-hg];exact Ik M hf hq _)
 have gh:∀i,fw S (lt b t) q (b.length+i*t.length)=g i:=λi=>by rw[<-hg]
 refine⟨i,J,hi,hJ,by rw[gh,gh,e],λj hj i hi=>by rw[gh,gh];exact hn j hj i hi,?_⟩
 have hK:∀i j,Sd (.int (g i)) (.int (g j))=decide (g i=g j):=λi j=>by
  rw[Vq];unfold Sd;simp;omega
 have B0:J*t.length<=8*10000:=VG (by omega) tl
 obtain⟨ks,zr⟩:∃ks:Nat->List D,∀j,ks j=(List.range j).map λi=>D.int (g i):=⟨_,λ_=>rfl⟩
 obtain⟨vs,Mv⟩:∃vs:Nat->List D,∀j,vs j=(List.range j).map λi=>D.int ((b.length+i*t.length:Nat):Int):=⟨_,λ_=>rfl⟩
 have V0:∀j,(vs j).length=j:=λj=>by rw[Mv];simp
 obtain⟨rs,Uo⟩:∃rs:Nat->List D,∀j,rs j=ba (gc S (lt b t) q 0 (b.length+j*t.length+1)):=⟨_,λ_=>rfl⟩
 have Ve:∀j,((rs j).length:Int)-1=((b.length+j*t.length:Nat):Int):=λj=>by rw[Uo,bD,Es];omega
 have Mf:∀j,Wb (rs j) (-1)=some (.int (g j)):=λj=>by
  rw[<-gh,Uo];exact Ag (U7 (M9 (by omega)))
 have yr:∀j,j<J->lX [some (.v (mD S rk c)),some (.v (.tup [.str b,.str t])),some (.v (.int q)),some (.o .l (rs j)),some (.o (.d false (ks j)) (vs j)),none]=.ok (.bl true)/\pP [some (.v (mD S rk c)),some (.v (.tup [.str b,.str t])),some (.v (.int q)),some (.o .l (rs j)),some (.o (.d false (ks j)) (vs j)),none]=.ok (.nx [some (.v (mD S rk c)),some (.v (.tup [.str b,.str t])),some (.v (.int q)),some (.o .l (rs (j+1))),some (.o (.d false (ks (j+1))) (vs (j+1))),none]):=λj hj=>by
  have Po:=Μ (K:=λi=>.int (g i)) hK (j:=j) (m:=j) (λi hi=>hn j hj i hi)
  have hjt:j*t.length<=8*10000:=Zd (QZ _ (by omega)) B0
  rw[<-zr]at Po;have hl:e2 Ta (eO 3) (e1 Si (eC (.int 1))) [some (.v (mD S rk c)),some (.v (.tup [.str b,.str t])),some (.v (.int q)),some (.o .l (rs j)),some (.o (.d false (ks j)) (vs j)),none]=.ok (.int (g j)):=aP rfl rfl (iW (Mf j));refine⟨aP hl rfl (by
   show aV (Fb false (.int (g j))=true) (R.ok (D.bl (!oH (ks j) (.int (g j)))))=_;rw[aD (c:=Fb false (.int (g j))=true) rfl,Po];rfl),?_⟩
  .have Kl:=DP M hf hq t tl l2 (b.length+j*t.length) (λi hi=>bGx j hi)
   rw[gh]at Kl;have p1:oJ (ks j) (.int (g j))=ks (j+1):=by
    unfold oJ;rw[La (by rw[Po];decide),zr,zr]
    exact VQ (λi=>D.int (g i)) j
   have p2:rR (ks j) (vs j) (.int (g j)) (.int ((b.length+j*t.length:Nat):Int))=vs (j+1):=by
    unfold rR;rw[La (by rw[Po];decide),Mv,Mv]
    exact VQ (λi=>D.int ((b.length+i*t.length:Nat):Int)) j
   refine aU (st':=[some (.v (mD S rk c)),some (.v (.tup [.str b,.str t])),some (.v (.int q)),some (.o .l (rs j)),some (.o (.d false (ks (j+1))) (vs (j+1))),none]) ?_ ?_
   .have hs:e2 Nt (e1 fU (eO 3)) (eC (.int 1)) [some (.v (mD S rk c)),some (.v (.tup [.str b,.str t])),some (.v (.int q)),some (.o .l (rs j)),some (.o (.d false (ks j)) (vs j)),none]=.ok (.int ((b.length+j*t.length:Nat):Int)):=by
     rw[<-Ve j];exact aP rfl rfl rfl
    unfold Vd;rw[hs,aG,hl,aG,<-p1,<-p2];exact aD ⟨rfl,Jn (by rw[V0];omega)⟩
   .have hm:rT "Machine" "rooms_along" bJ [] (aB 0) (aA (e2 Ta (eO 3) (e1 Si (eC (.int 1)))) (aA (e2 Ta (aB 1) (eC (.int 1))) aL)) [some (.v (mD S rk c)),some (.v (.tup [.str b,.str t])),some (.v (.int q)),some (.o .l (rs j)),some (.o (.d false (ks (j+1))) (vs (j+1))),none]=.ok (.lst (ba (gc S (lt b t) q (b.length+j*t.length) (b.length+j*t.length+t.length+1)))):=by
     rw[Tr (xs:=[.int (g j),.str t]) rfl (aW (aP rfl rfl (iW (Mf j))) (aW (aP rfl rfl rfl) rfl)) (by decide)]
     exact Kl
    have hc:cut (ba (gc S (lt b t) q (b.length+j*t.length) (b.length+j*t.length+t.length+1))) (some 1) none=ba (gc S (lt b t) q (b.length+j*t.length+1) (b.length+j*t.length+t.length+1)):=by
     rw[Sw (by omega)];exact P9 _ _
    have hr1:rs (j+1)=rs j++ba (gc S (lt b t) q (b.length+j*t.length+1) (b.length+j*t.length+t.length+1)):=by
     rw[Uo,Uo,Tw,yx (by omega) (by omega),show b.length+(j+1)*t.length+1=b.length+j*t.length+t.length+1 by rw[Lz];omega]
    have Ya:(rs j).length+(ba (gc S (lt b t) q (b.length+j*t.length+1) (b.length+j*t.length+t.length+1))).length<=big:=dR (by
     have:=Ve j;rw[bD,Es];omega)
    rw[hr1];refine bGr ?_ rfl Ya;rw[bGl,hm,<-hc];rfl
 have Po:=N9 (K:=λi=>.int (g i)) hK hi e
 rw[<-zr]at Po;have gi:=O9 (K:=λi=>.int (g i)) (V:=λi=>D.int ((b.length+i*t.length:Nat):Int)) hK hi e (λa ha=>by rw[<-e];exact hn i hi a ha)
 rw[<-zr,<-Mv]at gi;have Nd:i*t.length<=J*t.length:=QZ _ (by omega)
 obtain⟨n,hn0⟩:∃n,n=b.length+i*t.length:=⟨_,rfl⟩;rw[<-hn0]at gi ⊢;have Iv:lX [some (.v (mD S rk c)),some (.v (.tup [.str b,.str t])),some (.v (.int q)),some (.o .l (rs J)),some (.o (.d false (ks J)) (vs J)),none]=.ok (.bl false):=by
  refine aP (aP rfl rfl (iW (Mf J))) rfl ?_
  show aV (Fb false (.int (g J))=true) (R.ok (D.bl (!oH (ks J) (.int (g J)))))=_;rw[aD (c:=Fb false (.int (g J))=true) rfl,Po];rfl
 have hw:=CP (λj=>[some (.v (mD S rk c)),some (.v (.tup [.str b,.str t])),some (.v (.int q)),some (.o .l (rs j)),some (.o (.d false (ks j)) (vs j)),none]) J yr Iv J 100000 (Cb _) (by omega)
 rw[Nat.sub_self]at hw;have h0:=DP M hf hq b bl lb 0 (λi hi=>bGw hi)
 rw[Eu]at h0;have JI:rs 0=ba (gc S (lt b t) q 0 (b.length+1)):=by rw[Uo,AH,Dl]
 rw[<-JI]at h0;have hk0:ks 0=[]:=by rw[zr];rfl
 have hv0:vs 0=[]:=by rw[Mv];rfl
 have c1:cut (rs J) none (some (n:Int))=ba (gc S (lt b t) q 0 n):=by
  rw[bGu,Uo,<-yx (s:=0) (m:=n) (by omega) (by omega),<-Tw,List.take_left' (by rw[bD,Es];omega)]
 have c2:cut (rs J) (some (n:Int)) (some (-1))=ba (gc S (lt b t) q n (b.length+J*t.length)):=by
  rw[Uo,TQ (by omega),<-yx (s:=0) (m:=n) (by omega) (by omega),<-Tw,<-Tw]
  exact Ν _ _ _ _ (by rw[bD,Es];omega)
 refine⟨rs 0,rs J,ks J,vs J,g J,h0,?_,Mf J,gi,c1,c2⟩;rw[hk0,hv0]at hw;exact hw
end
section
variable{S:List (List Nat)}{rk:List Nat}{c:Nat}{q:Nat}
def W7:jN "Machine" "ranks" (mD S rk c)=.ok (.lst (ba rk)):=by unfold mD;rw[zZ,aD rfl];rfl
def WE{r:Nat}(h:r<rk.length):Wb (ba rk) (r:Int)=some (.int (rk.getD r 0)):=by
 rw[Pb (by rw[bD];exact h)]
 simp[ba,getD_eq_getElem?_getD,List.getElem?_eq_getElem h]
def BA(rk:List Nat):D->D
 |.int i=>.int (rk.getD i.toNat 0)
 |d=>d
def bGy(l:List Nat):(ba l).map (BA rk)=(l.map λr=>((rk.getD r 0:Nat):Int)).map D.int:=by
 unfold ba;rw[ug,ug];refine Xi λr _=>?_
 simp[BA]
def bGz(h:l≠[]):Qn (.lst ((ba l).map (BA rk)))=.ok (.int (mx rk l)):=by
 rw[bGy];unfold Qn;simp only[tE,aG];rw[aD (by rw[uc];exact nu.mpr h)]
 rfl
def Ξ{b t:List Nat}{J:Nat}(t1:1<=t.length)(hi:i<J)(e:fw S (lt b t) q (b.length+i*t.length)=fw S (lt b t) q (b.length+J*t.length)):Lp S (lt b t) q (b.length+i*t.length) (b.length+J*t.length):=by
 have h1:i*t.length+(J-i)*t.length=J*t.length:=by rw[<-Nat.add_mul];congr 1;omega
 have h2:1*1<=(J-i)*t.length:=VG (by omega) t1
 refine⟨by omega,λn hn=>?_,e⟩
 rw[show b.length+J*t.length-(b.length+i*t.length)=(J-i)*t.length by omega]
 exact MD (by omega) _
end
section
def Ο(hq:q<S.length):eF [mD S rk c,.int q]=.ok .Gb:=by
 have hb:aK nP (aA (aB 1) (aA (e1 (jN "Machine" "many") (aB 0)) aL)) [some (.v (mD S rk c)),some (.v (.int q))]=.ok (.bl true):=aO (aW rfl (aW (Rw:jN "Machine" "many" (mD S rk c)=_) rfl)) (sP hq);exact bGp rfl (tX (Zs hb) rfl)
def Ρ(M:Ma S rk c)(hq:q<S.length){b t:List Nat}(lb:vf c b)(l2:vf c t)(t1:1<=t.length)(tl:t.length<=10000)(bl:b.length<=10000):∃i J,i<J/\J<=S.length/\fw S (lt b t) q (b.length+i*t.length)=fw S (lt b t) q (b.length+J*t.length)/\(∀j,j<J->∀i,i<j->fw S (lt b t) q (b.length+i*t.length)≠fw S (lt b t) q (b.length+j*t.length))/\
  kZ [mD S rk c,.tup [.str b,.str t],.int q]=.ok (.tup [.lst (ba (gc S (lt b t) q 0 (b.length+i*t.length))),.lst (ba (gc S (lt b t) q (b.length+i*t.length) (b.length+J*t.length)))]):=by
 obtain⟨i,J,hi,hJ,e,hn,Kr,vk,Ql,dm,gJ,h0,hw,Mf,gi,c1,c2⟩:=V7 M hq lb l2 t1 tl bl;refine⟨i,J,hi,hJ,e,hn,?_⟩;generalize b.length+i*t.length=n at gi c1 c2 ⊢;have he:aK jJ (aA (aB 1) (aA (e1 (jN "Machine" "letters") (aB 0)) aL)) [some (.v (mD S rk c)),some (.v (.tup [.str b,.str t])),some (.v (.int q)),none,none,none]=.ok (.bl true):=aO (aW rfl (aW (K5:jN "Machine" "letters" (mD S rk c)=_) rfl)) (z6 M lb l2 t1 tl bl);have hm:rT "Machine" "rooms_along" bJ [] (aB 0) (aA (aB 2) (aA (e2 Ta (aB 1) (eC (.int 0))) aL)) [some (.v (mD S rk c)),some (.v (.tup [.str b,.str t])),some (.v (.int q)),none,none,none]=.ok (.lst Kr):=by
  rw[Tr (xs:=[.int q,.str b]) rfl (aW rfl (aW (aP rfl rfl rfl) rfl)) (by decide)]
  exact h0
 have hx:Ry (rT "Machine" "check_room" eF [] (aB 0) (aA (aB 2) aL)) [some (.v (mD S rk c)),some (.v (.tup [.str b,.str t])),some (.v (.int q)),none,none,none]=.ok (.nx [some (.v (mD S rk c)),some (.v (.tup [.str b,.str t])),some (.v (.int q)),none,none,none]):=by
  unfold Ry;rw[Tr rfl rfl (by decide)]
  show (eF [mD S rk c,.int q]).bind _=_;rw[Ο hq];rfl
 refine cB rfl (gZ hx (gZ (tX (Zs he) rfl) ?_));refine aU (st':=[some (.v (mD S rk c)),some (.v (.tup [.str b,.str t])),some (.v (.int q)),some (.o .l Kr),none,none]) (qH hm) ?_
 refine aU (st':=[some (.v (mD S rk c)),some (.v (.tup [.str b,.str t])),some (.v (.int q)),some (.o .l Kr),some (.o (.d false []) []),none]) rfl ?_
 refine aU hw ?_
 have hl:e2 Ta (eO 3) (e1 Si (eC (.int 1))) [some (.v (mD S rk c)),some (.v (.tup [.str b,.str t])),some (.v (.int q)),some (.o .l vk),some (.o (.d false Ql) dm),none]=.ok (.int gJ):=aP rfl rfl (iW Mf);have hg:e2 Ta (eO 4) (e2 Ta (eO 3) (e1 Si (eC (.int 1)))) [some (.v (mD S rk c)),some (.v (.tup [.str b,.str t])),some (.v (.int q)),some (.o .l vk),some (.o (.d false Ql) dm),none]=.ok (.int (n:Nat)):=aP rfl hl (by
  show aV (Fb false (.int gJ)=true) (Xc (uK Ql dm (.int gJ)))=_;rw[aD (c:=Fb false (.int gJ)=true) rfl,gi];rfl)
 refine aU (st':=[some (.v (mD S rk c)),some (.v (.tup [.str b,.str t])),some (.v (.int q)),some (.o .l vk),some (.o (.d false Ql) dm),some (.v (.int (n:Nat)))]) (bU hg) (dB ?_);have s1:bj (eO 3) aq (uM (aB 5)) [some (.v (mD S rk c)),some (.v (.tup [.str b,.str t])),some (.v (.int q)),some (.o .l vk),some (.o (.d false Ql) dm),some (.v (.int (n:Nat)))]=.ok (.lst (ba (gc S (lt b t) q 0 n))):=by rw[<-c1];rfl
 have s2:bj (eO 3) (uM (aB 5)) (uM (e1 Si (eC (.int 1)))) [some (.v (mD S rk c)),some (.v (.tup [.str b,.str t])),some (.v (.int q)),some (.o .l vk),some (.o (.d false Ql) dm),some (.v (.int (n:Nat)))]=.ok (.lst (ba (gc S (lt b t) q n (b.length+J*t.length)))):=by rw[<-c2];rfl
 show R.bind (aA _ (aA _ aL) _) _=_;rw[aW s1 (aW s2 rfl),aG];exact aD (dR (by show 2<=_;omega))
def Ax(M:Ma S rk c)(hq:q<S.length){b t:List Nat}(lb:vf c b)(l2:vf c t)(t1:1<=t.length)(tl:t.length<=10000)(bl:b.length<=10000):∃v,Ev S rk (lt b t) q v/\fP [mD S rk c,.tup [.str b,.str t],.int q]=.ok (.bl v):=by
 obtain⟨i,J,hi,hJ,e,_,hw⟩:=Ρ M hq lb l2 t1 tl bl;have L:=Ξ t1 hi e;have h8:=M.most;have B0:J*t.length<=8*10000:=VG (by omega) tl
 have Qb:=Ik M (BE lb l2 t1) hq;have Ya:(gc S (lt b t) q (b.length+i*t.length) (b.length+J*t.length)).length<=1000000:=by rw[Es];omega
 have Lf:∀r∈gc S (lt b t) q (b.length+i*t.length) (b.length+J*t.length),r<rk.length:=λr hr=>by
  obtain⟨n,_,_,rfl⟩:=nJ.mp hr;rw[M.Jr];exact Qb n
 have Ee:=Tp (S:=S) (f:=lt b t) (q:=q) L.lt;refine⟨decide (mx rk (gc S (lt b t) q (b.length+i*t.length) (b.length+J*t.length))%2=0),⟨_,_,L,rfl⟩,?_⟩;generalize gc S (lt b t) q (b.length+i*t.length) (b.length+J*t.length)=l at hw Ya Lf Ee;have hm:e1 Qn (dI [4] (ib 4) (Fc (aB 3)) cH pQ) [some (.v (mD S rk c)),some (.v (.tup [.str b,.str t])),some (.v (.int q)),some (.v (.lst (ba l))),none]=.ok (.int (mx rk l)):=by
  show R.bind (dI [4] (ib 4) (Fc (aB 3)) cH pQ [some (.v (mD S rk c)),some (.v (.tup [.str b,.str t])),some (.v (.int q)),some (.v (.lst (ba l))),none]) _=_;rw[nG (rW rfl) (by rw[bD];exact Ya) (wM (BA rk) _ λd hd=>by
   obtain⟨r,hr,rfl⟩:=Qw hd;exact⟨_,rfl,rfl,aP (W7:jN "Machine" "ranks" (mD S rk c)=_) rfl (iW (WE (Lf r hr)))⟩),aG]
  exact bGz Ee
 exact cB rfl (aU (st':=[some (.v (mD S rk c)),some (.v (.tup [.str b,.str t])),some (.v (.int q)),some (.v (.lst (ba l))),none]) (bU (aP ((Tr rfl rfl (by decide)).trans hw) rfl rfl)) (dB (aP (aP hm rfl (xW (by decide))) rfl (Xx _ _))))
end
def Xv(l:List Nat):Nat->Nat:=λb=>l.foldl (λb r=>b|||2^r) b
theorem ZS(r:Nat):∀(l:List Nat)(b:Nat),(Xv l b).testBit r=(b.testBit r||decide (r∈l))
 |[],b=>by simp[Xv]
 |x::l,b=>by
  show (Xv l (b|||2^x)).testBit r=_
  rw[ZS r l,WG,Nat.testBit_two_pow]
  by_cases h:x=r
  .simp[h]
  .have h':¬ r=x:=λz=>h z.symm
   simp[h,h']
def fC(l:List Nat):Nat:=Xv l 0
def gF(l:List Nat)(r:Nat):(fC l).testBit r=decide (r∈l):=by
 unfold fC;rw[ZS,dr,Iz]
def Τ{l':List Nat}(h:∀r,r∈l↔r∈l'):fC l=fC l':=gu λr=>by
 rw[gF,gF,Tq.mpr (h r)]
def aN(n:Nat):List Nat:=(List.range (wG n)).filter λr=>n.testBit r
def Q9(h:wG n<=r):n.testBit r=false:=by
 unfold wG at h
 by_cases h0:(n:Int)=0
 .have:n=0:=by omega
  rw[this,dr]
 .rw[La h0]at h;have hn:n≠0:=λz=>h0 (by rw[z];rfl)
  have h1:n<2^(n.log2+1):=(Nat.log2_lt hn).mp (Sq _);exact AZ (ue h1 (RZ (by decide) (by simpa using h)))
def aR:r∈aN n↔n.testBit r=true:=by
 unfold aN;rw[je,Qc];refine⟨λh=>h.2,λh=>⟨?_,h⟩⟩
 rcases Nat.lt_or_ge r (wG n) with h1|h1
 .exact h1
 .rw[Q9 h1]at h;cases h
def lY(n:Nat):fC (aN n)=n:=gu λr=>by
 rw[gF];cases h:n.testBit r with
 |true=>exact Ld (aR.mpr h)
 |false=>exact Cd λz=>by rw[aR.mp z]at h;cases h
def gY:r∈aN (fC l)↔r∈l:=by
 rw[aR,gF,Ff]
def bH{k:Nat}(h:n<2^k)(hr:r∈aN n):r<k:=by
 rw[aR]at hr;rcases Nat.lt_or_ge r k with h1|h1
 .exact h1
 .rw[AZ (ue h (RZ (by decide) h1))]at hr
  cases hr
def R9{k:Nat}(h:n<2^k):wG n<=k:=by
 unfold wG
 by_cases h0:(n:Int)=0
 .rw[Na h0];exact Dg _
 .rw[La h0];have hn:n≠0:=λz=>h0 (by rw[z];rfl)
  have:n.log2<k:=(Nat.log2_lt hn).mpr h;show (n:Int).natAbs.log2+1<=k;rw[Int.natAbs_natCast];omega
@[simp] theorem S9(i j:Int):zm (.int i) (.int j)=aV (0<=j/\j<=1000000/\i.natAbs<18446744073709551616) (.ok (.int (i*2^j.toNat))):=rfl
@[simp] theorem bKq(i j:Int):Aq (.int i) (.int j)=aV (0<=j) (.ok (.int (i/2^j.toNat))):=rfl
@[simp] theorem T9(i j:Int):Am (.int i) (.int j)=aV (0<=i/\0<=j) (.ok (.int ((i.toNat&&&j.toNat:Nat):Int))):=rfl
@[simp] theorem Υ(i j:Int):Pm (.int i) (.int j)=aV (0<=i/\0<=j) (.ok (.int ((i.toNat|||j.toNat:Nat):Int))):=rfl
@[simp] theorem bF2(i:Int):xx (.int i)=.ok (.int (wG i:Nat)):=rfl
def U9(n r:Nat):(((n:Int)/2^r).toNat&&&(1:Int).toNat)=if n.testBit r=true then 1 else 0:=by
 have e:((n:Int)/2^r).toNat=n/2^r:=by
  have:(n:Int)/2^r=((n/2^r:Nat):Int):=by push_cast;rfl
  rw[this,rg]
 rw[e,show (1:Int).toNat=1 from rfl,Nat.and_one_is_mod,Nat.testBit_eq_decide_div_mod_eq]
 by_cases h:n/2^r%2=1
 .simp[h]
 .have:n/2^r%2=0:=by omega
  simp[this]
def Up(n r:Nat):iG [.int n,.int r]=.ok (.bl (n.testBit r)):=by
 have hb:=U9 n r;have h0:0<=(n:Int)/2^r:=Int.ediv_nonneg (by omega) (Int.pow_nonneg (by decide))
 refine cB rfl ?_
 unfold EB;show cZ _ [some (.v (.int n)),some (.v (.int r))]=_;have e1:e2 Aq (aB 0) (aB 1) [some (.v (.int n)),some (.v (.int r))]=.ok (.int ((n:Int)/2^r)):=by simp
 have Jf:e2 Am (e2 Aq (aB 0) (aB 1)) (eC (.int 1)) [some (.v (.int n)),some (.v (.int r))]=.ok (.int ((if n.testBit r=true then 1 else 0:Nat):Int)):=by
  rw[Bt,e1,aG,SW,aG,T9,aD ⟨h0,by decide⟩,hb]
 rw[xQ,Bt,Jf];cases n.testBit r<;>simp
theorem oU{tg:Tg}{C E:Ex}{st:ya}{q:Nat->Bool}{G:Nat->D}:∀(ks:List Nat),(∀k∈ks,∃s1,tg (.int k) st=.ok s1/\C s1=.ok (.bl (q k))/\E s1=.ok (G k))->iQ tg C E st (ba ks)=.ok ((ks.filter q).map G)
 |[],_=>rfl
 |k::ks,h=>by
  obtain⟨s1,e1,e2,e3⟩:=h k xb;have ih:=oU ks λk hk=>h k (Bb _ hk)
  show iQ tg C E st (.int k::ba ks)=_;rw[jZ,e1];cases hq:q k with
  |true=>
   rw[Kq hq,wc];simp[e2,e3,hq,ih]
  |false=>
   rw[Lq (by rw[hq];decide)]
   simp[e2,hq,ih]
def AN(n:Nat):iC 0 n=ba (List.range n):=by
 rw[mB];rfl
def rC{k:Nat}(h:n<2^k)(hk:k<=2000):cT [.int n]=.ok (.lst (ba (aN n))):=by
 have hb:=R9 h;have e:=oU (tg:=ib 1) (C:=xT) (E:=xR) (st:=[some (.v (.int n)),none]) (q:=λr=>n.testBit r) (G:=λr=>.int r) (List.range (wG n)) (λr _=>⟨_,rfl,by
  simp[xT,Up n r],by simp[xR]⟩)
 refine cB rfl ?_
 unfold GB;show cZ _ [some (.v (.int n)),none]=_;have hi:uL (e1 xx (aB 0)) [some (.v (.int n)),none]=.ok (ba (List.range (wG n))):=by
  simp[show ((wG n:Nat):Int)<=(big:Int) from js (by omega)]
  exact AN _
 rw[xQ,NC,hi];simp only[aG,bD,length_range];rw[aD (dR (by omega)),show ae [1] [some (Sl.v (D.int n)),none]=[some (.v (.int n)),none] from rfl,e]
 rfl
theorem FP(a:Option Sl):∀(l:List Nat)(b:Nat)(x2:Option Sl),(∀r∈l,r<=1000000)->∃xw,Lb (ib 2) oA (ba l) [a,some (.v (.int b)),x2]=.ok (.nx [a,some (.v (.int (Xv l b))),xw])
 |[],b,x2,_=>⟨x2,rfl⟩
 |r::l,b,x2,h=>by
  obtain⟨xw,e⟩:=FP a l (b|||2^r) (some (.v (.int r))) λr hr=>h r (Bb _ hr)
  refine⟨xw,?_⟩;have hr:=h r xb;have Pe:(r:Int)<=1000000:=by omega
  have ee:((1:Int)*2^(r:Int).toNat)=((2^r:Nat):Int):=by push_cast;simp
  show Lb (ib 2) oA (.int r::ba l) _=_;rw[wC];have e3:(2:Int)^r=((2^r:Nat):Int):=by push_cast;rfl
  have t:oA [a,some (.v (.int b)),some (.v (.int r))]=.ok (.nx [a,some (.v (.int ((b|||2^r:Nat):Int))),some (.v (.int r))]):=by
   have h1:e2 zm (eC (.int 1)) (aB 2) [a,some (.v (.int b)),some (.v (.int r))]=.ok (.int ((2^r:Nat):Int)):=by
    simp only[Bt,SW,ES,aG,getElem?_cons_succ,List.getElem?_cons_zero];rw[S9,aD ⟨by omega,Pe,by decide⟩,ee]
   unfold oA;rw[JS,Bt,h1];simp only[ES,aG,getElem?_cons_succ,List.getElem?_cons_zero];rw[Υ,aD ⟨GG _,GG _⟩,rg,rg];rfl
  show (oA [a,some (.v (.int b)),some (.v (.int r))]).bind _=_;rw[t];exact e
def Bx{l:List Nat}(h:∀r∈l,r<=1000000)(hl:l.length<=1000000):lQ [.lst (ba l)]=.ok (.int (fC l)):=by
 obtain⟨xw,e⟩:=FP (some (.v (.lst (ba l)))) l 0 none h;refine cB rfl ?_
 unfold kC;refine aU (st':=[some (.v (.lst (ba l))),some (.v (.int 0)),none]) (by simp) ?_
 refine aU (st':=[some (.v (.lst (ba l))),some (.v (.int (fC l))),xw]) ?_ (by simp)
 rw[KS,show Fc (aB 0) [some (Sl.v (D.lst (ba l))),some (.v (.int 0)),none]=.ok (ba l) from rfl,aG]
 exact e
inductive qc (S:List (List Nat)) (c:Nat) (al:Nat->Bool) (s:Nat):Nat->Prop where
 |here:qc S c al s s
 |on {r l:Nat}:qc S c al s r->l<c->al (Mb S r l)=true->qc S c al s (Mb S r l)
def fH(n:Nat):(aN n).Nodup:=Fu.filter _
def qI{l:List Nat}{k:Nat}(h:∀r∈l,r<k):fC l<2^k:=Nat.lt_pow_two_of_testBit _ λr hr=>by
 rw[gF];exact Cd λz=>by have:=h r z;omega
open Classical in
noncomputable def dC(S:List (List Nat))(c n r:Nat):Nat:=fC ((List.range S.length).filter λg=>decide (qc S c (λg=>n.testBit g) r g))
section
def Ln(M:Ma S rk c) {s g:Nat} (hs:s<S.length) (h:qc S c al s g):g<S.length:=by
 induction h with
 |here=>exact hs
 |on _ hl _ ih=>obtain⟨_,_,_,h⟩:=xX M ih hl;exact h
def bt{s g:Nat}(hs:al s=true)(h:qc S c al s g):al g=true:=by
 cases h with
 |here=>exact hs
 |on _ _ ha=>exact ha
open Classical in
def fV(M:Ma S rk c){r:Nat}(hr:r<S.length)(g:Nat):(dC S c n r).testBit g=true↔qc S c (λg=>n.testBit g) r g:=by
 unfold dC;rw[gF,Ff,je,Qc,Ff];exact⟨λh=>h.2,λh=>⟨Ln M hr h,h⟩⟩
def wO:dC S c n r<2^S.length:=qI λg hg=>Qc.mp (je.mp hg).1
def tY(M:Ma S rk c){a b:Nat}(ha:a<S.length):b∈S.getD a []↔∃l,l<c/\Mb S a l=b:=by
 have hr:=(M.row S[a] (Wf ha)).1;have hg:S.getD a []=S[a]:=by rw[xf,Pc ha];rfl
 have e:∀l,Mb S a l=S[a].getD l 0:=λl=>by unfold Mb;rw[hg]
 rw[hg];constructor
 .intro h;obtain⟨l,hl,rfl⟩:=io.mp h;exact⟨l,by omega,by rw[e,xf,Pc hl];rfl⟩
 .rintro⟨l,hl,rfl⟩;have Ar:l<S[a].length:=by omega
  rw[e,xf,Pc Ar];exact Wf Ar
def qc.trans{a b d:Nat}(h1:qc S c al a b)(h2:qc S c al b d):qc S c al a d:=by
 induction h2 with
 |here=>exact h1
 |on _ hl ha ih=>exact .on ih hl ha
end
def qV(g:Nat)(l:List Nat):nr (.int g) (.lst (ba l))=.ok (.bl (decide (g∈l))):=by
 obtain⟨p1,p2,_⟩:=jK l;rw[<-Ds];exact aD ⟨by rw[p2];exact Dg 60,rfl,p1⟩
def bH0(h:n<=1000000):zm (.int 1) (.int n)=.ok (.int ((2^n:Nat):Int)):=by
 have e:((2^n:Nat):Int)=1*2^(n:Int).toNat:=by rw[Int.one_mul,rg];push_cast;rfl
 rw[e];exact aD ⟨by omega,by omega,by decide⟩
def Φ(a b:Nat):Am (.int a) (.int b)=.ok (.int ((a&&&b:Nat):Int)):=by
 rw[<-rg a,<-rg b];exact aD ⟨by omega,by omega⟩
def Uw(g:Nat)(l:List Nat):oH (ba l) (.int g)=decide (g∈l):=by
 unfold oH ba;rw[br]
 by_cases h:g∈l
 .rw[Ld h,Al];exact⟨g,h,by simp[Sd]⟩
 .rw[Cd h,tu];intro x hx
  have : ¬ (x : Int) = (g : Int) := fun z => h (by have e : x = g := by omega
                                                   rw[<-e];exact hx)
  simp[Sd,this]
theorem wQ(V:Nat->D){g:Nat}:∀{l:List Nat},g∈l->uK (ba l) (l.map V) (.int g)=some (V g)
 |[],h=>nomatch h
 |x::l,h=>by
  show uK (.int x::ba l) (V x::l.map V) (.int g)=_;unfold uK;rw[zu,List.find?_cons]
  by_cases e:x=g
  .simp[Sd,e]
  .have:¬ (x:Int)=(g:Int):=by omega
   simp only[Sd,beq_eq_false_iff_ne.mpr this];exact wQ V ((Nb.mp h).resolve_left λz=>e z.symm)
def Ur(l:List Nat)(x:Nat):ba (l++[x])=ba l++[.int x]:=by unfold ba;simp
def Fs{ks vs:List D}{g:Nat} (h:uK ks vs (.int g)=some d):Ta (.jd false ks vs) (.int g)=.ok d:=by
 show aV (Fb false (.int g)=true) (Xc (uK ks vs (.int g)))=_;rw[aD (c:=Fb false (.int g)=true) rfl,h];rfl
inductive Pw (B:Nat->Nat->Prop) (K:Nat->Prop):Nat->Nat->Prop where
 |one {a b:Nat}:B a b->Pw B K a b
 |mid {a m b:Nat}:K m->Pw B K a m->Pw B K m b->Pw B K a b
def Pw.cut{B:Nat->Nat->Prop}{K K':Nat->Prop}{k a b:Nat}(hK:∀m,K' m->K m\/m=k)(h:Pw B K' a b):Pw B K a b\/(Pw B K a k/\Pw B K k b):=by
 induction h with
 |one h=>exact .inl (.one h)
 |mid hm _ _ i1 i2=>
  rename_i a m b _ _;rcases hK m hm with hm|rfl
  .rcases i1 with x|⟨x1,x2⟩
   .rcases i2 with y|⟨y1,y2⟩
    .exact .inl (.mid hm x y)
    .exact .inr ⟨.mid hm x y1,y2⟩
   .rcases i2 with y|⟨y1,y2⟩
    .exact .inr ⟨x1,.mid hm x2 y⟩
    .exact .inr ⟨x1,y2⟩
  .exact .inr ⟨i1.elim id λz=>z.1,i2.elim id λz=>z.2⟩
def Pw.mono{B:Nat->Nat->Prop}{K K':Nat->Prop}{a b:Nat}(hK:∀m,K m->K' m)(h:Pw B K a b):Pw B K' a b:=by
 induction h with
 |one h=>exact .one h
 |mid hm _ _ i1 i2=>exact .mid (hK _ hm) i1 i2
def jE(V:Nat->Nat)(m:Nat):Nat->Nat:=λr=>if (V r).testBit m=true then V r|||V m else V r
theorem aT{B:Nat->Nat->Prop}{R:Nat->Prop}(hR:∀a b,R a->B a b->R b):∀(ks ds:List Nat)(V:Nat->Nat),(∀k∈ks,R k)->(∀r,R r->∀g,(V r).testBit g=true↔Pw B (· ∈ ds) r g)->∀r,R r->∀g,((ks.foldl jE V) r).testBit g=true↔Pw B (· ∈ ds++ks) r g
 |[],ds,V,_,h,r,hr,g=>by rw[Di];exact h r hr g
 |k::ks,ds,V,hk,h,r,hr,g=>by
  have e:ds++k::ks=(ds++[k])++ks:=by simp
  rw[e];refine aT hR ks (ds++[k]) (jE V k) (λx hx=>hk x (Bb _ hx)) (λr hr g=>?_) r hr g
  have dk:=hk k xb;have up:∀{a b:Nat},Pw B (· ∈ ds) a b->Pw B (· ∈ ds++[k]) a b:=λz=>z.mono λm hm=>Dd _ hm
  have UI:k∈ds++[k]:=by simp
  unfold jE
  by_cases hb:(V r).testBit k=true
  .rw[Na hb,WG,or_eq_true,h r hr g,h k dk g];constructor
   .rintro(z|z)
    .exact up z
    .exact .mid UI (up ((h r hr k).mp hb)) (up z)
   .intro z;rcases z.cut (K:=(· ∈ ds)) (k:=k) (λm hm=>by simpa using hm) with y|⟨_,y⟩
    .exact .inl y
    .exact .inr y
  .rw[La hb,h r hr g];constructor
   .exact up
   .intro z;rcases z.cut (K:=(· ∈ ds)) (k:=k) (λm hm=>by simpa using hm) with y|⟨y,_⟩
    .exact y
    .exact absurd ((h r hr k).mpr y) hb
section
variable{S:List (List Nat)}{rk:List Nat}{c n:Nat}
def rY(S:List (List Nat))(n:Nat):Nat->Nat:=λr=>(fC (S.getD r [])|||2^r)&&&n
def V9{g:Nat}:(rY S n r).testBit g=true↔(r=g\/g∈S.getD r [])/\n.testBit g=true:=by
 unfold rY;rw[Nat.testBit_and,WG,gF,Nat.testBit_two_pow,Hu,or_eq_true,Ff,Ff];exact⟨λh=>⟨h.1.symm,h.2⟩,λh=>⟨h.1.symm,h.2⟩⟩
def X7(M:Ma S rk c)(hn:n<2^S.length) (hr:r∈aN n) (g:Nat):(((aN n).foldl jE (rY S n)) r).testBit g=true↔qc S c (λg=>n.testBit g) r g:=by
 have hp:=aT (B:=λa b=>(a=b\/b∈S.getD a [])/\n.testBit b=true) (R:=(· ∈ aN n)) (λa b _ h=>aR.mpr h.2) (aN n) [] (rY S n) (λk hk=>hk) (λr _ g=>by
  rw[V9];constructor
  .exact λh=>.one h
  .intro h;cases h with
   |one h=>exact h
   |mid h _ _=>cases h) r hr g
 rw[hp,Gu];clear hp;constructor
 .intro h;have hi:∀{a b:Nat},Pw (λa b=>(a=b\/b∈S.getD a [])/\n.testBit b=true) (· ∈ aN n) a b->a∈aN n->qc S c (λg=>n.testBit g) a b:=by
   intro a b h
   induction h with
   |one h=>
    intro ha;obtain⟨rfl|h1,h2⟩:=h
    .exact .here
    .obtain⟨l,hl,rfl⟩:=(tY M (bH hn ha)).mp h1;exact .on .here hl h2
   |mid hm _ _ i1 i2=>exact λha=>qc.trans (i1 ha) (i2 hm)
  exact hi h hr
 .intro h
  induction h with
  |here=>exact .one ⟨.inl rfl,aR.mp hr⟩
  |on h1 hl ha ih=>
   have hx:_∈aN n:=aR.mpr (bt (al:=λg=>n.testBit g) (aR.mp hr) h1)
   exact .mid hx ih (.one ⟨.inr ((tY M (bH hn hx)).mpr ⟨_,hl,rfl⟩),ha⟩)
def W9(M:Ma S rk c)(hn:n<2^S.length) (hr:r∈aN n):((aN n).foldl jE (rY S n)) r=dC S c n r:=gu λg=>by
 have e:=(X7 M hn hr g).trans (fV M (bH hn hr) g).symm;cases h1:(((aN n).foldl jE (rY S n)) r).testBit g with
 |true=>exact(e.mp h1).symm
 |false=>
  cases h2:(dC S c n r).testBit g with
  |true=>rw[e.mpr h2]at h1;cases h1
  |false=>rfl
def fT(a b:Nat):Pm (.int a) (.int b)=.ok (.int ((a|||b:Nat):Int)):=by
 rw[<-rg a,<-rg b];exact aD ⟨by omega,by omega⟩
def zP(S:List (List Nat))(n:Nat)(ks:List Nat)(V:Nat->Nat)(x4 x5:Option Sl):ya:=[some (.v (.lst (Sa S))),some (.v (.int n)),some (.v (.lst (ba (aN n)))),some (.o (.d false (ba ks)) (ks.map λr=>D.int (V r:Nat))),x4,x5]
def gT{V:Nat->Nat}{r:Nat}{x:D}(hr:r∉ks):oJ (ba ks) (.int r)=ba (ks++[r])/\rR (ba ks) (ks.map λr=>D.int (V r:Nat)) (.int r) x=(ks.map λr=>D.int (V r:Nat))++[x]:=by
 have hk:oH (ba ks) (.int r)=false:=by rw[Uw,Cd hr]
 unfold oJ rR;rw[hk,Ur];exact⟨rfl,rfl⟩
def kT{V:Nat->Nat}{r x:Nat}(hr:r∈ks):oJ (ba ks) (.int r)=ba ks/\rR (ba ks) (ks.map λr=>D.int (V r:Nat)) (.int r) (.int x)=ks.map λk=>D.int ((if k=r then x else V k:Nat):Int):=by
 have hk:oH (ba ks) (.int r)=true:=by rw[Uw,Ld hr]
 unfold oJ rR;rw[hk,Na rfl,Na rfl];refine⟨rfl,?_⟩;unfold ba;rw[XG,ug];refine Xi λk _=>?_
 show (if Sd (.int (k:Int)) (.int (r:Int))=true then D.int (x:Int) else D.int (V k:Int))=_
 by_cases e:k=r
 .rw[Na e,Na (by rw[e];simp[Sd])]
 .have:¬ (k:Int)=(r:Int):=by omega
  rw[La e,La (by simp[Sd,this])]
def lT{st:ya}{k:D}{ks vs:List D}(hf:f st=.ok d)(hg:g st=.ok k)(hs:st[i]?=some (some (.o (.d false ks) vs)))(hk:Fb false k=true)(hl:vs.length<1000):Vd i g f st=.ok (.nx (st.set i (some (.o (.d false (oJ ks k)) (rR ks vs k d))))):=by
 unfold Vd;rw[hf,aG,hg,aG,hs];exact aD ⟨hk,Jn (by omega)⟩
theorem GP(M:Ma S rk c):∀(rs ks:List Nat)(x4:Option Sl),(ks++rs).Nodup->(∀r∈ks++rs,r<S.length)->∃Hj,Lb (ib 4) iL (ba rs) (zP S n ks (rY S n) x4 none)=.ok (.nx (zP S n (ks++rs) (rY S n) Hj none))
 |[],ks,x4,_,_=>⟨x4,by rw[Di];rfl⟩
 |r::rs,ks,x4,nd,hl=>by
  have n8:=M.most;have h1:ks++r::rs=(ks++[r])++rs:=by simp
  rw[h1]at nd hl;obtain⟨Hj,e⟩:=GP M rs (ks++[r]) (some (.v (.int r))) nd hl;refine⟨Hj,?_⟩;rw[h1];have hr:r∉ks:=λz=>(Yi.mp (Yi.mp nd).1).2.2 r z r (cc.mpr rfl) rfl
  have Ve:r<S.length:=hl r (by simp)
  have Ya:ks.length<=S.length:=lA S.length ks (Yi.mp (Yi.mp nd).1).1 λx hx=>hl x (by simp[hx])
  have hg:S.getD r []=S[r]:=by rw[xf,Pc Ve];rfl
  have ze:=M.row S[r] (Wf Ve);have c3:=M.c3;have hb:=Bx (l:=S[r]) (λx hx=>by have:=ze.2 x hx;omega) (by rw[ze.1];omega)
  obtain⟨p1,p2⟩:=gT (V:=rY S n) (x:=.int (rY S n r:Nat)) hr;refine oR rfl (s2:=zP S n (ks++[r]) (rY S n) (some (.v (.int r))) none) ?_ e;have hv:e2 Am (e2 Pm (aK lQ (aA (e2 Ta (aB 0) (aB 4)) aL)) (e2 zm (eC (.int 1)) (aB 4))) (aB 1) (zP S n ks (rY S n) (some (.v (.int r))) none)=.ok (.int (rY S n r:Nat)):=by
   unfold rY;rw[hg];exact aP (aP (aO (aW (aP rfl rfl (iW (qm Ve))) rfl) hb) (aP rfl rfl (bH0 (by omega))) (fT _ _)) rfl (Φ _ _)
  refine(lT hv rfl rfl rfl (by rw[uc];omega)).trans ?_
  rw[p1,p2];unfold zP;rw[Hf];rfl
def Y7{V:Nat->Nat} (hl:ks.length<1000) (hr:r∈ks) (hm:m∈ks):oM (zP S n ks V (some (.v (.int r))) (some (.v (.int m))))=.ok (.nx (zP S n ks (λk=>if k=r then jE V m r else V k) (some (.v (.int r))) (some (.v (.int m))))):=by
 have gr:e2 Ta (eO 3) (aB 4) (zP S n ks V (some (.v (.int r))) (some (.v (.int m))))=.ok (.int (V r:Nat)):=aP rfl rfl (Fs (wQ (λr=>D.int (V r:Nat)) hr))
 have gm:e2 Ta (eO 3) (aB 5) (zP S n ks V (some (.v (.int r))) (some (.v (.int m))))=.ok (.int (V m:Nat)):=aP rfl rfl (Fs (wQ (λr=>D.int (V r:Nat)) hm))
 have t:=aO (aW gr (show aA (aB 5) aL (zP S n ks V (some (.v (.int r))) (some (.v (.int m))))=.ok [.int m] from rfl)) (Up (V r) m)
 by_cases hb:(V r).testBit m=true
 .rw[hb]at t;obtain⟨p1,p2⟩:=kT (V:=V) (x:=V r|||V m) hr
  refine zh t ((lT (aP gr gm (fT _ _)) rfl rfl rfl (by rw[uc];omega)).trans ?_)
  rw[p1,p2];unfold jE;rw[Na hb];rfl
 .rw[Bool.eq_false_iff.mpr hb]at t;refine tX t ?_
  have:(λk=>if k=r then jE V m r else V k)=V:=funext λk=>by
   by_cases e:k=r
   .rw[Na e,e];unfold jE;rw[La hb]
   .rw[La e]
  rw[this];rfl
theorem HP{ks:List Nat}{V:Nat->Nat}{m:Nat}(hl:ks.length<1000)(hm:m∈ks):∀(rs:List Nat)(W:Nat->Nat)(x4:Option Sl),(∀r∈rs,r∈ks)->W m=V m->(∀r∈rs,W r=V r\/W r=jE V m r)->∃W' Hj,Lb (ib 4) oM (ba rs) (zP S n ks W x4 (some (.v (.int m))))=.ok (.nx (zP S n ks W' Hj (some (.v (.int m)))))/\∀r,W' r=if r∈rs then jE V m r else W r
 |[],W,x4,_,_,_=>⟨W,x4,rfl,λr=>by rw[La (by simp)]⟩
 |r::rs,W,x4,hs,hw,hv=>by
  have ho:jE W m r=jE V m r:=by
   rcases hv r xb with h|h
   .unfold jE;rw[h,hw]
   .unfold jE at h ⊢;rw[h,hw]
    by_cases hb:(V r).testBit m=true
    .rw[Na hb]
     by_cases Fh:(V r|||V m).testBit m=true
     .rw[Na Fh,Nat.or_assoc,Nat.or_self]
     .rw[La Fh]
    .rw[La hb,La hb]
  have hom:jE V m m=V m:=by
   unfold jE;split
   .exact Nat.or_self _
   .rfl
  obtain⟨W',Hj,e,h⟩:=HP hl hm rs (λk=>if k=r then jE W m r else W k) (some (.v (.int r))) (λx hx=>hs x (Bb _ hx)) (by
   show (if m=r then jE W m r else W m)=V m
   by_cases e:m=r
   .rw[Na e,ho,<-e,hom]
   .rw[La e,hw]) (λx hx=>by
   show (if x=r then jE W m r else W x)=V x\/(if x=r then jE W m r else W x)=jE V m x
   by_cases e:x=r
   .rw[Na e,ho,e];exact .inr rfl
   .rw[La e];exact hv x (Bb _ hx))
  refine⟨W',Hj,oR rfl (Y7 hl (hs r xb) hm) e,λx=>?_⟩
  rw[h x]
  by_cases hx:x∈rs
  .rw[Na hx,Na (Bb _ hx)]
  .rw[La hx]
   by_cases e:x=r
   .rw[Na e,Na (by rw[e];exact xb),ho,e]
   .rw[La e,La (by simp[e,hx])]
def RN{ks:List Nat}{V:Nat->Nat}{x4 x5:Option Sl}(h:∀k∈ks,V k=W k):zP S n ks V x4 x5=zP S n ks W x4 x5:=by
 unfold zP;rw[Xi λk hk=>congrArg (λx:Nat=>D.int (x:Int)) (h k hk)]
theorem IP(hl:(aN n).length<1000):∀(ms:List Nat)(V:Nat->Nat)(x4 x5:Option Sl),(∀m∈ms,m∈aN n)->∃Hj vi,Lb (ib 5) kL (ba ms) (zP S n (aN n) V x4 x5)=.ok (.nx (zP S n (aN n) (ms.foldl jE V) Hj vi))
 |[],V,x4,x5,_=>⟨x4,x5,rfl⟩
 |m::ms,V,x4,x5,hs=>by
  obtain⟨W,y4,e,h⟩:=HP (S:=S) (n:=n) (V:=V) hl (hs m xb) (aN n) V x4 (λr hr=>hr) rfl λr _=>.inl rfl
  obtain⟨z4,z5,e'⟩:=IP hl ms (jE V m) y4 (some (.v (.int m))) λx hx=>hs x (Bb _ hx)
  refine⟨z4,z5,oR rfl (oO (L:=oM) rfl e) ?_⟩;rw[RN (W:=jE V m) λk hk=>by rw[h k,Na hk]]
  exact e'
def WQ(M:Ma S rk c)(hn:n<2^S.length):lR [.lst (Sa S),.int n]=.ok (.jd false (ba (aN n)) ((aN n).map λr=>D.int (dC S c n r:Nat))):=by
 have n8:=M.most;have ii:=rC hn (by omega)
 have Ya:(aN n).length<=S.length:=lA S.length _ (fH _) λx hx=>bH hn hx
 obtain⟨x4,e1⟩:=GP (n:=n) M (aN n) [] none (fH n) λr hr=>bH hn hr
 obtain⟨y4,y5,e2⟩:=IP (S:=S) (n:=n) (by omega) (aN n) (rY S n) x4 none λm hm=>hm
 refine cB rfl (aU (st':=[some (.v (.lst (Sa S))),some (.v (.int n)),some (.v (.lst (ba (aN n)))),none,none,none]) (bU (aO rfl ii)) (aU (st':=zP S n [] (rY S n) none none) rfl (aU (oO rfl e1) (aU (oO rfl e2) ?_))));rw[RN λk hk=>W9 M hn hk]
 rfl
end
noncomputable def gM(S:List (List Nat))(c n r:Nat):Nat:=fC ((aN (dC S c n r)).filter λg=>(dC S c n g).testBit r)
def Ab(S:List (List Nat))(m:Nat):Bool:=decide (1<(aN m).length)||decide ((aN m).headD 0∈S.getD ((aN m).headD 0) [])
noncomputable def eZ(S:List (List Nat))(c n:Nat):List Nat:=(aN n).foldl (λps r=>if gM S c n r∉ps/\Ab S (gM S c n r)=true then ps++[gM S c n r] else ps) []
section
variable{S:List (List Nat)}{rk:List Nat}{c n:Nat}
def mT{n:Nat}:gM S c n r<2^S.length:=qI λg hg=>bH wO (je.mp hg).1
def X9(M:Ma S rk c) (hm:m<2^S.length) (h0:m≠0):sO [.lst (Sa S),.int m]=.ok (.bl (Ab S m)):=by
 have n8:=M.most;have ii:=rC hm (by omega)
 obtain⟨r,T,eT⟩:∃r T,aN m=r::T:=by
  cases h:aN m with
  |nil=>
   refine absurd ?_ h0;have:=lY m;rw[h]at this;exact this.symm
  |cons r T=>exact⟨r,T,rfl⟩
 rw[eT]at ii;have hr:r<S.length:=bH hm (by rw[eT];exact xb)
 refine cB rfl (aU (st':=[some (.v (.lst (Sa S))),some (.v (.int m)),some (.v (.lst (ba (r::T))))]) (bU (aO rfl ii)) (dB ?_));have ln:e1 fU (aB 2) [some (.v (.lst (Sa S))),some (.v (.int m)),some (.v (.lst (ba (r::T))))]=.ok (.int ((T.length+1:Nat):Int)):=by
  show R.ok (D.int (((ba (r::T)).length:Nat):Int))=_;rw[bD];rfl
 have v0:e2 Ta (aB 2) (eC (.int 0)) [some (.v (.lst (Sa S))),some (.v (.int m)),some (.v (.lst (ba (r::T))))]=.ok (.int r):=aP rfl rfl (iW (Pb (i:=0) (by rw[bD];exact Nat.succ_pos _)))
 have hg:S.getD r []=S[r]:=by rw[xf,Pc hr];rfl
 have t:=bKm (aP ln (rfl:eC (.int 1) _=_) (rfl:Xg _ _=_)) λ_=>aP v0 (aP (rfl:aB 0 _=.ok (.lst (Sa S))) v0 (iW (qm hr))) (qV r S[r])
 refine zA t ?_
 unfold Ab;rw[eT];show (decide ((1:Int)<((T.length+1:Nat):Int))||decide (r∈S[r]))=(decide (1<T.length+1)||decide (r∈S.getD r []))
 rw[hg];congr 1;exact Tq.mpr (by omega)
noncomputable def Vl(S:List (List Nat))(c n:Nat)(ps:List Nat)(x4 x5:Option Sl):ya:=[some (.v (.lst (Sa S))),some (.v (.int n)),some (.v (.jd false (ba (aN n)) ((aN n).map λr=>D.int (dC S c n r:Nat)))),some (.o .l (ba ps)),x4,x5,none]
def A6(M:Ma S rk c)(hn:n<2^S.length) (hr:r∈aN n) (ps:List Nat) (II:ps.length<=1000) (x5:Option Sl):∃vi,rH (Vl S c n ps (some (.v (.int r))) x5)=.ok (.nx (Vl S c n (if gM S c n r∉ps/\Ab S (gM S c n r)=true then ps++[gM S c n r] else ps) (some (.v (.int r))) vi)):=by
 have n8:=M.most;have Ve:=bH hn hr;have hrb:=aR.mp hr;have ii:=rC (wO (S:=S) (c:=c) (n:=n) (r:=r)) (by omega)
 have Lf:∀g∈aN (dC S c n r),g∈aN n:=λg hg=>aR.mpr (bt (al:=λg=>n.testBit g) hrb ((fV M Ve g).mp (aR.mp hg)))
 have gk:∀{g:Nat},g∈aN n->uK (ba (aN n)) ((aN n).map λr=>D.int (dC S c n r:Nat)) (.int g)=some (.int (dC S c n g:Nat)):=λ{g} h=>wQ (λr=>D.int (dC S c n r:Nat)) h
 have Ya:(aN (dC S c n r)).length<=S.length:=lA S.length _ (fH _) λx hx=>bH wO hx
 have ce:=oU (tg:=ib 6) (C:=yS) (E:=yR) (st:=Vl S c n ps (some (.v (.int r))) x5) (q:=λg=>(dC S c n g).testBit r) (G:=λg=>.int g) (aN (dC S c n r)) (λg hg=>⟨_,rfl,aO (aW (aP rfl rfl (Fs (gk (Lf g hg)))) rfl) (Up (dC S c n g) r),rfl⟩)
 have hi:Fc (aK cT (aA (e2 Ta (aB 2) (aB 4)) aL)) (Vl S c n ps (some (.v (.int r))) x5)=.ok (ba (aN (dC S c n r))):=rW (aO (aW (aP rfl rfl (Fs (gk hr))) rfl) ii);have qv:=nG (is:=[6]) hi (by rw[bD];omega) ce
 have hbi:lQ [.lst (ba ((aN (dC S c n r)).filter λg=>(dC S c n g).testBit r))]=.ok (.int (gM S c n r)):=Bx (λg hg=>by have:=bH wO (je.mp hg).1;omega) (by have:=kG (λg=>(dC S c n g).testBit r) (aN (dC S c n r));omega)
 have Ee:gM S c n r≠0:=λz=>by
  have:(gM S c n r).testBit r=true:=by
   unfold gM;rw[gF,Ff,je];have h0:(dC S c n r).testBit r=true:=(fV M Ve r).mpr .here;exact⟨aR.mpr h0,h0⟩
  rw[z,dr]at this;cases this
 have yr:=X9 M (mT (S:=S) (c:=c) (n:=n) (r:=r)) Ee;obtain⟨p1,p2,_⟩:=jK ps;refine⟨some (.v (.int (gM S c n r))),aU (st':=Vl S c n ps (some (.v (.int r))) (some (.v (.int (gM S c n r))))) (bU (aO (aW qv rfl) hbi)) ?_⟩;have t:=AE (st:=Vl S c n ps (some (.v (.int r))) (some (.v (.int (gM S c n r))))) (aP (f:=aB 5) (g:=eO 3) rfl rfl (show tL (.int (gM S c n r)) (.lst (ba ps))=.ok (.bl (!decide (gM S c n r∈ps))) by rw[<-Ds];exact aD ⟨by rw[p2];exact Dg 60,rfl,p1⟩)) λ_=>aO (r:=aA (aB 0) (aA (aB 5) aL)) rfl yr
 by_cases h:gM S c n r∉ps/\Ab S (gM S c n r)=true
 .rw[Na h];refine zh (zA t (by rw[Cd h.1,h.2];rfl)) ?_
  rw[Rp (xs:=ba ps) (d:=.int (gM S c n r)) rfl rfl (by rw[bD];omega),<-Ur]
  rfl
 .rw[La h];refine tX (zA t ?_) rfl;cases h1:Ab S (gM S c n r) with
  |false=>rw[Bool.and_false]
  |true=>rw[Ld (Zk λz=>h ⟨z,h1⟩)];rfl
theorem SN(M:Ma S rk c)(hn:n<2^S.length):∀(rs:List Nat)(ps:List Nat)(x4 x5:Option Sl),(∀r∈rs,r∈aN n)->ps.length+rs.length<=1000->∃Hj vi,Lb (ib 4) rH (ba rs) (Vl S c n ps x4 x5)=.ok (.nx (Vl S c n (rs.foldl (λps r=>if gM S c n r∉ps/\Ab S (gM S c n r)=true then ps++[gM S c n r] else ps) ps) Hj vi))
 |[],ps,x4,x5,_,_=>⟨x4,x5,rfl⟩
 |r::rs,ps,x4,x5,h,hl=>by
  rw[Qd]at hl;obtain⟨vi,e1⟩:=A6 M hn (h r xb) ps (by omega) x5
  obtain⟨y4,y5,e2⟩:=SN M hn rs (if gM S c n r∉ps/\Ab S (gM S c n r)=true then ps++[gM S c n r] else ps) (some (.v (.int r))) vi (λr hr=>h r (Bb _ hr)) (by
   split
   .rw[we,Ci];omega
   .omega)
  exact⟨y4,y5,oR rfl e1 e2⟩
def M5(M:Ma S rk c)(hn:n<2^S.length):qC [.lst (Sa S),.int n]=.ok (.lst (ba (eZ S c n))):=by
 have n8:=M.most;have ii:=rC hn (by omega)
 have Ya:(aN n).length<=S.length:=lA S.length _ (fH _) λx hx=>bH hn hx
 obtain⟨y4,y5,e⟩:=SN M hn (aN n) [] none none (λ_ h=>h) (by simp;omega)
 exact cB rfl (aU (bU (aO rfl (WQ M hn))) (aU (st':=Vl S c n [] none none) (qH (fQ rfl)) (aU (oO (rW (aO rfl ii)) e) rfl)))
def RC(M:Ma S rk c)(hn:n<2^S.length):lU [mD S rk c,.int n]=.ok (.lst (ba (eZ S c n))):=
 cB rfl (dB (aO (aW (show jN "Machine" "steps" (mD S rk c)=_ from pR) rfl) (M5 M hn)))
end
section
variable{S:List (List Nat)}{rk:List Nat}{c n:Nat}
def TN:jN "Machine" "ranks" (mD S rk c)=.ok (.lst (ba rk)):=by unfold mD;rw[zZ,aD rfl];rfl
theorem Dx:∀(l m:List Nat),jT (ba l) (ba m)=decide (l=m)
 |[],[]=>by simp[ba,jT]
 |[],y::m=>by simp[ba,jT]
 |x::l,[]=>by simp[ba,jT]
 |x::l,y::m=>by
  rw[zC,zC];unfold jT;rw[Dx l m]
  by_cases h:x=y
  .subst h;simp[bc]
  .have:¬ (x:Int)=(y:Int):=by omega
   simp[bc,h,this]
def qc.mono{Cm:Nat->Bool}(m:∀g,al g=true->Cm g=true){a b:Nat}(h:qc S c al a b):qc S c Cm a b:=by
 induction h with
 |here=>exact .here
 |on _ hl ha ih=>exact .on ih hl (m _ ha)
def Bf(n:Nat):Nat->Bool:=λg=>n.testBit g
def yg(S:List (List Nat))(c n a b:Nat):Prop:=qc S c (Bf n) a b/\qc S c (Bf n) b a
def lZ(M:Ma S rk c){g:Nat}(hr:r<S.length):(gM S c n r).testBit g=true↔yg S c n r g:=by
 unfold gM;rw[gF,Ff,je,aR,fV M hr];constructor
 .rintro⟨h1,h2⟩;exact⟨h1,(fV M (Ln M hr h1) r).mp h2⟩
 .rintro⟨h1,h2⟩;exact⟨h1,(fV M (Ln M hr h1) r).mpr h2⟩
def XQ(M:Ma S rk c){g:Nat}(hr:r<S.length)(h:qc S c (Bf n) r g)(hb:qc S c (Bf n) g r):qc S c (Bf (gM S c n r)) r g:=by
 induction h with
 |here=>exact .here
 |on h1 hl ha ih=>
  rename_i y l;have hy:qc S c (Bf n) y r:=qc.trans (.on .here hl ha) hb;exact .on (ih hy) hl ((lZ M hr).mpr ⟨.on h1 hl ha,hb⟩)
def yg.symm{a b:Nat}(h:yg S c n a b):yg S c n b a:=⟨h.2,h.1⟩
theorem yg.trans{a b d:Nat}(h1:yg S c n a b)(h2:yg S c n b d):yg S c n a d:=⟨qc.trans h1.1 h2.1,qc.trans h2.2 h1.2⟩
def YQ(M:Ma S rk c){g:Nat}(hr:r<S.length)(h:yg S c n r g):gM S c n g=gM S c n r:=gu λx=>by
 have hg:=Ln M hr h.1;have e:(gM S c n g).testBit x=true↔(gM S c n r).testBit x=true:=by
  rw[lZ M hg,lZ M hr];exact⟨λz=>h.trans z,λz=>h.symm.trans z⟩
 cases h1:(gM S c n g).testBit x with
 |true=>exact(e.mp h1).symm
 |false=>
  cases h2:(gM S c n r).testBit x with
  |true=>rw[e.mpr h2]at h1;cases h1
  |false=>rfl
def Oc(S:List (List Nat))(c n:Nat):Prop:=n≠0/\(∀a∈aN n,∀b∈aN n,qc S c (Bf n) a b)/\Ab S n=true
theorem ZQ(f:Nat->Nat)(q:Nat->Bool):∀(rs ps:List Nat)(m:Nat),m∈rs.foldl (λps r=>if f r∉ps/\q (f r)=true then ps++[f r] else ps) ps↔m∈ps\/∃r∈rs,f r=m/\q m=true
 |[],ps,m=>by simp
 |r::rs,ps,m=>by
  rw[Mm,ZQ f q rs]
  by_cases h:f r∉ps/\q (f r)=true
  .rw[Na h];constructor
   .rintro(h1|⟨r',h1,h2⟩)
    .rcases Ed.mp h1 with h1|h1
     .exact .inl h1
     .rw[cc]at h1;exact .inr ⟨r,xb,h1.symm,by rw[h1];exact h.2⟩
    .exact .inr ⟨r',Bb _ h1,h2⟩
   .rintro(h1|⟨r',h1,h2,h3⟩)
    .exact .inl (Dd _ h1)
    .rcases Nb.mp h1 with rfl|h1
     .exact .inl (Zc _ (by rw[h2];simp))
     .exact .inr ⟨r',h1,h2,h3⟩
  .rw[La h];constructor
   .rintro(h1|⟨r',h1,h2⟩)
    .exact .inl h1
    .exact .inr ⟨r',Bb _ h1,h2⟩
   .rintro(h1|⟨r',h1,h2,h3⟩)
    .exact .inl h1
    .rcases Nb.mp h1 with rfl|h1
     .refine .inl (Zk λz=>h ⟨by rw[h2];exact z,by rw[h2];exact h3⟩)
     .exact .inr ⟨r',h1,h2,h3⟩
def wR:m∈eZ S c n↔∃r∈aN n,gM S c n r=m/\Ab S m=true:=by
 unfold eZ;rw[ZQ (λr=>gM S c n r) (Ab S)]
 simp
theorem eR(f:Nat->Nat)(q:Nat->Bool)(m:Nat):∀(rs:List Nat),(∀r∈rs,f r=m)->rs.foldl (λps r=>if f r∉ps/\q (f r)=true then ps++[f r] else ps) [m]=[m]
 |[],_=>rfl
 |r::rs,h=>by
  rw[Mm,La λz=>z.1 (by rw[h r xb];simp)]
  exact eR f q m rs λr hr=>h r (Bb _ hr)
def Χ(M:Ma S rk c) (hn:n<2^S.length) (hr:r∈aN n) {g:Nat} (hg:g∈aN (gM S c n r)):g∈aN n:=by
 have h:=(lZ M (bH hn hr)).mp (aR.mp hg);exact aR.mpr (bt (al:=Bf n) (aR.mp hr) h.1)
def Y9(M:Ma S rk c) (hn:n<2^S.length) (hr:r∈aN n):r∈aN (gM S c n r):=aR.mpr ((lZ M (bH hn hr)).mpr ⟨.here,.here⟩)
def Z7(M:Ma S rk c)(hn:n<2^S.length):eZ S c n=[n]↔Oc S c n:=by
 constructor
 .intro h;have hm:n∈eZ S c n:=by rw[h];simp
  obtain⟨r,hr,e,hq⟩:=wR.mp hm;have Ve:=bH hn hr;refine⟨(λz=>by rw[z]at hr;rw[aR,dr]at hr;cases hr),λa ha b hb=>?_,hq⟩
  have Eg:=(lZ (n:=n) M Ve).mp (by rw[e];exact aR.mp ha)
  have uf:=(lZ (n:=n) M Ve).mp (by rw[e];exact aR.mp hb)
  exact qc.trans Eg.2 uf.1
 .rintro⟨h0,hs,hq⟩;have all:∀r∈aN n,gM S c n r=n:=λr hr=>gu λg=>by
   have e:(gM S c n r).testBit g=true↔n.testBit g=true:=by
    rw[lZ M (bH hn hr)];constructor
    .exact λz=>bt (al:=Bf n) (aR.mp hr) z.1
    .exact λz=>⟨hs r hr g (aR.mpr z),hs g (aR.mpr z) r hr⟩
   cases h1:(gM S c n r).testBit g with
   |true=>exact(e.mp h1).symm
   |false=>
    cases h2:n.testBit g with
    |true=>rw[e.mpr h2]at h1;cases h1
    |false=>rfl
  unfold eZ;cases h:aN n with
  |nil=>
   refine absurd ?_ h0;have:=lY n;rw[h]at this;exact this.symm
  |cons r T=>
   rw[h]at all;have er:=all r xb;rw[Mm,Na ⟨by simp,by rw[er];exact hq⟩,er,Gu]
   exact eR (λr=>gM S c n r) (Ab S) n T λr hr=>all r (Bb _ hr)
def b8(M:Ma S rk c) (hn:n<2^S.length) (hr:r∈aN n) (hq:Ab S (gM S c n r)=true):Oc S c (gM S c n r):=by
 have Ve:=bH hn hr;refine⟨(λz=>by have:=Y9 M hn hr;rw[z,aR,dr]at this;cases this),λa ha b hb=>?_,hq⟩
 have Eg:=(lZ M Ve).mp (aR.mp ha);have uf:=(lZ M Ve).mp (aR.mp hb);have Kl:=Ln M Ve Eg.1;have h1:=XQ (n:=n) M Kl Eg.2 Eg.1;rw[YQ M Ve Eg]at h1;exact qc.trans h1 (XQ M Ve uf.1 uf.2)
def Ψ(M:Ma S rk c){m:Nat}(hn:n<2^S.length)(hm:Oc S c m)(hs:∀g∈aN m,g∈aN n)(hr:r∈aN m):∀g∈aN m,g∈aN (gM S c n r):=λg hg=>by
 have up:∀{a b:Nat},qc S c (Bf m) a b->qc S c (Bf n) a b:=λh=>qc.mono (λg hg=>aR.mp (hs g (aR.mpr hg))) h
 exact aR.mpr ((lZ M (bH hn (hs r hr))).mpr ⟨up (hm.2.1 r hr g hg),up (hm.2.1 g hg r hr)⟩)
end
def oT{l:List Int}(h:l≠[]):Sg l∈l/\∀x∈l,x<=Sg l:=by
 cases l with
 |nil=>exact(h rfl).elim
 |cons i r=>
  obtain⟨h1,h2,h3⟩:=Gw r i;refine⟨?_,λx hx=>?_⟩
  .rcases h3 with h3|h3
   .show r.foldl _ i∈_;rw[h3];exact xb
   .exact Bb _ h3
  .rcases Nb.mp hx with rfl|hx
   .exact h1
   .exact h2 x hx
section
variable{S:List (List Nat)}{rk:List Nat}{c n:Nat}
def tZ(rk:List Nat)(n:Nat):Int:=Sg ((aN n).map λr=>(rk.getD r 0:Int))
def rV(M:Ma S rk c)(hn:n<2^S.length)(h0:n≠0):tU [mD S rk c,.int n]=.ok (.int (tZ rk n)):=by
 have n8:=M.most;have ii:=rC hn (by omega)
 have Ya:(aN n).length<=S.length:=lA S.length _ (fH _) λx hx=>bH hn hx
 have HI:0<(aN n).length:=by
  cases h:aN n with
  |nil=>
   refine absurd ?_ h0;have:=lY n;rw[h]at this;exact this.symm
  |cons r T=>simp
 have ce:=wM (tg:=ib 2) (c:=cH) (f:=sS) (st:=[some (.v (mD S rk c)),some (.v (.int n)),none]) (λd=>match d with|.int i=>.int (rk.getD i.toNat 0:Nat)|d=>d) (ba (aN n)) λd hd=>by
  obtain⟨r,hr,rfl⟩:=Qw hd;have Pe:r<rk.length:=by rw[M.Jr];exact bH hn hr
  have ea:Wb (ba rk) (r:Int)=some (.int (rk.getD r 0:Nat)):=by
   rw[Pb (by rw[bD];exact Pe)]
   simp[ba,getD_eq_getElem?_getD,List.getElem?_eq_getElem Pe]
  refine⟨_,rfl,rfl,?_⟩;simp[sS,TN,ea]
 have em:(ba (aN n)).map (λd=>match d with|.int i=>D.int (rk.getD i.toNat 0:Nat)|d=>d)=((aN n).map λr=>(rk.getD r 0:Int)).map D.int:=by
  unfold ba;simp[Function.comp_def]
 rw[em]at ce;have hc:dI [2] (ib 2) (Fc (aK cT (aA (aB 1) aL))) cH sS [some (.v (mD S rk c)),some (.v (.int n)),none]=.ok (.lst (((aN n).map λr=>(rk.getD r 0:Int)).map D.int)):=by
  have hi:Fc (aK cT (aA (aB 1) aL)) [some (.v (mD S rk c)),some (.v (.int n)),none]=.ok (ba (aN n)):=by simp[ii]
  rw[NC,hi];simp only[aG,bD];rw[aD (dR (by omega)),show ae [2] [some (Sl.v (mD S rk c)),some (.v (.int n)),none]=[some (.v (mD S rk c)),some (.v (.int n)),none] from rfl,ce]
  rfl
 refine cB rfl ?_
 unfold HB;have h0':¬ (n:Int)=0:=by omega
 refine gZ (by simp[h0',h0]) ?_
 show cZ _ [some (.v (mD S rk c)),some (.v (.int n)),none]=_;rw[xQ,bK1,hc];have hm:Qn (.lst (((aN n).map λr=>(rk.getD r 0:Int)).map D.int))=.ok (.int (tZ rk n)):=by
  show (tQ _).bind _=_;rw[tE,aG,aD (by rw[uc];exact HI)]
  rfl
 rw[aG,hm];rfl
end
section
def B6(M:Ma S rk c)(hn:n<2^S.length):wI [mD S rk c,.int n]=.ok (.bl (decide (eZ S c n=[n]))):=by
 have e:=RC M hn;obtain⟨p1,p2,_⟩:=jK (eZ S c n);have h:=Dx (eZ S c n) [n];refine cB rfl ?_
 unfold sC;have e1:[D.int (n:Int)]=ba [n]:=rfl;simp[e,p1,p2];rw[e1,h]
end
section
def Ω(M:Ma S rk c)(hn:n<2^S.length)(h0:n≠0):gW [mD S rk c,.int n]=.ok (.bl (decide (tZ rk n%2=0))):=by
 have e:=rV M hn h0;refine cB rfl ?_
 unfold oC
 by_cases h:tZ rk n%2=0
 .simp[e,h]
 .simp[e,h]
end
def lr(al:Nat->Bool)(qa:List (Nat×List Nat))(g:Nat)(w:List Nat):List (Nat×List Nat):=if al g=true/\g∉qa.map (·.1) then qa++[(g,w)] else qa
structure BM(S:List (List Nat))(s c:Nat)(al:Nat->Bool)(p j:Nat)(qa:List (Nat×List Nat)):Prop where
 nd:(qa.map (·.1)).Nodup
 hd:s∈qa.map (·.1)
 lt:∀x∈qa,x.1<S.length/\vf c x.2
 uh:∀(k:Nat)(x:Nat×List Nat),qa[k]?=some x->x.2.length<=k
 cls:∀(i:Nat)(x:Nat×List Nat)(l:Nat),qa[i]?=some x->l<c->(i<p\/(i=p/\l<j))->al (Mb S x.1 l)=true->Mb S x.1 l∈qa.map (·.1)
section
variable{S:List (List Nat)}{rk:List Nat}{s c p j:Nat}{al:Nat->Bool}{qa:List (Nat×List Nat)}
def BM.start(hs:s<S.length):BM S s c al 0 0 [(s,[])] where
 nd:=by simp
 hd:=by simp
 lt:=λx hx=>by rw[cc.mp hx];exact⟨hs,λ_ h=>nomatch h⟩
 uh:=λk x hx=>by
  have:=Uh hx;rw[cc.mp this];exact Dg _
 cls:=λi x l _ _ h=>by omega
def BM.next(b:BM S s c al p c qa):BM S s c al (p+1) 0 qa:=⟨b.nd,b.hd,b.lt,b.uh,λi x l h1 h2 h3=>b.cls i x l h1 h2 (by omega)⟩
def BM.turn(M:Ma S rk c)(b:BM S s c al p j qa){x:Nat×List Nat}(hx:qa[p]?=some x)(hj:j<c):BM S s c al p (j+1) (lr al qa (Mb S x.1 j) (x.2++[97+j])):=by
 have hp:=(Kd.mp hx).1;obtain⟨x1,x2⟩:=b.lt x (Uh hx);unfold lr
 by_cases h:al (Mb S x.1 j)=true/\Mb S x.1 j∉qa.map (·.1)
 .rw[Na h];obtain⟨_,_,_,hs⟩:=xX M x1 hj;refine⟨?_,by rw[Hf];exact Dd _ b.hd,λy hy=>?_,λk y hy=>?_,λi y l hy hl hi ha=>?_⟩
  .rw[Hf];exact Yi.mpr ⟨b.nd,by simp,λu hu v hv e=>h.2 (by
    rw[List.map_singleton,cc]at hv;have hv:v=Mb S x.1 j:=hv;rw[<-hv,<-e];exact hu)⟩
  .rcases Ed.mp hy with hy|hy
   .exact b.lt y hy
   .rw[cc.mp hy];refine⟨hs,λz hz=>?_⟩
    rcases Ed.mp hz with hz|hz
    .exact x2 z hz
    .rw[cc.mp hz];exact⟨by omega,by omega⟩
  .by_cases hk:k<qa.length
   .rw[Vi hk]at hy;exact b.uh k y hy
   .have Ol:=Uh hy;have hw:=b.uh p x hx;rw[bu (by omega)]at hy
    rw[cc.mp (Uh hy),we,Ci];omega
  .rw[Hf];have Oe:i<qa.length:=by omega
   rw[Vi Oe]at hy
   by_cases hn:i=p/\l=j
   .obtain⟨rfl,rfl⟩:=hn;rw[hx]at hy;cases hy;exact Zc _ (by simp)
   .exact Dd _ (b.cls i y l hy hl (by omega) ha)
 .rw[La h];refine⟨b.nd,b.hd,b.lt,b.uh,λi y l hy hl hi ha=>?_⟩
  by_cases hn:i=p/\l=j
  .obtain⟨rfl,rfl⟩:=hn;rw[hx]at hy;cases hy;exact Zk λz=>h ⟨ha,z⟩
  .exact b.cls i y l hy hl (by omega) ha
def BM.whole(b:BM S s c al qa.length 0 qa){g:Nat}(h:qc S c al s g):g∈qa.map (·.1):=by
 induction h with
 |here=>exact b.hd
 |on _ hl ha ih=>
  obtain⟨x,hx,rfl⟩:=Rc.mp ih;obtain⟨i,hi⟩:=Em.mp hx;exact b.cls i x _ hi hl (.inl (Kd.mp hi).1) ha
def BM.len(b:BM S s c al p j qa):qa.length<=S.length:=by
 have h:=b.nd;have Rb:∀x∈qa.map (·.1),x∈List.range S.length:=λx hx=>by
  obtain⟨y,hy,rfl⟩:=Rc.mp hx;exact Qc.mpr (b.lt y hy).1
 have:=lA S.length (qa.map (·.1)) h λx hx=>Qc.mp (Rb x hx)
 rwa [uc]at this
def kD(qa:List (Nat×List Nat)):List D:=qa.map λx=>D.int (x.1:Nat)
def Yx(qa:List (Nat×List Nat)):(kD qa).length=qa.length:=by unfold kD;simp
def AV(qa:List (Nat×List Nat))(g:Nat)(w:List Nat):kD (qa++[(g,w)])=kD qa++[.int g]:=by unfold kD;simp
def bKr{k:Nat}{x:Nat×List Nat}(h:qa[k]?=some x):Wb (kD qa) (k:Int)=some (.int x.1):=by
 have hk:=(Kd.mp h).1;rw[Pb (by rw[Yx];exact hk)]
 unfold kD;rw[NG,(Kd.mp h).2]
def bH1{g:Nat}{w:List Nat}{k:Nat}{x:Nat×List Nat}(h:qa[k]?=some x):(lr al qa g w)[k]?=some x:=by
 unfold lr;split
 .rw[Vi (Kd.mp h).1];exact h
 .exact h
def DE(g:Nat)(qa:List (Nat×List Nat)):oH (kD qa) (.int g)=decide (g∈qa.map (·.1)):=by
 unfold oH kD;rw[br]
 by_cases h:g∈qa.map (·.1)
 .rw[Ld h,Al];obtain⟨x,hx,e⟩:=Rc.mp h;exact⟨x,hx,by simp[Sd,e]⟩
 .rw[Cd h,tu];intro x hx;have:¬ (x.1:Int)=(g:Int):=λz=>h (Rc.mpr ⟨x,hx,by omega⟩)
  simp[Sd,this]
end
def wD(qa:List (Nat×List Nat)):List D:=qa.map λx=>D.str x.2
def BV(nd:(qa.map (·.1)).Nodup){x:Nat×List Nat}(hx:x∈qa):uK (kD qa) (wD qa) (.int x.1)=some (.str x.2):=by
 unfold uK kD wD;rw[XG,List.find?_map];have:qa.find? ((λp:D×D=>Sd p.1 (.int x.1)) ∘ λa=>(D.int (a.1:Nat),D.str a.2))=some x:=by
  induction qa with
  |nil=>cases hx
  |cons y qa ih=>
   rw[List.find?_cons];rw[wc,Gf]at nd;rcases Nb.mp hx with rfl|hx
   .simp[Sd]
   .have:¬ (y.1:Int)=(x.1:Int):=λz=>nd.1 (Rc.mpr ⟨x,hx,by omega⟩)
    simp only[Function.comp,Sd,beq_eq_false_iff_ne.mpr this];exact ih nd.2 hx
 rw[this];rfl
section
variable{S:List (List Nat)}{rk:List Nat}{s c p j:Nat}{al:Nat->Bool}{qa:List (Nat×List Nat)}
def Rf(S:List (List Nat))(s:Nat)(Mc:List Nat)(qa:List (Nat×List Nat))(p:Nat)(x6 x7 x8:Option Sl):ya:=
 [some (.v (.lst (Sa S))),some (.v (.int s)),some (.v (.lst (ba Mc))),some (.o (.d false (kD qa)) (wD qa)),some (.o .l (kD qa)),some (.v (.int p)),x6,x7,x8]
def bH2(qa:List (Nat×List Nat)):(wD qa).length=qa.length:=by unfold wD;simp
def bH3(qa:List (Nat×List Nat))(g:Nat)(w:List Nat):wD (qa++[(g,w)])=wD qa++[.str w]:=by unfold wD;simp
def d8(M:Ma S rk c)(Mc:List Nat)(b:BM S s c (λg=>decide (g∈Mc)) p j qa){x:Nat×List Nat}(hx:qa[p]?=some x)(ch g:Nat) :
  qF (Rf S s Mc qa p (some (.v (.int x.1))) (some (.v (.str [ch]))) (some (.v (.int g))))=.ok (.nx (Rf S s Mc (lr (λg=>decide (g∈Mc)) qa g (x.2++[ch])) p (some (.v (.int x.1))) (some (.v (.str [ch]))) (some (.v (.int g))))):=by
 have n8:=M.most;have Ya:=b.len;have hw:=b.uh p x hx;have hp:p<qa.length:=(Kd.mp hx).1;obtain⟨p1,p2,_⟩:=jK Mc;have t1:e2 nr (aB 8) (aB 2) (Rf S s Mc qa p (some (.v (.int x.1))) (some (.v (.str [ch]))) (some (.v (.int g))))=.ok (.bl (decide (g∈Mc))):=aP rfl rfl (by rw[<-Ds];exact aD ⟨by rw[p2];decide,rfl,p1⟩)
 have t2:e2 tL (aB 8) (eO 3) (Rf S s Mc qa p (some (.v (.int x.1))) (some (.v (.str [ch]))) (some (.v (.int g))))=.ok (.bl (!decide (g∈qa.map (·.1)))):=aP rfl rfl (by rw[<-DE];exact aD rfl)
 have t:=AE t1 λ_=>t2
 unfold lr
 by_cases h:decide (g∈Mc)=true/\g∉qa.map (·.1)
 .rw[Na h];rw[h.1,Cd h.2]at t;have hk:oH (kD qa) (.int g)=false:=by rw[DE,Cd h.2]
  have ek:oJ (kD qa) (.int g)=kD (qa++[(g,x.2++[ch])]):=by
   unfold oJ;rw[hk,AV];rfl
  have ev:rR (kD qa) (wD qa) (.int g) (.str (x.2++[ch]))=wD (qa++[(g,x.2++[ch])]):=by
   unfold rR;rw[hk,bH3];rfl
  refine zh t (aU (st':=[some (.v (.lst (Sa S))),some (.v (.int s)),some (.v (.lst (ba Mc))),some (.o (.d false (kD (qa++[(g,x.2++[ch])]))) (wD (qa++[(g,x.2++[ch])]))),some (.o .l (kD qa)),some (.v (.int p)),some (.v (.int x.1)),some (.v (.str [ch])),some (.v (.int g))]) ?_ ?_)
  .have e:e2 gP (e2 Ta (eO 3) (aB 6)) (aB 7) (Rf S s Mc qa p (some (.v (.int x.1))) (some (.v (.str [ch]))) (some (.v (.int g))))=.ok (.str (x.2++[ch])):=by
    refine aP (x:=.str x.2) (y:=.str [ch]) (aP rfl rfl ?_) rfl (aD (dR (by show x.2.length+1<=_;omega)))
    show aV (Fb false (.int x.1)=true) (Xc (uK (kD qa) (wD qa) (.int x.1)))=_;rw[aD (c:=Fb false (.int x.1)=true) rfl,BV b.nd (Uh hx)];rfl
   unfold Vd;rw[e,<-ek,<-ev];exact aD ⟨rfl,Jn (by rw[bH2];omega)⟩
  .rw[Rp (xs:=kD qa) (d:=.int g) rfl rfl (by rw[Yx];omega),<-AV qa g (x.2++[ch])]
   rfl
 .rw[La h];refine tX (zA t ?_) rfl;cases h1:decide (g∈Mc) with
  |false=>rfl
  |true=>rw[Ld (Zk λz=>h ⟨h1,z⟩)];rfl
theorem UN(M:Ma S rk c)(Mc:List Nat):∀(m j:Nat) (qa:List (Nat×List Nat)) (x7 x8:Option Sl) (x:Nat×List Nat),j+m=c->BM S s c (λg=>decide (g∈Mc)) p j qa->qa[p]?=some x->
  ∃Wd jm km,Lb (Nr [7,8]) qF ((List.range' j m).map λl=>D.tup [.str [97+l],.int (Mb S x.1 l)]) (Rf S s Mc qa p (some (.v (.int x.1))) x7 x8)=.ok (.nx (Rf S s Mc Wd p (some (.v (.int x.1))) jm km))/\BM S s c (λg=>decide (g∈Mc)) p c Wd/\Wd[p]?=some x
 |0,j,qa,x7,x8,x,hj,b,hx=>⟨qa,x7,x8,rfl,by rw[show c=j by omega]at b ⊢; exact b,hx⟩
 |m+1,j,qa,x7,x8,x,hj,b,hx=>by
  obtain⟨Wd,jm,km,e,b',vj⟩:=UN M Mc m (j+1) _ (some (.v (.str [97+j]))) (some (.v (.int (Mb S x.1 j)))) x (by omega) (b.turn M hx (by omega)) (bH1 hx)
  refine⟨Wd,jm,km,?_,b',vj⟩;rw[Cz,wc,wC];show (qF (Rf S s Mc qa p (some (.v (.int x.1))) (some (.v (.str [97+j]))) (some (.v (.int (Mb S x.1 j)))))).bind _=_;rw[d8 M Mc b hx];exact e
def ϊ(M:Ma S rk c){h:Nat}(hh:h<S.length):yh [97,98,99] (ba S[h])=(List.range' 0 c).map λl=>D.tup [.str [97+l],.int (Mb S h l)]:=by
 have hr:=(M.row S[h] (Wf hh)).1;have e:∀l,Mb S h l=S[h].getD l 0:=λl=>by simp[Mb,getD_eq_getElem?_getD,List.getElem?_eq_getElem hh]
 have h1:=M.c1;have h3:=M.c3;simp only[e];generalize S[h]=r at hr
 match r,hr with
 |[],hr=>simp at hr;omega
 |[a],hr=>subst hr;rfl
 |[a,b],hr=>subst hr;rfl
 |[a,b,d],hr=>subst hr;rfl
 |_::_::_::_::r,hr=>simp at hr;omega
theorem VN(M:Ma S rk c)(Mc:List Nat):∀(m p:Nat) (qa:List (Nat×List Nat)) (x6 x7 x8:Option Sl) (f:Nat),S.length+1<=m+p->m<=f->BM S s c (λg=>decide (g∈Mc)) p 0 qa->p<=qa.length->
  ∃Wd x6' jm km,jU vJ PL f (Rf S s Mc qa p x6 x7 x8)=.ok (.nx (Rf S s Mc Wd Wd.length x6' jm km))/\BM S s c (λg=>decide (g∈Mc)) Wd.length 0 Wd
 |0,p,qa,x6,x7,x8,f,hm,hf,b,hp=>by have:=b.len;omega
 |m+1,p,qa,x6,x7,x8,f,hm,hf,b,hp=>by
  obtain⟨f,rfl⟩:∃g,f=g+1:=⟨f-1,by omega⟩
  have test:vJ (Rf S s Mc qa p x6 x7 x8)=.ok (.bl (decide ((p:Int)<((kD qa).length:Nat)))):=aP rfl rfl rfl;rw[Yx]at test
  by_cases h:p<qa.length
  .have hx:qa[p]?=some qa[p]:=Pc h;generalize qa[p]=x at hx;obtain⟨l1,_⟩:=b.lt x (Uh hx);obtain⟨Wd,jm,km,e,b',vj⟩:=UN M Mc c 0 qa x7 x8 x (by omega) b hx
   have hp':p<Wd.length:=(Kd.mp vj).1;obtain⟨vF,y6,y7,y8,ew,b3⟩:=VN M Mc m (p+1) Wd (some (.v (.int x.1))) jm km f (by omega) (by omega) b'.next (by omega)
   refine⟨vF,y6,y7,y8,Nw (zA test (OX h)) (st':=Rf S s Mc Wd (p+1) (some (.v (.int x.1))) jm km) ?_ ew,b3⟩;refine aU (st':=Rf S s Mc qa p (some (.v (.int x.1))) x7 x8) (bU (aP rfl rfl (iW (bKr hx)))) (aU (st':=Rf S s Mc Wd p (some (.v (.int x.1))) jm km) (oO (xs:=yh [97,98,99] (ba S[x.1])) ?_ ?_) (bU rfl))
   .show ((e2 Ta (aB 0) (aB 6)) (Rf S s Mc qa p (some (.v (.int x.1))) x7 x8)).bind _=_;rw[aP (rfl:aB 0 (Rf S s Mc qa p (some (.v (.int x.1))) x7 x8)=.ok (.lst (Sa S))) rfl (iW (qm l1))];rfl
   .rw[ϊ M l1];exact e
  .have:p=qa.length:=by omega
   subst this;exact⟨qa,x6,x7,x8,wN (zA test (PX h)),b⟩
def pT(M:Ma S rk c){s:Nat}(hs:s<S.length)(Mc:List Nat):∃qa,qZ [.lst (Sa S),.int s,.lst (ba Mc)]=.ok (.jd false (kD qa) (wD qa))/\BM S s c (λg=>decide (g∈Mc)) qa.length 0 qa:=by
 have n8:=M.most;obtain⟨qa,x6,x7,x8,e,b⟩:=VN M Mc (S.length+1) 0 [(s,[])] none none none 100000 (by omega) (by omega) (BM.start hs) (by simp)
 refine⟨qa,cB rfl ?_,b⟩;unfold YA;refine aU (st':=[some (.v (.lst (Sa S))),some (.v (.int s)),some (.v (.lst (ba Mc))),some (.o (.d false (kD [(s,[])])) (wD [(s,[])])),none,none,none,none,none]) (by simp[xE,Ot,atom,kD,wD]) ?_
 refine aU (st':=[some (.v (.lst (Sa S))),some (.v (.int s)),some (.v (.lst (ba Mc))),some (.o (.d false (kD [(s,[])])) (wD [(s,[])])),some (.o .l (kD [(s,[])])),none,none,none,none]) (by simp[kD]) ?_
 refine aU (st':=Rf S s Mc [(s,[])] 0 none none none) (by simp[Rf]) ?_
 refine aU (st':=Rf S s Mc qa qa.length x6 x7 x8) (by rw[R7];exact e) ?_
 simp[Rf,qp]
end
def sk(qa:List (Nat×List Nat)):List D:=qa.map λx=>D.tup [.int (x.1:Nat),.str x.2]
theorem CV:∀qa:List (Nat×List Nat),List.zipWith (λk d=>D.tup [k,d]) (kD qa) (wD qa)=sk qa
 |[]=>rfl
 |x::l=>congrArg (D.tup [.int (x.1:Nat),.str x.2] :: ·) (CV l)
def ϋ(qa:List (Nat×List Nat)):(sk qa).length=qa.length:=by unfold sk;rw[uc]
section
variable{S:List (List Nat)}{rk:List Nat}{c:Nat}{qa:List (Nat×List Nat)}
abbrev bMx(S:List (List Nat))(c:Nat)(qa:List (Nat×List Nat)):Prop:=BM S 0 c (λg=>decide (g∈List.range S.length)) qa.length 0 qa
def C6(M:Ma S rk c):∃qa,jP [mD S rk c]=.ok (.lst (sk qa))/\bMx S c qa:=by
 have n8:=M.most;obtain⟨qa,e,b⟩:=pT M (show 0<S.length from M.one) (List.range S.length)
 have hl:=b.len;refine⟨qa,cB rfl ?_,b⟩;have h1:lV [some (.v (mD S rk c)),none]=.ok (.nx [some (.v (mD S rk c)),some (.v (.jd false (kD qa) (wD qa)))]):=by
  refine aU (st':=[some (.v (mD S rk c)),some (.v (.jd false (kD qa) (wD qa)))]) (bU (aO (aW (show jN "Machine" "steps" (mD S rk c)=_ from pR) (aW rfl (aW (d:=.lst (ba (List.range S.length))) ?_ rfl))) e)) rfl
  show R.bind (jN "Machine" "many" (mD S rk c)) Bs=_;rw[Rw,aG,<-(show iC 0 S.length=ba (List.range S.length) by rw[mB];rfl)]
  exact aD ⟨GD (by omega),js (by omega)⟩
 show uO lV (e1 Vs (aB 1)) [some (.v (mD S rk c)),none]=_;unfold uO;rw[h1];show R.bind (aV ((kD qa).length<=big) (.ok (D.lst (List.zipWith (λk d=>D.tup [k,d]) (kD qa) (wD qa))))) _=_
 rw[aD (dR (by rw[Yx];omega)),CV]
 rfl
end
def dh(ns:List Int)(k:Nat):Int:=if k<ns.length then ns.getD k 0 else if ns.length=0 then 7919*(k:Int) else ns.getD (k%ns.length) 0/((k:Int)+1)+7919*(k:Int)
def sT{k:Nat}(h:k<ns.length):Wb (ns.map D.int) (k:Int)=some (.int (ns.getD k 0)):=by
 rw[Pb (by simpa using h)]
 simp[getD_eq_getElem?_getD,List.getElem?_eq_getElem h]
theorem WN:∀ns:List Int,eV (ns.map D.int)=true/\jX (ns.map D.int)=0
 |[]=>⟨rfl,by simp⟩
 |x::ns=>by
  obtain⟨h1,h2⟩:=WN ns;rw[wc];exact⟨by simp[h1],by simp[h2]⟩
def Z9(ns:List Int):jT (ns.map D.int) []=decide (ns.length=0):=by
 cases ns<;>simp[jT]
def a_(ns:List Int)(k:Nat)(hk:k<=100000):cI [.lst (ns.map D.int),.int k]=.ok (.int (dh ns k)):=by
 have ln:e1 fU (aB 0) [some (.v (.lst (ns.map D.int))),some (.v (.int k))]=.ok (.int (ns.length:Nat)):=by
  show R.ok (D.int (((ns.map D.int).length:Nat):Int))=_;rw[uc]
 have m7:∀i:Int,jO (.int 7919) (.int i)=.ok (.int (7919*i)):=λi=>aD (.inl (by decide))
 refine cB rfl ?_
 unfold dh
 by_cases h:k<ns.length
 .rw[Na h];exact Ws (zh (aP rfl ln (by show R.ok (D.bl (decide ((k:Int)<(ns.length:Nat))))=_;rw[OX h])) (dB (aP rfl rfl (iW (sT h)))))
 .rw[La h];obtain⟨p1,p2⟩:=WN ns;have t2:e2 Jd (aB 0) (iR aL) [some (.v (.lst (ns.map D.int))),some (.v (.int k))]=.ok (.bl (decide (ns.length=0))):=aP rfl (fQ rfl) (by
   rw[<-Z9];exact aD ⟨by show jX (ns.map D.int)+1<=64;rw[p2];decide,p1,rfl⟩)
  refine aU (tX (aP rfl ln (by show R.ok (D.bl (decide ((k:Int)<(ns.length:Nat))))=_;rw[PX h])) rfl) ?_
  by_cases h0:ns.length=0
  .rw[Na h0];exact Ws (zh (zA t2 (Ld h0)) (dB (aP rfl rfl (m7 _))))
  .rw[La h0];have hm:k%ns.length<ns.length:=mod_lt _ (Nat.pos_of_ne_zero h0);have ec:((k%ns.length:Nat):Int)=(k:Int)%(ns.length:Nat):=by push_cast;rfl
   have e:=sT hm;rw[ec]at e;exact aU (tX (zA t2 (Cd h0)) rfl) (dB (aP (aP (aP rfl (aP rfl ln (xW (by omega))) (iW e)) (aP rfl rfl rfl) (Ep ⟨by omega,by omega⟩)) (aP rfl rfl (m7 _)) rfl))
def pU(ns:List Int)(i:Int)(h:0<=i)(hi:i<=100000):cI [.lst (ns.map D.int),.int i]=.ok (.int (dh ns i.toNat)):=by
 have:=a_ ns i.toNat (by omega)
 rwa [Wq h]at this
def pF(c k m:Int):Int:=
 let a:=(c%2147483647+7919*k)*48271%2147483629
 let b:=a*a%2147483647*69621%2147483587
 b*b%2147483629%m
def mC(c k:Int){m:Int}(h:0<m):0<=pF c k m/\pF c k m<m:=⟨Lm _ (by omega),Yq _ h⟩
def jL(c k m:Int)(h:0<m):bI [.int c,.int k,.int m]=.ok (.int (pF c k m)):=by
 unfold bI DB pF;have a0:∀x:Int,0<=x%2147483629:=λx=>Lm _ (by decide)
 have a1:∀x:Int,x%2147483629<2147483629:=λx=>Yq _ (by decide)
 have b0:∀x:Int,0<=x%2147483587:=λx=>Lm _ (by decide)
 have b1:∀x:Int,x%2147483587<2147483587:=λx=>Yq _ (by decide)
 generalize hA:(c%2147483647+7919*k)*48271%2147483629=a;have h1:=a0 ((c%2147483647+7919*k)*48271);have h2:=a1 ((c%2147483647+7919*k)*48271);rw[hA]at h1 h2;generalize hB:a*a%2147483647*69621%2147483587=b;have h3:=b0 (a*a%2147483647*69621);have h4:=b1 (a*a%2147483647*69621);rw[hB]at h3 h4;have g1 : -18446744073709551616<a:=by omega
 have g2:a<18446744073709551616:=by omega
 have g3 : -18446744073709551616<b:=by omega
 have g4:b<18446744073709551616:=by omega
 simp[hA,g1,g2,hB,g3,g4,h]
section
def sub_len{l m:List Nat}(h1:l.Nodup)(hs:∀x∈l,x∈m)(he:l.length=m.length){x:Nat}(hx:x∈m):x∈l:=by
 refine Zk λhn=>?_
 have:(x::l).length<=m.length:=CY (Gf.mpr ⟨hn,h1⟩) λy hy=>by
  rcases Nb.mp hy with rfl|hy
  .exact hx
  .exact hs y hy
 rw[Qd]at this;omega
def Zx{m o:Nat}(h1:∀g∈aN m,g∈aN o)(h2:∀g∈aN o,g∈aN m):m=o:=by
 rw[<-lY m,<-lY o];exact Τ λr=>⟨h1 r,h2 r⟩
def b_{m o:Nat}(hm:Oc S c m)(hs:∀g∈aN m,g∈aN o):Ab S o=true:=by
 have hq:=hm.2.2;have Ee:∃r,r∈aN m:=by
  cases h:aN m with
  |nil=>
   refine absurd ?_ hm.1;have:=lY m;rw[h]at this;exact this.symm
  |cons r T=>exact⟨r,by simp⟩
 obtain⟨r,hr⟩:=Ee;have hl:(aN m).length<=(aN o).length:=CY (fH m) λx hx=>hs x hx
 unfold Ab at hq ⊢
 by_cases h1:1<(aN o).length
 .rw[Ld h1];rfl
 .have he:(aN m).length=(aN o).length:=by
   have:0<(aN m).length:=BZ hr;omega
  have:m=o:=Zx hs λg hg=>sub_len (fH m) hs he hg
  rw[<-this];exact hq
def vT{a m:Nat}{st:ya}(ha:st[a]?=some (some (.v (.int (m:Int))))):aB a st=.ok (.int (m:Int)):=by simp[ha]
end
section
def bH4:fC (List.range n)<2^n:=qI λr hr=>Qc.mp hr
def ό(M:Ma S rk c):qY [mD S rk c]=.ok (.int (fC (List.range S.length))):=by
 have n8:=M.most;refine cB rfl (dB (aO (aW (d:=.lst (ba (List.range S.length))) ?_ rfl) (Bx (λr hr=>by have:=Qc.mp hr;omega) (by rw[Im];omega))))
 show R.bind (jN "Machine" "many" (mD S rk c)) Bs=_;rw[Rw,aG,<-AN];exact aD ⟨GD (by omega),js (by omega)⟩
def ύ(M:Ma S rk c){st:ya}(h:st[0]?=some (some (.v (mD S rk c)))):aK lR (aA (e1 (jN "Machine" "steps") (aB 0)) (aA (aK qY (aA (aB 0) (aL))) (aL))) st=.ok (.jd false (ba (aN (fC (List.range S.length)))) ((aN (fC (List.range S.length))).map λr=>D.int (dC S c (fC (List.range S.length)) r:Nat))):=by
 have e:aB 0 st=.ok (mD S rk c):=by unfold aB;rw[h]
 exact aO (aW (show R.bind (aB 0 st) (jN "Machine" "steps")=_ by rw[e,aG,pR]) (aW (aO (aW e rfl) (ό M)) rfl)) (WQ M bH4)
def ώ{r:Nat}(hr:r<S.length):Ta (.jd false (ba (aN (fC (List.range S.length)))) ((aN (fC (List.range S.length))).map λr=>D.int (dC S c (fC (List.range S.length)) r:Nat))) (.int r)=.ok (.int (dC S c (fC (List.range S.length)) r:Nat)):=Fs (wQ (λr=>D.int (dC S c (fC (List.range S.length)) r:Nat)) (gY.mpr (Qc.mpr hr)))
end
section
def c_(M:Ma S rk c) (hr:r<S.length):uP [mD S rk c,.int r]=.ok (.int (dC S c (fC (List.range S.length)) r)):=
 cB rfl (dB (aP (ύ M rfl) rfl (ώ hr)))
end
def yT{l:Nat}(h:l<3):Ta (.str [97,98,99]) (.int l)=.ok (.str [97+l]):=by
 show aV _ _=_;rw[aD (dR (by show 3<=_;omega)),Pb (xs:=[97,98,99]) (i:=l) (by show l<3;exact h)]
 have:l=0\/l=1\/l=2:=by omega
 rcases this with rfl|rfl|rfl<;>rfl
def bH5(l m:List Nat):Jd (.lst (ba l)) (.lst (ba m))=.ok (.bl (decide (l=m))):=by
 obtain⟨p1,p2,_⟩:=jK l;obtain⟨q1,_,_⟩:=jK m;have:=Dx l m;simp[p1,p2,q1,this]
section
variable{S:List (List Nat)}{rk:List Nat}{c n s g r:Nat}{al:Nat->Bool}
def Tt(S:List (List Nat))(rk:List Nat)(c n r:Nat)(x:List Nat)(h:Nat)(x5:Option Sl):ya:=[some (.v (mD S rk c)),some (.v (.int n)),some (.v (.int r)),some (.v (.str x)),some (.v (.int h)),x5]
def E6{e:zd}{st:ya}(hf:f st=.ok (mD S rk c))(hr:e st=.ok xs):rT "Machine" "rooms_along" p [] f e st=p (mD S rk c::xs):=by
 rw[NQ,hf,hr];show aV _ (p (mD S rk c::(xs++[])))=_;rw[Di];exact aD ⟨rfl,by decide⟩
def fR(M:Ma S rk c)(hn:n<2^S.length)(hL:Oc S c n){a b:Nat}(ha:a∈aN n)(hb:b∈aN n):∃u,Sr [mD S rk c,.int n,.int a,.int b]=.ok (.str u)/\vf c u/\u.length<=8:=by
 have n8:=M.most;have hba:=aR.mp ha;obtain⟨qa,e,m⟩:=pT M (bH hn ha) (aN n);have hm:b∈qa.map (·.1):=m.whole ((hL.2.1 a ha b hb).mono λg hg=>Ld (aR.mpr hg))
 obtain⟨x,hx,rfl⟩:=Rc.mp hm;obtain⟨k,hk⟩:=Em.mp hx;have h1:=m.uh k x hk;have h2:=(Kd.mp hk).1;have h3:=m.len;refine⟨x.2,cB rfl (gZ (tX (Zs (p:=true) (aO rfl (by rw[Up,hba]))) rfl) (dB ?_)),(m.lt x hx).2,by omega⟩
 unfold Qt;rw[aO (aW (show jN "Machine" "steps" (mD S rk c)=_ from pR) (aW rfl (aW (aO rfl (rC hn (by omega))) rfl))) e]
 show aV (Fb false (.int x.1)=true) _=_;rw[aD (c:=Fb false (.int x.1)=true) rfl,Na (by rw[DE];exact Ld hm),BV m.nd hx]
 rfl
theorem MB(M:Ma S rk c)(hn:n<2^S.length)(hL:Oc S c n)(hr:r∈aN n):∀(gs:List Nat)(x:List Nat)(h j:Nat)(x5:Option Sl),(∀g∈gs,g∈aN n)->vf c x->h∈aN n->x.length<=j*8->j+gs.length<=8->
  ∃x' h' vi,Lb (ib 5) JM (ba gs) (Tt S rk c n r x h x5)=.ok (.nx (Tt S rk c n r x' h' vi))/\h'∈aN n/\x'.length<=64
 |[],x,h,j,x5,_,h1,h2,h3,h4=>⟨x,h,x5,rfl,h2,by have h4:j+0<=8:=h4;omega⟩
 |g::gs,x,h,j,x5,hg,h1,h2,h3,h4=>by
  rw[Qd]at h4;have Ve:=bH hn hr;obtain⟨p1,p2,_⟩:=jK (r::runs S r x);have t:e2 tL (aB 5) (rT "Machine" "rooms_along" (bJ) [] (aB 0) (aA (aB 2) (aA (aB 3) aL))) (Tt S rk c n r x h (some (.v (.int g))))=.ok (.bl (!decide (g∈r::runs S r x))):=aP rfl ((E6 rfl rfl).trans (SQ M Ve x h1 (by omega))) (by
   rw[<-Ds];exact aD ⟨by rw[p2];exact Dg 60,rfl,p1⟩)
  cases hm:(!decide (g∈r::runs S r x)) with
  |false=>
   rw[hm]at t;obtain⟨x',h',vi,e,k⟩:=MB M hn hL hr gs x h j (some (.v (.int g))) (λy hy=>hg y (Bb _ hy)) h1 h2 h3 (by omega)
   exact⟨x',h',vi,oR rfl (tX t rfl) e,k⟩
  |true=>
   rw[hm]at t;obtain⟨u,w1,w2,w3⟩:=fR M hn hL h2 (hg g xb);obtain⟨x',h',vi,e,k⟩:=MB M hn hL hr gs (x++u) g (j+1) (some (.v (.int g))) (λy hy=>hg y (Bb _ hy)) (λz hz=>(Ed.mp hz).elim (h1 z) (w2 z)) (hg g xb) (by rw[we];omega) (by omega)
   exact⟨x',h',vi,oR rfl (zh t (aU (st':=Tt S rk c n r (x++u) h (some (.v (.int g)))) (bU (aP rfl (aO rfl w1) (aD (dR (by omega))))) (bU rfl))) e,k⟩
def F6(M:Ma S rk c)(hn:n<2^S.length)(hL:Oc S c n)(hr:r∈aN n):∃u,kO [mD S rk c,.int n,.int r]=.ok (.str u):=by
 have n8:=M.most;have c3:=M.c3;have Ve:=bH hn hr;have ii:=rC hn (by omega)
 have hk:(aN n).length<=8:=Zd (lA S.length _ (fH _) λy hy=>bH hn hy) n8
 have a1:gd (zN (aK wI (aA (aB 0) (aA (aB 1) aL)))) nO eQ [some (.v (mD S rk c)),some (.v (.int n)),some (.v (.int r)),none,none,none]=.ok (.nx [some (.v (mD S rk c)),some (.v (.int n)),some (.v (.int r)),none,none,none]):=tX ((Zs (p:=true) (aO rfl (by rw[B6 M hn,Ld ((Z7 M hn).mpr hL)])))) rfl
 have a2:gd (zN (aK iG (aA (aB 1) (aA (aB 2) aL)))) nO eQ [some (.v (mD S rk c)),some (.v (.int n)),some (.v (.int r)),none,none,none]=.ok (.nx [some (.v (mD S rk c)),some (.v (.int n)),some (.v (.int r)),none,none,none]):=tX ((Zs (p:=true) (aO rfl (by rw[Up,aR.mp hr])))) rfl
 have t3:=aP (op:=Jd) (f:=aK cT (aA (aB 1) aL)) (g:=iR (aA (aB 2) aL)) (st:=[some (.v (mD S rk c)),some (.v (.int n)),some (.v (.int r)),none,none,none]) (aO rfl ii) (fQ (ds:=ba [r]) rfl) (bH5 (aN n) [r])
 by_cases h1:aN n=[r]
 .rw[Ld h1]at t3;have hq:=hL.2.2;unfold Ab at hq;rw[h1]at hq;have sd:r∈S.getD r []:=by
   have:=Zj (show decide (r∈S.getD r [])=true from hq)
   exact this
  have hg:S.getD r []=S[r]:=by rw[xf,Pc Ve];rfl
  rw[hg]at sd;have ze:=(M.row S[r] (Wf Ve)).1;have hs:((S[r].map λ(x:Nat)=>(x:Int)).findIdx? λi=>i==(r:Int)).isSome=true:=by
   rw[TZ,Al];exact⟨(r:Int),Rc.mpr ⟨r,sd,rfl⟩,by simp⟩
  obtain⟨k,dk⟩:=OY.mp hs;obtain⟨k1,k2,_⟩:=ZX.mp dk;rw[uc]at k1;have hkr:S[r][k]=r:=by
   rw[NG,Bh]at k2;exact YG.mp k2
  have wg:Mb S r k=r:=by
   unfold Mb;rw[hg,xf,Pc k1];exact hkr
  have fI:Zh zy (e2 Ta (e1 (jN "Machine" "steps") (aB 0)) (aB 2)) (aA (aB 2) aL) [some (.v (mD S rk c)),some (.v (.int n)),some (.v (.int r)),none,none,none]=.ok (.int k):=by
   unfold Zh;rw[aP (show e1 (jN "Machine" "steps") (aB 0) [some (.v (mD S rk c)),some (.v (.int n)),some (.v (.int r)),none,none,none]=_ from pR) rfl (iW (qm Ve))]
   show (tQ (ba S[r])).bind _=_;rw[show ba S[r]=(S[r].map λ(x:Nat)=>(x:Int)).map D.int by rw[ug];rfl,tE,aG,dk]
   show R.bind (.ok k) _=_;rw[aG];exact aD (dR (by rw[uc,uc];omega))
  exact⟨[97+k],cB rfl (gZ a1 (gZ a2 (Ws ((zh t3 (dB (aP rfl fI (yT (by omega)))))))))⟩
 .rw[Cd h1]at t3;obtain⟨x,h,x5,e,k2,k3⟩:=MB M hn hL hr (aN n) [] r 0 none (λ_ z=>z) (λ_ z=>nomatch z) hr (Dg _) (by omega)
  obtain⟨y,w1,w2,w3⟩:=fR M hn hL k2 hr;exact⟨x++y,cB rfl (gZ a1 (gZ a2 (gZ ((tX t3 rfl)) (aU ((bU rfl)) (aU (st':=Tt S rk c n r [] r none) ((bU rfl)) (aU ((oO (rW (aO rfl ii)) e)) ((dB (aP rfl (aO rfl w1) (aD (dR (by omega)))))))))))) ⟩
end
section
variable{S:List (List Nat)}{rk:List Nat}{c n:Nat}
abbrev lB(m n:Nat):Prop:=∀g∈aN m,g∈aN n
def nA(h0:n≠0):aN n≠[]:=λz=>h0 (by
 have:=lY n;rw[z]at this;exact this.symm)
def tK(h0:n≠0):(∃r∈aN n,(rk.getD r 0:Int)=tZ rk n)/\∀r∈aN n,(rk.getD r 0:Int)<=tZ rk n:=by
 obtain⟨h1,h2⟩:=oT (l:=(aN n).map λr=>(rk.getD r 0:Int)) (by simpa using nA h0)
 obtain⟨r,hr,e⟩:=Rc.mp h1;exact⟨⟨r,hr,e⟩,λr hr=>h2 _ (Rc.mpr ⟨r,hr,rfl⟩)⟩
def bb(rk:List Nat)(m:Nat):Bool:=decide (tZ rk m%2=0)
def Ac(m:Nat):Nat:=(aN m).length
def Xe(rk:List Nat)(m:Nat):Nat:=fC ((aN m).filter λr=>!decide ((rk.getD r 0:Int)=tZ rk m))
def jV:r∈aN (Xe rk m)↔r∈aN m/\(rk.getD r 0:Int)≠tZ rk m:=by
 unfold Xe;rw[gY,je];simp
def oF{k:Nat}(h:m<2^k):Xe rk m<2^k:=qI λr hr=>bH h (je.mp hr).1
def dM(M:Ma S rk c) (hm:m<2^S.length) (h:q∈eZ S c m):Oc S c q/\lB q m/\q<2^S.length:=by
 obtain⟨r,hr,rfl,hq⟩:=wR.mp h;exact⟨b8 M hm hr hq,λg hg=>Χ M hm hr hg,mT⟩
def CT(M:Ma S rk c){m z:Nat}(hm:m<2^S.length)(hz:Oc S c z)(hs:lB z m):∃q∈eZ S c m,lB z q:=by
 obtain⟨r,hr⟩:=iu _ (nA hz.1);have Rb:=Ψ M hm hz hs hr;exact⟨_,wR.mpr ⟨r,hs r hr,rfl,b_ hz Rb⟩,Rb⟩
def uU(M:Ma S rk c){p g:Nat}(hm:m<2^S.length)(hp:p∈eZ S c m)(hq:q∈eZ S c m)(h1:g∈aN p)(h2:g∈aN q):p=q:=by
 obtain⟨a,ha,rfl,_⟩:=wR.mp hp;obtain⟨b,hb,rfl,_⟩:=wR.mp hq;have la:=bH hm ha;have lb:=bH hm hb;have m1:yg S c m a g:=(lZ M la).mp (aR.mp h1);have m2:yg S c m b g:=(lZ M lb).mp (aR.mp h2);exact(YQ M lb (m2.trans m1.symm))
def XE{p:Nat}(h:lB m p)(hr:r∈aN p)(hn:r∉aN m):Ac m<Ac p:=by
 have nd:(r::aN m).Nodup:=Gf.mpr ⟨hn,fH m⟩;have:=nd.length_le_of_subset (l₂:=aN p) λx hx=>by
  rcases Nb.mp hx with z|z
  .rw[z];exact hr
  .exact h x z
 rw[Qd]at this;exact this
def ND(M:Ma S rk c){p:Nat}(h0:p≠0)(hp:p<2^S.length)(h:q∈eZ S c (Xe rk p)):Ac q<Ac p/\lB q p:=by
 obtain⟨⟨r,hr,e⟩,_⟩:=tK (rk:=rk) h0;obtain⟨_,h2,_⟩:=dM M (oF hp) h;exact⟨XE (λg hg=>(jV.mp (h2 g hg)).1) hr λz=>(jV.mp (h2 r z)).2 e,λg hg=>(jV.mp (h2 g hg)).1⟩
inductive Ce (S:List (List Nat)) (c:Nat) (rk:List Nat) (w:Bool):Nat->Nat->Prop
 |out {P Y:Nat}:Y∈eZ S c (Xe rk P)->bb rk Y≠w->Ce S c rk w P Y
 |go {P Q Y:Nat}:Q∈eZ S c (Xe rk P)->bb rk Q=w->Ce S c rk w Q Y->Ce S c rk w P Y
def fB(M:Ma S rk c){w:Bool}{P:Nat}(h:Ce S c rk w P Y):P≠0->P<2^S.length->Oc S c Y/\lB Y (Xe rk P)/\Y<2^S.length/\Ac Y<Ac P/\bb rk Y≠w:=by
 induction h with
 |out h1 h2=>
  intro h0 hp;obtain⟨a,b,d⟩:=dM M (oF hp) h1;exact⟨a,b,d,(ND M h0 hp h1).1,h2⟩
 |go h1 h2 _ ih=>
  intro h0 hp;obtain⟨a,b,d⟩:=dM M (oF hp) h1;obtain⟨i1,i2,i3,i4,i5⟩:=ih a.1 d;have hs:=ND M h0 hp h1;exact⟨i1,λg hg=>b g (jV.mp (i2 g hg)).1,i3,by omega,i5⟩
def bH6(M:Ma S rk c){w:Bool}{P:Nat}(h:Ce S c rk w P Y):P≠0->P<2^S.length->∀{Z g:Nat},Ce S c rk w P Z->g∈aN Y->g∈aN Z->Y=Z:=by
 induction h with
 |out h1 h2=>
  intro h0 hp Z g hz xv cg;cases hz with
  |out h3 h4=>exact uU M (oF hp) h1 h3 xv cg
  |go h3 h4 h5=>
   obtain⟨a,_,d⟩:=dM M (oF hp) h3;obtain⟨_,i2,_⟩:=fB M h5 a.1 d;have:=uU M (oF hp) h1 h3 xv (jV.mp (i2 g cg)).1;rw[this]at h2;exact(h2 h4).elim
 |go h1 h2 h3 ih=>
  intro h0 hp Z g hz xv cg;obtain⟨a,_,d⟩:=dM M (oF hp) h1;obtain⟨_,i2,_⟩:=fB M h3 a.1 d;have g1:=(jV.mp (i2 g xv)).1;cases hz with
  |out h4 h5=>
   have:=uU M (oF hp) h1 h4 g1 cg;rw[<-this]at h5;exact(h5 h2).elim
  |go h4 h5 h6=>
   obtain⟨a',_,d'⟩:=dM M (oF hp) h4;obtain⟨_,j2,_⟩:=fB M h6 a'.1 d';have:=uU M (oF hp) h1 h4 g1 (jV.mp (j2 g cg)).1;subst this;exact ih a.1 d h6 xv cg
def Ϗ{z p:Nat}(h0:z≠0)(hs:lB z p) (hr:r∈aN z) (e:(rk.getD r 0:Int)=tZ rk p):tZ rk z=tZ rk p:=by
 obtain⟨⟨r',Pe,e'⟩,hx⟩:=tK (rk:=rk) h0;have hp0:p≠0:=λz'=>by
  have:=hs r hr;rw[z']at this;exact absurd (aR.mp this) (by simp)
 obtain⟨_,hy⟩:=tK (rk:=rk) hp0;have h1:=hx r hr;have h2:=hy r' (hs r' Pe);omega
theorem pW(M:Ma S rk c){w:Bool}:∀(k P:Nat),Ac P<=k->P≠0->P<2^S.length->bb rk P=w->∀{Z:Nat},Oc S c Z->lB Z P->(∃Y,Ce S c rk w P Y/\lB Z Y)\/(bb rk Z=w/\∃r∈aN Z,∀Y,Ce S c rk w P Y->r∉aN Y)
 |0,P,hk,h0,_,_,_,_,_=>absurd (jl.mp (Nat.le_zero.mp hk)) (nA h0)
 |k+1,P,hk,h0,hp,hw,Z,hz,hs=>by
  by_cases ht:∃r∈aN Z,(rk.getD r 0:Int)=tZ rk P
  .obtain⟨r,hr,e⟩:=ht;refine .inr ⟨?_,r,hr,λY hy Fv=>?_⟩
   .unfold bb at hw ⊢;rw[Ϗ hz.1 hs hr e];exact hw
   .obtain⟨_,i2,_⟩:=fB M hy h0 hp;exact(jV.mp (i2 r Fv)).2 e
  .obtain⟨Q,hQ,MI⟩:=CT M (oF (rk:=rk) hp) hz λg hg=>jV.mpr ⟨hs g hg,λe=>ht ⟨g,hg,e⟩⟩
   obtain⟨q1,q2,q3⟩:=dM M (oF hp) hQ;have hsz:=ND M h0 hp hQ
   by_cases hq:bb rk Q=w
   .rcases pW M k Q (by omega) q1.1 q3 hq hz MI with ⟨Y,hy,kh⟩|⟨e1,r,hr,hY⟩
    .exact .inl ⟨Y,.go hQ hq hy,kh⟩
    .refine .inr ⟨e1,r,hr,λY hy Fv=>?_⟩
     have P0:=MI r hr;cases hy with
     |out h3 h4=>
      have:=uU M (oF hp) hQ h3 P0 Fv;rw[<-this]at h4;exact h4 hq
     |go h3 h4 h5=>
      obtain⟨a,_,d⟩:=dM M (oF hp) h3;obtain⟨_,i2,_⟩:=fB M h5 a.1 d;have:=uU M (oF hp) hQ h3 P0 (jV.mp (i2 r Fv)).1;subst this;exact hY Y h5 Fv
   .exact .inl ⟨Q,.out hQ hq,MI⟩
def cU(base:Nat)(good:Bool):Nat:=if (decide (base%2=0))==good then base else base+1
def JP(base:Nat)(good:Bool):(cU base good%2=0↔good=true)/\base<=cU base good:=by
 unfold cU
 by_cases h:base%2=0
 .cases good<;>simp[h] <;> omega
 .cases good<;>simp[h] <;> omega
def wm(f:Nat->Nat)(a:Nat)(l:List Nat):Nat:=l.foldl (λa y=>max a (f y+1)) a
theorem Hw(f:Nat->Nat):∀(l:List Nat)(a:Nat),a<=wm f a l/\(∀y∈l,f y+1<=wm f a l)/\(wm f a l=a\/∃y∈l,wm f a l=f y+1)
 |[],a=>⟨Cb _,λ_ h=>(nomatch h),.inl rfl⟩
 |y::l,a=>by
  obtain⟨h1,h2,h3⟩:=Hw f l (max a (f y+1));have e:wm f a (y::l)=wm f (max a (f y+1)) l:=rfl;rw[e];refine⟨by omega,λz hz=>?_,?_⟩
  .rcases Nb.mp hz with q|q
   .rw[q];omega
   .exact h2 z q
  .rcases h3 with q|⟨z,hz,q⟩
   .by_cases hle:f y+1<=a
    .exact .inl (by omega)
    .exact .inr ⟨y,xb,by omega⟩
   .exact .inr ⟨z,Bb _ hz,q⟩
def Mj(S:List (List Nat))(c:Nat)(rk:List Nat)(L:Nat->List Nat):Prop:=∀X,X≠0->X<2^S.length->∀Y,Y∈L X↔Ce S c rk (bb rk X) X Y
def rf(rk:List Nat)(L:Nat->List Nat)(base:Nat):Nat->Nat->Nat
 |0,_=>0
 |k+1,X=>wm (rf rk L base k) (cU base (bb rk X)) (L X)
def Lh(rk:List Nat)(L:Nat->List Nat)(base:Nat):Nat->Nat->Nat->Nat
 |0,_,_=>0
 |k+1,X,g=>match (L X).find? λY=>Y.testBit g with
  |some Y=>Lh rk L base k Y g
  |none=>rf rk L base (k+1) X
section
variable{L:Nat->List Nat}{base:Nat}
def lC{X:Nat}(h:X≠0):1<=Ac X:=nu.mpr (nA h)
def Gs{k X:Nat}:cU base (bb rk X)<=rf rk L base (k+1) X:=(Hw _ _ _).1
def Dy(hL:Mj S c rk L){k X:Nat}(h0:X≠0)(hX:X<2^S.length)(h:Ce S c rk (bb rk X) X Y):rf rk L base k Y<rf rk L base (k+1) X:=(Hw (rf rk L base k) (L X) (cU base (bb rk X))).2.1 Y ((hL X h0 hX Y).mpr h)
def rq(hL:Mj S c rk L){k X:Nat}(h0:X≠0)(hX:X<2^S.length):rf rk L base (k+1) X=cU base (bb rk X)\/∃Y,Ce S c rk (bb rk X) X Y/\rf rk L base (k+1) X=rf rk L base k Y+1:=by
 rcases (Hw (rf rk L base k) (L X) (cU base (bb rk X))).2.2 with h|⟨Y,hY,h⟩
 .exact .inl h
 .exact .inr ⟨Y,(hL X h0 hX Y).mp hY,h⟩
theorem DV(M:Ma S rk c)(hL:Mj S c rk L):∀(k X:Nat),Ac X<=k->X≠0->X<2^S.length->(rf rk L base k X%2=0↔bb rk X=true)
 |0,X,hk,h0,_=>by have:=lC h0;omega
 |k+1,X,hk,h0,hX=>by
  rcases rq (base:=base) hL (k:=k) h0 hX with e|⟨Y,hY,e⟩
  .rw[e];exact(JP base _).1
  .obtain⟨i1,_,i3,i4,i5⟩:=fB M hY h0 hX;have ih:=DV M hL k Y (by omega) i1.1 i3
   rw[e];cases hx:bb rk X<;>cases hy:bb rk Y<;>rw[hx,hy]at i5<;>first|exact(i5 rfl).elim|skip
   .rw[hy]at ih;have:=ih.mpr rfl;constructor
    .intro z;omega
    .intro z;cases z
   .rw[hy]at ih;have:¬ rf rk L base k Y%2=0:=λz=>by cases ih.mp z
    constructor
    .intro _;rfl
    .intro _;omega
def sq(M:Ma S rk c)(hL:Mj S c rk L){k X g:Nat}(h0:X≠0)(hX:X<2^S.length)(hY:Ce S c rk (bb rk X) X Y)(hg:g∈aN Y):Lh rk L base (k+1) X g=Lh rk L base k Y g:=by
 show (match (L X).find? λY=>Y.testBit g with|some Y=>Lh rk L base k Y g|none=>rf rk L base (k+1) X)=_
 cases hf:(L X).find? λY=>Y.testBit g with
 |none=>
  have:=List.find?_eq_none.mp hf Y ((hL X h0 hX Y).mpr hY);exact(this (aR.mp hg)).elim
 |some Z=>
  have h1:=RG hf;have h2:=(hL X h0 hX Z).mp (az hf);rw[bH6 M hY h0 hX h2 hg (aR.mpr h1)]
def ay(hL:Mj S c rk L){k X g:Nat}(h0:X≠0)(hX:X<2^S.length)(h:∀Y,Ce S c rk (bb rk X) X Y->g∉aN Y):Lh rk L base (k+1) X g=rf rk L base (k+1) X:=by
 show (match (L X).find? λY=>Y.testBit g with|some Y=>Lh rk L base k Y g|none=>rf rk L base (k+1) X)=_
 cases hf:(L X).find? λY=>Y.testBit g with
 |none=>rfl
 |some Z=>
  have h1:=RG hf;exact(h Z ((hL X h0 hX Z).mp (az hf)) (aR.mpr h1)).elim
theorem Dt(M:Ma S rk c)(hL:Mj S c rk L):∀(k X:Nat),Ac X<=k->X≠0->X<2^S.length->∀g,base<=Lh rk L base k X g/\Lh rk L base k X g<=rf rk L base k X
 |0,X,hk,h0,_,_=>by have:=lC h0;omega
 |k+1,X,hk,h0,hX,g=>by
  have hb:=(JP base (bb rk X)).2;have Fh:=Gs (rk:=rk) (L:=L) (base:=base) (k:=k) (X:=X)
  by_cases h:∃Y,Ce S c rk (bb rk X) X Y/\g∈aN Y
  .obtain⟨Y,hY,hg⟩:=h;obtain⟨i1,_,i3,i4,_⟩:=fB M hY h0 hX;have ih:=Dt M hL k Y (by omega) i1.1 i3 g
   have hu:=Dy (base:=base) hL (k:=k) h0 hX hY;rw[sq M hL h0 hX hY hg];omega
  .rw[ay hL h0 hX λY hY hg=>h ⟨Y,hY,hg⟩]
   omega
theorem EV(M:Ma S rk c)(hL:Mj S c rk L):∀(k X:Nat),Ac X<=k->X≠0->X<2^S.length->∀{Z:Nat},Oc S c Z->lB Z X->∃T,(∃g∈aN Z,Lh rk L base k X g=T)/\(∀g∈aN Z,Lh rk L base k X g<=T)/\(T%2=0↔bb rk Z=true)
 |0,X,hk,h0,_,_,_,_=>by have:=lC h0;omega
 |k+1,X,hk,h0,hX,Z,hz,hs=>by
  rcases pW M (k+1) X hk h0 hX rfl hz hs with ⟨Y,hY,kh⟩|⟨e,r,hr,hn⟩
  .obtain⟨i1,_,i3,i4,_⟩:=fB M hY h0 hX;obtain⟨T,⟨g,hg,eT⟩,h2,h3⟩:=EV M hL k Y (by omega) i1.1 i3 hz kh
   exact⟨T,⟨g,hg,by rw[sq M hL h0 hX hY (kh g hg)];exact eT⟩,λg hg=>by rw[sq M hL h0 hX hY (kh g hg)];exact h2 g hg,h3⟩
  .refine⟨rf rk L base (k+1) X,⟨r,hr,ay hL h0 hX hn⟩,λg _=>(Dt M hL (k+1) X hk h0 hX g).2,?_⟩
   rw[e];exact DV M hL (k+1) X hk h0 hX
inductive Row (S:List (List Nat)) (c:Nat) (rk:List Nat) (base:Nat):Nat->Nat->Prop
 |one {Z:Nat}:Oc S c Z->Row S c rk base Z (cU base (bb rk Z))
 |up {Y Z v:Nat}:Row S c rk base Y v->Oc S c Z->lB Y Z->bb rk Y≠bb rk Z->Row S c rk base Z (v+1)
def Row.lp{v:Nat}(h:Row S c rk base Z v):Oc S c Z:=by
 cases h with
 |one h=>exact h
 |up _ h _ _=>exact h
theorem FV(M:Ma S rk c)(hL:Mj S c rk L):∀(k X:Nat),Ac X<=k->X≠0->X<2^S.length->∀{Z v:Nat},Row S c rk base Z v->lB Z X->v<=rf rk L base k X/\(bb rk Z≠bb rk X->v<rf rk L base k X)
 |0,X,hk,h0,_,_,_,_,_=>by have:=lC h0;omega
 |k+1,X,hk,h0,hX,Z,v,hr,hs=>by
  have Er:∀{Z v:Nat},Row S c rk base Z v->∀Y,Ce S c rk (bb rk X) X Y->lB Z Y->v<rf rk L base (k+1) X:=λ{Z v} hr Y hY kh=>by
   obtain⟨i1,_,i3,i4,_⟩:=fB M hY h0 hX;have ih:=(FV M hL k Y (by omega) i1.1 i3 hr kh).1
   have hu:=Dy (base:=base) hL (k:=k) h0 hX hY;omega
  rcases pW M (k+1) X hk h0 hX rfl hr.lp hs with ⟨Y,hY,kh⟩|⟨e,_⟩
  .have:=Er hr Y hY kh;exact⟨by omega,λ_=>this⟩
  .refine⟨?_,λh=>(h e).elim⟩
   cases hr with
   |one _=>rw[e];exact Gs
   |up h1 _ h3 h4=>
    rename_i Y' v';rcases pW M (k+1) X hk h0 hX rfl h1.lp (λg hg=>hs g (h3 g hg)) with ⟨Y,hY,kh⟩|⟨e',_⟩
    .have:=Er h1 Y hY kh;omega
    .rw[e,e']at h4;exact(h4 rfl).elim
theorem GV(M:Ma S rk c)(hL:Mj S c rk L):∀(k X:Nat),Ac X<=k->Oc S c X->X<2^S.length->Row S c rk base X (rf rk L base k X)
 |0,X,hk,h0,_=>by have:=lC h0.1;omega
 |k+1,X,hk,h0,hX=>by
  rcases rq (base:=base) hL (k:=k) h0.1 hX with e|⟨Y,hY,e⟩
  .rw[e];exact .one h0
  .obtain⟨i1,i2,i3,i4,i5⟩:=fB M hY h0.1 hX;rw[e];exact .up (GV M hL k Y (by omega) i1 i3) h0 (λg hg=>(jV.mp (i2 g hg)).1) i5
end
end
section
variable{S:List (List Nat)}{rk:List Nat}{c n:Nat}
def Vj(M:Ma S rk c)(hn:n<2^S.length):(aN n).length<=8:=by
 have:=lA S.length _ (fH n) λx hx=>bH hn hx
 have:=M.most;omega
def kR(M:Ma S rk c)(hn:n<2^S.length){a:Nat}{st:ya}(h:st[a]?=some (some (.v (.int (n:Int))))):aK cT (aA (aB a) aL) st=.ok (.lst (ba (aN n))):=
 aO (aW (vT h) rfl) (rC hn (by have:=M.most;omega))
def G6(M:Ma S rk c)(hn:n<2^S.length)(h0:n≠0):qD [mD S rk c,.int n]=.ok (.int (Xe rk n)):=by
 have h8:=Vj M hn;refine cB rfl ?_
 refine aU (st':=[some (.v (mD S rk c)),some (.v (.int n)),some (.v (.int (tZ rk n))),none]) (bU (aO rfl (rV M hn h0))) ?_
 have ce:iQ (ib 3) yV yU [some (.v (mD S rk c)),some (.v (.int n)),some (.v (.int (tZ rk n))),none] (ba (aN n))=.ok (ba ((aN n).filter λr=>!decide ((rk.getD r 0:Int)=tZ rk n))):=oU (aN n) λr hr=>by
  have Pe:r<rk.length:=by rw[M.Jr];exact bH hn hr
  have ea:Wb (ba rk) (r:Int)=some (.int (rk.getD r 0:Nat)):=by
   rw[Pb (by rw[bD];exact Pe)]
   simp[ba,getD_eq_getElem?_getD,List.getElem?_eq_getElem Pe]
  refine⟨_,rfl,?_,rfl⟩;exact aP (aP (show e1 (jN "Machine" "ranks") (aB 0) _=.ok (.lst (ba rk)) from TN) rfl (iW ea)) rfl (bGq _ _)
 refine dB (aO (aW (nG (rW (kR M hn rfl)) (by rw[bD];omega) ce) rfl) ?_)
 exact Bx (λr hr=>by have:=bH hn (je.mp hr).1;have:=M.most;omega) (by have:=kG (λr=>!decide ((rk.getD r 0:Int)=tZ rk n)) (aN n);omega)
theorem XN(f:Nat->Nat)(q:Nat->Bool):∀(rs ps:List Nat),ps.Nodup->(rs.foldl (λps r=>if f r∉ps/\q (f r)=true then ps++[f r] else ps) ps).Nodup
 |[],_,h=>h
 |r::rs,ps,h=>by
  rw[Mm];refine XN f q rs _ ?_
  split
  .rename_i z;refine Yi.mpr ⟨h,Gf.mpr ⟨not_mem_nil,vo⟩,λa ha b hb e=>?_⟩
   rw[cc.mp hb]at e;exact z.1 (e ▸ ha)
  .exact h
def N5:(eZ S c m).Nodup:=XN _ _ _ _ vo
def me(l:List Nat):Nat:=(l.map Ac).sum
def OD(l m:List Nat):me (l++m)=me l+me m:=by unfold me;simp
def bH7{l:List Nat}(nd:l.Nodup)(hs:∀q∈l,lB q m)(hd:∀p∈l,∀q∈l,∀g,g∈aN p->g∈aN q->p=q):me l<=Ac m:=by
 have key:∀l:List Nat,l.Nodup->(∀p∈l,∀q∈l,∀g,g∈aN p->g∈aN q->p=q)->(l.flatMap aN).Nodup/\(l.flatMap aN).length=me l:=λl=>by
  induction l with
  |nil=>exact λ_ _=>⟨vo,rfl⟩
  |cons p l ih=>
   intro nd hd;obtain⟨n1,n2⟩:=Gf.mp nd;obtain⟨i1,i2⟩:=ih n2 λp hp q hq=>hd p (Bb _ hp) q (Bb _ hq)
   rw[List.flatMap_cons];refine⟨Yi.mpr ⟨fH p,i1,λa ha b hb e=>?_⟩,?_⟩
   .obtain⟨q,hq,hb⟩:=List.mem_flatMap.mp hb;subst e;rw[hd p xb q (Bb _ hq) a ha hb]at n1;exact n1 hq
   .rw[we,i2];unfold me Ac;simp
 obtain⟨k1,k2⟩:=key l nd hd;rw[<-k2];exact k1.length_le_of_subset λg hg=>by
  obtain⟨q,hq,hg⟩:=List.mem_flatMap.mp hg;exact hs q hq g hg
def g8(M:Ma S rk c){p:Nat}(h0:p≠0)(hp:p<2^S.length):me (eZ S c (Xe rk p))<Ac p:=by
 obtain⟨⟨r,hr,e⟩,_⟩:=tK (rk:=rk) h0;have h1:=bH7 (m:=Xe rk p) N5 (λq hq=>(dM M (oF hp) hq).2.1) λa ha b hb g h1 h2=>uU M (oF hp) ha hb h1 h2
 have h2:Ac (Xe rk p)<Ac p:=XE (λg hg=>(jV.mp hg).1) hr λz=>(jV.mp z).2 e
 omega
theorem KP(q:Nat->Bool):∀(l:List Nat),(∀x∈l,1<=Ac x)->(l.filter λx=>!q x).length+me (l.filter q)<=me l
 |[],_=>Cb _
 |x::l,h=>by
  have ih:=KP q l λx hx=>h x (Bb _ hx)
  have hx:=h x xb;have e:me (x::l)=Ac x+me l:=by unfold me;simp
  cases hq:q x
  .rw[Kq (by simp[hq]),Lq (by simp[hq]),Qd]
   omega
  .rw[Lq (by simp[hq]),Kq (by simp[hq])]
   have e2:me (x::l.filter q)=Ac x+me (l.filter q):=by unfold me;simp
   omega
abbrev nk(S:List (List Nat))(rk:List Nat)(c n:Nat)(F T:List Nat)(x4 x5:Option Sl):ya:=[some (.v (mD S rk c)),some (.v (.int n)),some (.o .l (ba F)),some (.o .l (ba T)),x4,x5]
def Fx(M:Ma S rk c)(hn:n<2^S.length)(h0:n≠0){a:Nat}{st:ya}(h:st[a]?=some (some (.v (.int (n:Int)))))(hm:st[0]?=some (some (.v (mD S rk c)))):aK gW (aA (aB 0) (aA (aB a) aL)) st=.ok (.bl (bb rk n)):=
 aO (aW (d:=mD S rk c) (by simp[hm]) (aW (vT h) rfl)) (Ω M hn h0)
def PD(p q:Bool):Jd (.bl p) (.bl q)=.ok (.bl (p==q)):=aD ⟨Dg 64,rfl,rfl⟩
theorem BC(M:Ma S rk c)(hn:n<2^S.length)(h0:n≠0){x4:Option Sl}:∀(l F T:List Nat)(x5:Option Sl),(∀q∈l,q≠0/\q<2^S.length)->F.length+l.length<=1000->T.length+l.length<=1000->
  ∃y5,Lb (ib 5) yW (ba l) (nk S rk c n F T x4 x5)=.ok (.nx (nk S rk c n (F++l.filter λq=>!(bb rk q==bb rk n)) (T++l.filter λq=>bb rk q==bb rk n) x4 y5))
 |[],F,T,x5,_,_,_=>⟨x5,by rw[List.filter_nil,List.filter_nil,Di,Di];rfl⟩
 |q::l,F,T,x5,h,hF,hT=>by
  rw[Qd]at hF hT;obtain⟨q0,q1⟩:=h q xb;have test:(e2 Jd (aK gW (aA (aB 0) (aA (aB 5) aL))) (aK gW (aA (aB 0) (aA (aB 1) aL)))) (nk S rk c n F T x4 (some (.v (.int q))))=.ok (.bl (bb rk q==bb rk n)):=aP (Fx M q1 q0 rfl rfl) (Fx M hn h0 rfl rfl) (PD _ _);cases hq:bb rk q==bb rk n
  .obtain⟨y5,e⟩:=BC M hn h0 (x4:=x4) l (F++[q]) T (some (.v (.int q))) (λq hq=>h q (Bb _ hq)) (by simp;omega) (by omega)
   refine⟨y5,oR (s1:=nk S rk c n F T x4 (some (.v (.int q)))) rfl (tX (test.trans (by rw[hq])) (Rp (d:=.int q) rfl rfl (by rw[bD];omega))) ?_⟩
   rw[Kq (by simp[hq]),Lq (by simp[hq])]
   rw[wl]at e;show Lb _ _ (ba l) [some (.v (mD S rk c)),some (.v (.int n)),some (.o .l (ba F++[.int q])),some (.o .l (ba T)),x4,some (.v (.int q))]=_;rw[<-Ur];exact e
  .obtain⟨y5,e⟩:=BC M hn h0 (x4:=x4) l F (T++[q]) (some (.v (.int q))) (λq hq=>h q (Bb _ hq)) (by omega) (by simp;omega)
   refine⟨y5,oR (s1:=nk S rk c n F T x4 (some (.v (.int q)))) rfl (zh (test.trans (by rw[hq])) (Rp (d:=.int q) rfl rfl (by rw[bD];omega))) ?_⟩
   rw[Lq (by simp[hq]),Kq (by simp[hq])]
   rw[wl]at e;show Lb _ _ (ba l) [some (.v (mD S rk c)),some (.v (.int n)),some (.o .l (ba F)),some (.o .l (ba T++[.int q])),x4,some (.v (.int q))]=_;rw[<-Ur];exact e
def TC{w:Bool}{P:Nat}:Ce S c rk w P Y↔(Y∈eZ S c (Xe rk P)/\bb rk Y≠w)\/∃Q∈eZ S c (Xe rk P),bb rk Q=w/\Ce S c rk w Q Y:=by
 constructor
 .intro h;cases h with
  |out h1 h2=>exact .inl ⟨h1,h2⟩
  |go h1 h2 h3=>exact .inr ⟨_,h1,h2,h3⟩
 .rintro(⟨h1,h2⟩|⟨Q,h1,h2,h3⟩)
  .exact .out h1 h2
  .exact .go h1 h2 h3
def Vp(T:List Nat):Ue (.lst (ba T)) (.lst [])=.ok (.bl (!decide (T=[]))):=by
 obtain⟨k1,k2,_⟩:=jK T;have kd:de (.lst (ba T))=1:=by unfold de;rw[k2]
 have kp:plain (.lst (ba T))=true:=by(conv=>lhs;unfold plain);exact k1
 have ke:bc (.lst (ba T)) (.lst [])=decide (T=[]):=by(conv=>lhs;unfold bc);exact Dx T []
 rw[bGm,aD ⟨by omega,kp,rfl⟩,ke]
def ϐ{st:ya}{x:D} (hf:f st=.ok x) (hs:st[j]?=some (some (.o .l (ys++[d])))) (hl:ys.length<1000) (hp:p [x,d]=.ok y):Ay i j p f st=.ok (.nx ((st.set j (some (.o .l ys))).set i (some (.v y)))):=by
 unfold Ay;rw[hf,aG,hs];dsimp only;rw[PZ,List.getLast?_singleton,Option.some_or];dsimp only;rw[aD (dR (by rw[we,Ci];omega)),hp,aG,List.dropLast_concat]
def J6(M:Ma S rk c)(hn:n<2^S.length)(h0:n≠0):∀(k f:Nat)(F T:List Nat)(x4 x5:Option Sl),me T<=k->k<f->(∀q∈T,q≠0/\q<2^S.length)->F.length+me T<=100->
  ∃F' y4 y5,jU yZ yX f (nk S rk c n F T x4 x5)=.ok (.nx (nk S rk c n F' [] y4 y5))/\F'.length<=100/\∀Y,Y∈F'↔Y∈F\/∃P∈T,Ce S c rk (bb rk n) P Y:=by
 intro k
 induction k with
 |zero=>
  intro f F T x4 x5 hk hf hT hl;obtain⟨f,rfl⟩:∃g,f=g+1:=⟨f-1,by omega⟩
  cases T with
  |nil=>exact⟨F,x4,x5,wN (aP rfl (fQ rfl) (Vp [])),by omega,λY=>⟨.inl,λz=>z.elim id λ⟨_,h,_⟩=>nomatch h⟩⟩
  |cons p T=>
   have:=lC (hT p xb).1;unfold me at hk;simp at hk;omega
 |succ k ih=>
  intro f F T x4 x5 hk hf hT hl;obtain⟨f,rfl⟩:∃g,f=g+1:=⟨f-1,by omega⟩
  rcases KZ T with rfl|⟨T',p,rfl⟩
  .exact⟨F,x4,x5,wN (aP rfl (fQ rfl) (Vp [])),by omega,λY=>⟨.inl,λz=>z.elim id λ⟨_,h,_⟩=>nomatch h⟩⟩
  .rw[LZ]at *;obtain⟨p0,p1⟩:=hT p (Zc _ xb);have hpz:=lC p0;have es:me (T'++[p])=me T'+Ac p:=by rw[OD];unfold me;simp
   have II:=g8 M p0 p1;have parts:∀q∈eZ S c (Xe rk p),q≠0/\q<2^S.length:=λq hq=>⟨(dM M (oF p1) hq).1.1,(dM M (oF p1) hq).2.2⟩
   have qj:=KP (λq=>bb rk q==bb rk n) (eZ S c (Xe rk p)) λq hq=>lC (parts q hq).1
   have G1:∀l:List Nat,(∀q∈l,q≠0)->l.length<=me l:=λl hl=>by
    induction l with
    |nil=>exact Cb _
    |cons q l ih=>
     have e:me (q::l)=Ac q+me l:=by unfold me;simp
     have:=lC (hl q xb);have:=ih λq hq=>hl q (Bb _ hq)
     rw[Qd];omega
   have hlp:=G1 _ λq hq=>(parts q hq).1
   have hlT:=G1 T' λq hq=>(hT q (Dd _ hq)).1
   obtain⟨y5,e1⟩:=BC M hn h0 (x4:=some (.v (.int (Xe rk p)))) (eZ S c (Xe rk p)) F T' x5 parts (by omega) (by omega)
   obtain⟨F',z4,z5,e3,l3,i3⟩:=ih f (F++(eZ S c (Xe rk p)).filter λq=>!(bb rk q==bb rk n)) (T'++(eZ S c (Xe rk p)).filter λq=>bb rk q==bb rk n) (some (.v (.int (Xe rk p)))) y5 (by rw[OD];omega) (by omega) (λq hq=>by
    rcases Ed.mp hq with h|h
    .exact hT q (Dd _ h)
    .exact parts q (je.mp h).1) (by rw[OD,we];omega)
   refine⟨F',z4,z5,Nw (st':=nk S rk c n (F++(eZ S c (Xe rk p)).filter λq=>!(bb rk q==bb rk n)) (T'++(eZ S c (Xe rk p)).filter λq=>bb rk q==bb rk n) (some (.v (.int (Xe rk p)))) y5) (aP rfl (fQ rfl) ?_) (aU (st':=nk S rk c n F T' (some (.v (.int (Xe rk p)))) x5) ?_ (oO (rW (aO rfl (RC M (oF p1)))) e1)) e3,l3,λY=>?_⟩
   .rw[show qp .l (ba (T'++[p]))=.lst (ba (T'++[p])) from rfl,Vp]
    simp
   .exact ϐ (x:=mD S rk c) (ys:=ba T') (d:=.int p) rfl (by rw[<-Ur];rfl) (by rw[bD];omega) (G6 M p1 p0)
   .rw[i3 Y];constructor
    .rintro(h|⟨P,hP,h⟩)
     .rcases Ed.mp h with h|h
      .exact .inl h
      .obtain⟨h1,h2⟩:=je.mp h;exact .inr ⟨p,Zc _ xb,TC.mpr (.inl ⟨h1,by simpa using h2⟩)⟩
     .rcases Ed.mp hP with h'|h'
      .exact .inr ⟨P,Dd _ h',h⟩
      .obtain⟨h1,h2⟩:=je.mp h';exact .inr ⟨p,Zc _ xb,TC.mpr (.inr ⟨P,h1,by simpa using h2,h⟩)⟩
    .rintro(h|⟨P,hP,h⟩)
     .exact .inl (Dd _ h)
     .rcases Ed.mp hP with h'|h'
      .exact .inr ⟨P,Dd _ h',h⟩
      .rw[cc.mp h']at h;rcases TC.mp h with ⟨h1,h2⟩|⟨Q,h1,h2,h3⟩
       .exact .inl (Zc _ (je.mpr ⟨h1,by simpa using h2⟩))
       .exact .inr ⟨Q,Zc _ (je.mpr ⟨h1,by simpa using h2⟩),h3⟩
def d_(M:Ma S rk c)(hn:n<2^S.length)(h0:n≠0):∃F,iH [mD S rk c,.int n]=.ok (.lst (ba F))/\F.length<=100/\∀Y,Y∈F↔Ce S c rk (bb rk n) n Y:=by
 have h8:=Vj M hn;have e1:me [n]=Ac n:=by unfold me;simp
 have Jf:Ac n<=8:=h8;obtain⟨F,y4,y5,e,l,i⟩:=J6 M hn h0 8 100000 [] [n] none none (by omega) (by omega) (λq hq=>by rw[cc.mp hq];exact⟨h0,hn⟩) (by simp;omega)
 refine⟨F,cB rfl ?_,l,λY=>?_⟩
 .refine aU (qH (fQ rfl)) (aU (st':=nk S rk c n [] [n] none none) (qH (fQ (ds:=[.int n]) rfl)) (aU e ?_));exact dB rfl
 .rw[i Y];constructor
  .rintro(h|⟨P,hP,h⟩)
   .exact nomatch h
   .rw[cc.mp hP]at h;exact h
  .exact λh=>.inr ⟨n,xb,h⟩
end
section
variable{S:List (List Nat)}{rk:List Nat}{c n base:Nat}
open Classical in
noncomputable def Sh(S:List (List Nat))(rk:List Nat)(c X:Nat):List Nat:=if h:∃F,iH [mD S rk c,.int X]=.ok (.lst (ba F))/\F.length<=100/\∀Y,Y∈F↔Ce S c rk (bb rk X) X Y then h.choose else []
def QD(M:Ma S rk c)(hn:n<2^S.length)(h0:n≠0):iH [mD S rk c,.int n]=.ok (.lst (ba (Sh S rk c n)))/\(Sh S rk c n).length<=100/\∀Y,Y∈Sh S rk c n↔Ce S c rk (bb rk n) n Y:=by
 have h:=d_ M hn h0;unfold Sh;rw[dif_pos h];exact h.choose_spec
def iB(M:Ma S rk c):Mj S c rk (Sh S rk c):=λX h0 hX Y=>(QD M hX h0).2.2 Y
noncomputable def vO(S:List (List Nat))(c:Nat):Nat:=dC S c (fC (List.range S.length)) 0
def jW:vO S c<2^S.length:=wO
noncomputable def rD(S:List (List Nat))(c:Nat):List Nat:=eZ S c (vO S c)
def sR(M:Ma S rk c):mX [mD S rk c]=.ok (.lst (ba (rD S c))):=
 cB rfl (dB (aO (aW rfl (aW (aO (ds:=[mD S rk c,.int (0:Nat)]) rfl (c_ M (by have:=M.one;omega))) rfl)) (RC M jW)))
end
section
variable{S:List (List Nat)}{rk:List Nat}{c n base:Nat}
abbrev dW(W:Nat->Nat)(l:List Nat):List D:=l.map λg=>D.int (W g:Nat)
def HV{W:Nat->Nat} {g:Nat} (nd:l.Nodup):∃l',oJ (ba l) (.int g)=ba l'/\rR (ba l) (dW W l) (.int g) (.int (W g:Nat))=dW W l'/\l'.Nodup/\l'.length<=l.length+1/\∀x,x∈l'↔x∈l\/x=g:=by
 by_cases h:g∈l
 .obtain⟨e1,e2⟩:=kT (V:=W) (x:=W g) h;refine⟨l,e1,e2.trans (Xi λk _=>?_),nd,by omega,λx=>⟨.inl,λz=>z.elim id λz=>z ▸ h⟩⟩
  by_cases hk:k=g
  .rw[Na hk,hk]
  .rw[La hk]
 .obtain⟨e1,e2⟩:=gT (V:=W) (x:=.int (W g:Nat)) h;refine⟨l++[g],e1,e2.trans (by simp),Yi.mpr ⟨nd,Gf.mpr ⟨not_mem_nil,vo⟩,λa ha b hb e=>?_⟩,by simp,λx=>by simp⟩
  rw[cc.mp hb]at e;exact h (e ▸ ha)
end
section
variable{S:List (List Nat)}{rk:List Nat}{c n base:Nat}
noncomputable abbrev He(S:List (List Nat))(rk:List Nat)(c base k X g:Nat):Nat:=Lh rk (Sh S rk c) base k X g
noncomputable abbrev xc(S:List (List Nat))(rk:List Nat)(c base k X:Nat):Nat:=rf rk (Sh S rk c) base k X
def EE(M:Ma S rk c){k X:Nat}(hk:Ac X<=k)(hX:X<2^S.length)(hl:Oc S c X):∃r∈aN X,He S rk c base k X r=xc S rk c base k X:=by
 have h1:=lC hl.1;obtain⟨k,rfl⟩:∃j,k=j+1:=⟨k-1,by omega⟩
 rcases pW M (k+1) X hk hl.1 hX rfl hl (λ_ h=>h) with ⟨Y,hY,hs⟩|⟨_,r,hr,hn⟩
 .obtain⟨_,_,_,i4,_⟩:=fB M hY hl.1 hX;have:=(fH X).length_le_of_subset (l₂:=aN Y) hs;unfold Ac at i4;omega
 .exact⟨r,hr,ay (iB M) hl.1 hX hn⟩
theorem IV{W:Nat->Nat}:∀(m l:List Nat),l.Nodup->∃l',Ai (ba l) (dW W l) (ba m) (dW W m)=(ba l',dW W l')/\l'.Nodup/\∀x,x∈l'↔x∈l\/x∈m
 |[],l,nd=>⟨l,by cases h:ba l<;>rfl,nd,λx=>by simp⟩
 |g::m,l,nd=>by
  obtain⟨l1,e1,e2,n1,_,i1⟩:=HV (W:=W) (g:=g) nd;obtain⟨l2,e3,n2,i2⟩:=IV m l1 n1;refine⟨l2,?_,n2,λx=>?_⟩
  .show Ai (oJ (ba l) (.int g)) (rR (ba l) (dW W l) (.int g) (.int (W g:Nat))) (ba m) (dW W m)=_;rw[e1,e2,e3]
  .rw[i2,i1,Nb];constructor
   .rintro((h|h)|h)
    .exact .inl h
    .exact .inr (.inl h)
    .exact .inr (.inr h)
   .rintro(h|h|h)
    .exact .inl (.inl h)
    .exact .inl (.inr h)
    .exact .inr h
def JV{st:ya}{m:List Nat}(hf:f st=.ok (.jd false (ba m) (dW W m)))(hs:st[i]?=some (some (.o (.d false (ba l)) (dW W l))))(nd:l.Nodup)(h1:l.length<=1000)(h2:m.length<=1000):∃l',Rt i f st=.ok (.nx (st.set i (some (.o (.d false (ba l')) (dW W l')))))/\l'.Nodup/\∀x,x∈l'↔x∈l\/x∈m:=by
 obtain⟨l',e,n',i'⟩:=IV (W:=W) m l nd;refine⟨l',?_,n',i'⟩;unfold Rt;rw[hf,aG];dsimp only;rw[hs];dsimp only;rw[aD ⟨by rw[bD,uc],dR (by rw[uc,uc];omega)⟩,e]
def ϑ{st:ya} {v:Nat} (hg:g st=.ok (.int r)) (hf:f st=.ok (.int v)) (hs:st[i]?=some (some (.o (.d false (ba l)) (dW W l)))) (nd:l.Nodup) (hl:l.length<1000) (hv:r∉l->W r=v):∃l',By i g f st=.ok (.nx (st.set i (some (.o (.d false (ba l')) (dW W l')))))/\l'.Nodup/\∀x,x∈l'↔x∈l\/x=r:=by
 have NI:st.set i (some (.o (.d false (ba l)) (dW W l)))=st:=by
  have hi:=(Kd.mp hs).1;refine wu λj=>?_
  rw[ve]
  by_cases e:i=j
  .subst e;rw[Na rfl,Na hi,hs]
  .rw[La e]
 unfold By;rw[hg,aG,hf,aG,hs];dsimp only;rw[aD ⟨rfl,Jn (by rw[uc];omega)⟩,Uw]
 by_cases h:r∈l
 .exact⟨l,by rw[Ld h,Na rfl,NI],nd,λx=>⟨.inl,λz=>z.elim id λz=>z ▸ h⟩⟩
 .obtain⟨l',e1,e2,n',_,i'⟩:=HV (W:=W) (g:=r) nd;refine⟨l',?_,n',i'⟩;rw[Cd h,La Ef,e1,<-hv h,e2]
def e_(base:Nat)(b:Bool):sU [.int base,.bl b]=.ok (.int (cU base b)):=by
 have t:(e2 Jd (e2 Jd (e2 qU (aB 0) (eC (.int 2))) (eC (.int 0))) (aB 1)) [some (.v (.int base)),some (.v (.bl b))]=.ok (.bl (decide (base%2=0)==b)):=by
  refine aP (aP (aP rfl rfl (xW (by omega))) rfl (Xx _ _)) rfl ((PD _ _).trans ?_)
  have:decide (((base:Nat):Int)%2=0)=decide (base%2=0):=Tq.mpr (by omega)
  rw[this]
 refine cB rfl (dB ?_);show (e2 Jd (e2 Jd (e2 qU (aB 0) (eC (.int 2))) (eC (.int 0))) (aB 1) [some (.v (.int base)),some (.v (.bl b))]).bind _=_;rw[t,aG,jY];unfold cU;cases h:decide (base%2=0)==b
 .rw[La Ef,La Ef];exact aP rfl rfl (by show R.ok (D.int ((base:Int)+1))=_;push_cast;rfl)
 .rw[Na rfl,Na rfl];rfl
abbrev Jk(S:List (List Nat))(rk:List Nat)(c X base:Nat)(W:Nat->Nat)(l:List Nat)(r:Nat)(x5 x6 x7:Option Sl):ya:=[some (.v (mD S rk c)),some (.v (.int X)),some (.v (.int base)),some (.o (.d false (ba l)) (dW W l)),some (.v (.int r)),x5,x6,x7]
def Gives(S:List (List Nat))(rk:List Nat)(c base k X:Nat)(p:List D->R D):Prop:=∃l,p [mD S rk c,.int X,.int base]=.ok (.jd false (ba l) (dW (He S rk c base k X) l))/\l.Nodup/\∀g,g∈l↔g∈aN X
def ϒ(M:Ma S rk c){k:Nat}(hk:Ac Y<=k)(hY:Y<2^S.length)(hl:Oc S c Y) (hm:∀g,g∈l↔g∈aN Y):Cy (.jd false (ba l) (dW (He S rk c base k Y) l))=.ok (.int (xc S rk c base k Y)):=by
 obtain⟨r,hr,er⟩:=EE (base:=base) M hk hY hl;have hz:=lC hl.1;show (tQ (dW (He S rk c base k Y) l)).bind _=_;have e:dW (He S rk c base k Y) l=(l.map λg=>((He S rk c base k Y g:Nat):Int)).map D.int:=by simp
 have Lf:=(hm r).mpr hr;rw[e,tE,aG,aD (by rw[uc];exact BZ Lf)]
 congr 2;refine As (Rc.mpr ⟨r,Lf,by rw[er]⟩) λx hx=>?_
 obtain⟨g,_,rfl⟩:=Rc.mp hx;exact Int.ofNat_le.mpr (Dt (base:=base) M (iB M) k Y hk hl.1 hY g).2
theorem BN(M:Ma S rk c){k X:Nat}(hk:Ac X<=k+1)(h0:X≠0)(hX:X<2^S.length){rec:List D->R D}(oj:∀Y,Ac Y<=k->Oc S c Y->Y<2^S.length->Gives S rk c base k Y rec){x6:Option Sl}:∀(Ys l:List Nat)(r:Nat)(x5 x7:Option Sl),(∀Y∈Ys,Ce S c rk (bb rk X) X Y)->l.Nodup->(∀g∈l,g∈aN X)->
  ∃l' y5 y7,Lb (ib 5) (wJ rec) (ba Ys) (Jk S rk c X base (He S rk c base (k+1) X) l r x5 x6 x7)=.ok (.nx (Jk S rk c X base (He S rk c base (k+1) X) l' (wm (xc S rk c base k) r Ys) y5 x6 y7))/\l'.Nodup/\(∀g∈l',g∈aN X)/\∀g,g∈l'↔g∈l\/∃Y∈Ys,g∈aN Y
 |[],l,r,x5,x7,_,nd,hs=>⟨l,x5,x7,rfl,nd,hs,λg=>⟨.inl,λz=>z.elim id λ⟨_,h,_⟩=>nomatch h⟩⟩
 |Y::Ys,l,r,x5,x7,h,nd,hs=>by
  have hY:=h Y xb;obtain⟨i1,i2,i3,i4,_⟩:=fB M hY h0 hX;obtain⟨m,e1,n1,m1⟩:=oj Y (by omega) i1 i3
  have eW:dW (He S rk c base k Y) m=dW (He S rk c base (k+1) X) m:=Xi λg hg=>by
   show D.int ((Lh rk (Sh S rk c) base k Y g:Nat):Int)=D.int ((Lh rk (Sh S rk c) base (k+1) X g:Nat):Int);rw[sq M (iB M) h0 hX hY ((m1 g).mp hg)]
  have hm8:m.length<=8:=Zd (n1.length_le_of_subset λg hg=>(m1 g).mp hg) (Vj M i3)
  have hl8:l.length<=8:=Zd (nd.length_le_of_subset hs) (Vj M hX);have emax:=ϒ (base:=base) M (k:=k) (by omega) i3 i1 m1
  obtain⟨l1,u1,n2,m2⟩:=JV (W:=He S rk c base (k+1) X) (i:=3) (f:=aB 7) (st:=Jk S rk c X base (He S rk c base (k+1) X) l (max r (xc S rk c base k Y+1)) (some (.v (.int Y))) x6 (some (.v (.jd false (ba m) (dW (He S rk c base k Y) m))))) (l:=l) (m:=m) (by rw[<-eW];rfl) rfl nd (by omega) (by omega)
  have dg:∀g∈l1,g∈aN X:=λg hg=>((m2 g).mp hg).elim (hs g) λz=>(jV.mp (i2 g ((m1 g).mp z))).1
  obtain⟨l',y5,y7,Jf,n3,hs3,m3⟩:=BN M hk h0 hX oj (x6:=x6) Ys l1 (max r (xc S rk c base k Y+1)) (some (.v (.int Y))) (some (.v (.jd false (ba m) (dW (He S rk c base k Y) m)))) (λY hY=>h Y (Bb _ hY)) n2 dg
  refine⟨l',y5,y7,oR (s1:=Jk S rk c X base (He S rk c base (k+1) X) l r (some (.v (.int Y))) x6 x7) rfl (aU (st':=Jk S rk c X base (He S rk c base (k+1) X) l r (some (.v (.int Y))) x6 (some (.v (.jd false (ba m) (dW (He S rk c base k Y) m))))) (bU (aO rfl e1)) (aU (bU (aP rfl (aP (x:=.int (xc S rk c base k Y)) emax rfl rfl) rfl)) ?_)) Jf,n3,hs3,λg=>?_⟩
  .refine Eq.trans ?_ u1;have:(if (((xc S rk c base k Y:Nat):Int)+1)>(r:Int) then (((xc S rk c base k Y:Nat):Int)+1) else (r:Int))=((max r (xc S rk c base k Y+1):Nat):Int):=by
    split<;>omega
   rw[this];rfl
  .rw[m3 g,m2 g,m1 g];constructor
   .rintro((h|h)|⟨Z,hZ,h⟩)
    .exact .inl h
    .exact .inr ⟨Y,xb,h⟩
    .exact .inr ⟨Z,Bb _ hZ,h⟩
   .rintro(h|⟨Z,hZ,h⟩)
    .exact .inl (.inl h)
    .rcases Nb.mp hZ with z|hZ
     .exact .inl (.inr (z ▸ h))
     .exact .inr ⟨Z,hZ,h⟩
theorem YN{rec:List D->R D}{X:Nat}{W:Nat->Nat}{r:Nat}{x5 x7:Option Sl}:∀(gs l:List Nat)(x6:Option Sl),l.Nodup->l.length+gs.length<=100->(∀g∈gs,g∉l->W g=r)->∃l' y6,Lb (ib 6) (wK rec) (ba gs) (Jk S rk c X base W l r x5 x6 x7)=.ok (.nx (Jk S rk c X base W l' r x5 y6 x7))/\l'.Nodup/\∀g,g∈l'↔g∈l\/g∈gs
 |[],l,x6,nd,_,_=>⟨l,x6,rfl,nd,λg=>by simp⟩
 |g::gs,l,x6,nd,hl,h=>by
  rw[Qd]at hl;obtain⟨l1,e1,n1,m1⟩:=ϑ (W:=W) (i:=3) (g:=aB 6) (f:=aB 4) (st:=Jk S rk c X base W l r x5 (some (.v (.int g))) x7) (r:=g) (v:=r) rfl rfl rfl nd (by omega) (h g xb)
  have mI:l1.length<=l.length+1:=by
   have:=n1.length_le_of_subset (l₂:=g::l) λx hx=>by
    rcases (m1 x).mp hx with z|z
    .exact Bb _ z
    .rw[z];exact xb
   rw[Qd]at this;exact this
  obtain⟨l',y6,Jf,n2,m2⟩:=YN (rec:=rec) (X:=X) (W:=W) (r:=r) (x5:=x5) (x7:=x7) gs l1 (some (.v (.int g))) n1 (by omega) λx hx hn=>h x (Bb _ hx) λz=>hn ((m1 x).mpr (.inl z))
  refine⟨l',y6,oR rfl e1 Jf,n2,λx=>?_⟩
  rw[m2 x,m1 x,Nb];constructor
  .rintro((h|h)|h)
   .exact .inl h
   .exact .inr (.inl h)
   .exact .inr (.inr h)
  .rintro(h|h|h)
   .exact .inl (.inl h)
   .exact .inl (.inr h)
   .exact .inr h
theorem LP(M:Ma S rk c):∀(k X:Nat),Ac X<=k->Oc S c X->X<2^S.length->Gives S rk c base k X (jQ k)
 |0,X,hk,h0,_=>by have:=lC h0.1;omega
 |k+1,X,hk,hl,hX=>by
  have h8:=Vj M hX;obtain⟨e0,_,i0⟩:=QD M hX hl.1;obtain⟨l1,y5,y7,e1,n1,s1,m1⟩:=BN (base:=base) M hk hl.1 hX (λY h1 h2 h3=>LP M k Y h1 h2 h3) (x6:=none) (Sh S rk c X) [] (cU base (bb rk X)) none none (λY hY=>(i0 Y).mp hY) vo (λ_ h=>nomatch h)
  have mI:l1.length<=8:=Zd (n1.length_le_of_subset s1) h8;obtain⟨l2,y6,Jf,n2,m2⟩:=YN (S:=S) (rk:=rk) (c:=c) (base:=base) (rec:=jQ k) (X:=X) (W:=He S rk c base (k+1) X) (r:=xc S rk c base (k+1) X) (x5:=y5) (x7:=y7) (aN X) l1 none n1 (by omega) λg hg hn=>ay (iB M) hl.1 hX λY hY hgY=>hn ((m1 g).mpr (.inr ⟨Y,(i0 Y).mpr hY,hgY⟩))
  refine⟨l2,cB rfl ?_,n2,λg=>?_⟩
  .refine aU (st':=[some (.v (mD S rk c)),some (.v (.int X)),some (.v (.int base)),some (.o (.d false []) []),none,none,none,none]) rfl ?_
   refine aU (st':=Jk S rk c X base (He S rk c base (k+1) X) [] (cU base (bb rk X)) none none none) (bU (aO (aW rfl (aW (Fx M hX hl.1 rfl rfl) rfl)) (e_ _ _))) ?_
   refine aU (oO (rW (aO rfl e0)) e1) ?_
   refine aU (oO (rW (kR M hX rfl)) Jf) ?_
   exact dB rfl
  .rw[m2 g,m1 g];constructor
   .rintro((h|⟨Y,hY,h⟩)|h)
    .exact nomatch h
    .exact(jV.mp ((fB M ((i0 Y).mp hY) hl.1 hX).2.1 g h)).1
    .exact h
   .exact .inr
noncomputable def wU(S:List (List Nat))(rk:List Nat)(c base g:Nat):Nat:=match (rD S c).find? λX=>X.testBit g with
 |some X=>He S rk c base 12 X g
 |none=>base
def Fp(M:Ma S rk c){X g:Nat}(hX:X∈rD S c)(hg:g∈aN X):wU S rk c base g=He S rk c base 12 X g:=by
 unfold wU;cases hf:(rD S c).find? λX=>X.testBit g with
 |none=>exact(List.find?_eq_none.mp hf X hX (aR.mp hg)).elim
 |some Z=>
  have h1:=RG hf;rw[uU M jW hX (az hf) hg (aR.mpr h1)]
def Ww{g:Nat}(h:∀X∈rD S c,g∉aN X):wU S rk c base g=base:=by
 unfold wU;cases hf:(rD S c).find? λX=>X.testBit g with
 |none=>rfl
 |some Z=>exact(h Z (az hf) (aR.mpr (by simpa using List.find?_some hf))).elim
noncomputable abbrev Et(S:List (List Nat))(rk:List Nat)(c base:Nat)(l:List Nat)(x3:Option Sl):ya:=[some (.v (mD S rk c)),some (.v (.int base)),some (.o (.d false (ba l)) (dW (wU S rk c base) l)),x3,none]
theorem ZN(M:Ma S rk c):∀(Xs l:List Nat)(x3:Option Sl),(∀X∈Xs,X∈rD S c)->l.Nodup->(∀g∈l,g<S.length)->∃l' y3,Lb (ib 3) sL (ba Xs) (Et S rk c base l x3)=.ok (.nx (Et S rk c base l' y3))/\l'.Nodup/\(∀g∈l',g<S.length)/\∀g,g∈l'↔g∈l\/∃X∈Xs,g∈aN X
 |[],l,x3,_,nd,hs=>⟨l,x3,rfl,nd,hs,λg=>⟨.inl,λz=>z.elim id λ⟨_,h,_⟩=>nomatch h⟩⟩
 |X::Xs,l,x3,h,nd,hs=>by
  have hX:=h X xb;obtain⟨f1,f2,f3⟩:=dM M jW hX;have n8:=M.most;have h8:Ac X<=12:=Zd (Vj M f3) (by omega)
  obtain⟨m,e1,n1,m1⟩:=LP (base:=base) M 12 X h8 f1 f3;have eW:dW (He S rk c base 12 X) m=dW (wU S rk c base) m:=Xi λg hg=>by rw[Fp M hX ((m1 g).mp hg)]
  have hm8:m.length<=8:=Zd (n1.length_le_of_subset λg hg=>(m1 g).mp hg) (Vj M f3)
  have hl8:l.length<=S.length:=lA _ _ nd hs;rw[eW]at e1;obtain⟨l1,u1,n2,m2⟩:=JV (W:=wU S rk c base) (i:=2) (f:=aK oN (aA (aB 0) (aA (aB 3) (aA (aB 1) aL)))) (st:=Et S rk c base l (some (.v (.int X)))) (l:=l) (m:=m) (aO rfl e1) rfl nd (by omega) (by omega)
  have dg:∀g∈l1,g<S.length:=λg hg=>((m2 g).mp hg).elim (hs g) λz=>bH f3 ((m1 g).mp z)
  obtain⟨l',y3,Jf,n3,s3,m3⟩:=ZN M Xs l1 (some (.v (.int X))) (λX hX=>h X (Bb _ hX)) n2 dg
  refine⟨l',y3,oR rfl u1 Jf,n3,s3,λg=>?_⟩
  rw[m3 g,m2 g,m1 g];constructor
  .rintro((h|h)|⟨Z,hZ,h⟩)
   .exact .inl h
   .exact .inr ⟨X,xb,h⟩
   .exact .inr ⟨Z,Bb _ hZ,h⟩
  .rintro(h|⟨Z,hZ,h⟩)
   .exact .inl (.inl h)
   .rcases Nb.mp hZ with z|hZ
    .exact .inl (.inr (z ▸ h))
    .exact .inr ⟨Z,hZ,h⟩
def f_{b:Bd} {st s:ya} (h:b st=.ok (.nx s)) (hf:f s=.ok (.lst xs)):uO b f st=.ok (.rt (.lst xs)):=by
 unfold uO;rw[h];dsimp only;rw[hf,aG]
noncomputable def nC(S:List (List Nat))(rk:List Nat)(c base:Nat):List Nat:=(List.range S.length).map (wU S rk c base)
def DT(M:Ma S rk c)(base:Nat):eY [mD S rk c,.int base]=.ok (.lst (ba (nC S rk c base))):=by
 obtain⟨l,y3,e,nd,hs,m⟩:=ZN (base:=base) M (rD S c) [] none (λ_ h=>h) vo (λ_ h=>nomatch h)
 have n8:=M.most;refine cB rfl ?_
 refine f_ (aU (st':=Et S rk c base [] none) rfl (aU (oO (rW (aO rfl (sR M))) e) rfl)) ?_
 refine nG (oq (n:=S.length) Rw (by omega)) (by simp;omega) ?_
 have:=oU (tg:=ib 4) (C:=cH) (E:=tW) (st:=Et S rk c base l y3) (q:=λ_=>true) (G:=λg=>D.int (wU S rk c base g:Nat)) (List.range S.length) λg hg=>⟨_,rfl,rfl,by
  show aV (Fb false (.int g)=true) (if oH (ba l) (.int g)=true then Xc (uK (ba l) (dW (wU S rk c base) l) (.int g)) else .ok (.int base))=_
  rw[aD (show Fb false (.int g)=true from rfl),Uw]
  by_cases h:g∈l
  .rw[Ld h,Na rfl,wQ (λg=>D.int (wU S rk c base g:Nat)) h]
   rfl
  .rw[Cd h,La Ef,Ww λX hX hgX=>h ((m g).mpr (.inr ⟨X,hX,hgX⟩))]⟩
 refine Eq.trans this ?_
 rw[qz.mpr (λ_ _=>rfl)]
 unfold nC ba;rw[ug];rfl
end
section
variable{S:List (List Nat)}{rk:List Nat}{c n base:Nat}
inductive Ch (S:List (List Nat)) (c:Nat) (rk:List Nat) (g:Bool):Nat->Nat->Prop
 |one {Z:Nat}:Oc S c Z->bb rk Z=g->Ch S c rk g Z 1
 |up {Y Z m:Nat}:Ch S c rk g Y m->Oc S c Z->lB Y Z->bb rk Y≠bb rk Z->Ch S c rk g Z (m+1)
def Ch.lp{g:Bool} (h:Ch S c rk g Z m):Oc S c Z:=by
 cases h with
 |one h _=>exact h
 |up _ h _ _=>exact h
def LV(hs:lB Y Z)(Ee:Y≠Z):Ac Y<Ac Z:=by
 by_cases h:∀r∈aN Z,r∈aN Y
 .exact(Ee (Zx hs h)).elim
 .obtain⟨r,hr⟩:=Classical.not_forall.mp h;obtain⟨hr,hn⟩:=Classical.not_imp.mp hr;exact XE hs hr hn
def tq{g:Bool} (h:Ch S c rk g Z m):1<=m/\m<=Ac Z:=by
 induction h with
 |one h _=>exact⟨Cb _,lC h.1⟩
 |up _ _ hs he ih=>exact⟨by omega,Nat.lt_of_le_of_lt ih.2 (LV hs λz=>he (by rw[z]))⟩
theorem FE{P:Nat->Prop}:∀B:Nat,(∀m,P m->m<=B)->∃v,(v=0\/P v)/\∀m,P m->m<=v
 |0,h=>⟨0,.inl rfl,h⟩
 |B+1,h=>by
  by_cases hb:P (B+1)
  .exact⟨B+1,.inr hb,h⟩
  .exact FE B λm hm=>by
    have:=h m hm;have:m≠B+1:=λz=>hb (z ▸ hm)
    omega
noncomputable def Tv(S:List (List Nat))(c:Nat)(rk:List Nat)(g:Bool)(Z:Nat):Nat:=(FE (P:=Ch S c rk g Z) (Ac Z) λm hm=>(tq hm).2).choose
def ET(g:Bool)(Z:Nat):(Tv S c rk g Z=0\/Ch S c rk g Z (Tv S c rk g Z))/\∀m,Ch S c rk g Z m->m<=Tv S c rk g Z:=(FE (P:=Ch S c rk g Z) (Ac Z) λm hm=>(tq hm).2).choose_spec
open Classical in
noncomputable def Qj(S:List (List Nat))(c:Nat):List Nat:=(List.range (2^S.length)).filter λm=>decide (Oc S c m/\lB m (vO S c))
open Classical in
def rE{m:Nat}:m∈Qj S c↔m<2^S.length/\Oc S c m/\lB m (vO S c):=by
 unfold Qj;rw[je,Qc];exact⟨λh=>⟨h.1,Zj h.2⟩,λh=>⟨h.1,Ld h.2⟩⟩
def Xw(M:Ma S rk c){X:Nat}(h:X∈rD S c):X∈Qj S c:=by
 obtain⟨a,b,d⟩:=dM M jW h;exact rE.mpr ⟨d,a,b⟩
def UC(M:Ma S rk c) (h:Z∈Qj S c):∃X∈rD S c,lB Z X:=by
 obtain⟨_,b,d⟩:=rE.mp h;exact CT M jW b d
def xY(M:Ma S rk c){X:Nat}(h:X∈rD S c):Ac X<=12/\Oc S c X/\X<2^S.length:=by
 obtain⟨a,_,d⟩:=dM M jW h;exact⟨Zd (Vj M d) (by omega),a,d⟩
noncomputable def eU(S:List (List Nat))(c:Nat)(rk:List Nat)(g:Bool):Int:=if (Qj S c).map (λZ=>((Tv S c rk g Z:Nat):Int))=[] then 0 else Sg ((Qj S c).map λZ=>((Tv S c rk g Z:Nat):Int))
def jR(g:Bool):0<=eU S c rk g/\(∀Z∈Qj S c,∀m:Nat,Ch S c rk g Z m->(m:Int)<=eU S c rk g)/\(eU S c rk g=0\/∃Z∈Qj S c,∃m:Nat,Ch S c rk g Z m/\(m:Int)=eU S c rk g):=by
 unfold eU;split
 .rename_i h;have h:=List.map_eq_nil_iff.mp h;rw[h];exact⟨by omega,λ_ z=>(nomatch z),.inl rfl⟩
 .rename_i h;obtain⟨h1,h2⟩:=oT h;obtain⟨Z,hZ,e⟩:=Rc.mp h1;obtain⟨s1,s2⟩:=ET (S:=S) (c:=c) (rk:=rk) g Z;rw[<-e];refine⟨by omega,λY hY m hm=>?_,?_⟩
  .have a:=h2 _ (Rc.mpr ⟨Y,hY,rfl⟩);have b:=(ET (S:=S) (c:=c) (rk:=rk) g Y).2 m hm;rw[<-e]at a;omega
  .rcases s1 with s1|s1
   .exact .inl (by omega)
   .exact .inr ⟨Z,hZ,_,s1,rfl⟩
def MP:(nC S rk c base).length=S.length:=by unfold nC;simp
def RD(M:Ma S rk c):Ma S (nC S rk c base) c:=⟨M.one,M.most,M.c1,M.c3,M.row,MP⟩
def AR(h:r<S.length):(nC S rk c base).getD r 0=wU S rk c base r:=by
 unfold nC;rw[xf,Vg,uz h];rfl
def ϓ(M:Ma S rk c) (h:Z∈Qj S c):tZ (nC S rk c base) Z%2=tZ rk Z%2:=by
 obtain⟨X,hX,hs⟩:=UC M h;obtain⟨z1,z2,_⟩:=rE.mp h;obtain⟨x1,x2,x3⟩:=xY M hX;obtain⟨T,⟨g,hg,eg⟩,hle,Bv⟩:=EV (base:=base) M (iB M) 12 X x1 x2.1 x3 z2 hs;have at':∀r∈aN Z,((nC S rk c base).getD r 0:Int)=((Lh rk (Sh S rk c) base 12 X r:Nat):Int):=λr hr=>by
  rw[AR (bH z1 hr),Fp M hX (hs r hr)]
 have e:tZ (nC S rk c base) Z=(T:Int):=by
  refine As (Rc.mpr ⟨g,hg,by rw[at' g hg,eg]⟩) λx hx=>?_
  obtain⟨r,hr,rfl⟩:=Rc.mp hx;rw[at' r hr];exact Int.ofNat_le.mpr (hle r hr)
 rw[e];unfold bb at Bv;rw[Ff]at Bv;omega
def bH8{v:Nat}(h:Row S c rk base Z v):∃g m,Ch S c rk g Z m/\v+1=cU base g+m:=by
 induction h with
 |one h=>exact⟨_,1,.one h rfl,rfl⟩
 |up _ h1 h2 h3 ih=>
  obtain⟨g,m,hc,e⟩:=ih;exact⟨g,m+1,.up hc h1 h2 h3,by omega⟩
def bH9{g:Bool} (h:Ch S c rk g Z m):∃v,Row S c rk base Z v/\v+1=cU base g+m:=by
 induction h with
 |one h hg=>exact⟨_,.one h,by rw[hg]⟩
 |up _ h1 h2 h3 ih=>
  obtain⟨v,hr,e⟩:=ih;exact⟨v+1,.up hr h1 h2 h3,by omega⟩
def ϔ(M:Ma S rk c)(g:Nat):base<=wU S rk c base g:=by
 by_cases h:∃X∈rD S c,g∈aN X
 .obtain⟨X,hX,hg⟩:=h;obtain⟨x1,x2,x3⟩:=xY M hX;rw[Fp M hX hg];exact(Dt (base:=base) M (iB M) 12 X x1 x2.1 x3 g).1
 .rw[Ww λX hX hg=>h ⟨X,hX,hg⟩]
  exact Cb _
end
structure og(S T:List (List Nat))(rk Hb:List Nat)(c:Nat)(π:Nat->Nat)(od mo:Nat):Prop where
 lt:∀x,x<T.length->π x<S.length
 st:∀x,x<T.length->∀k,k<c->π (Mb T x k)=Mb S (π x) k
 z:π 0=0
 rk:∀x,x<T.length->Hb.getD x 0=od*rk.getD (π x) 0+mo
 odd:od%2=1
 ev:mo%2=0
def lh(π:Nat->Nat)(Z:Nat):Nat:=fC ((aN Z).map π)
section
variable{S T:List (List Nat)}{rk Hb:List Nat}{c od mo:Nat}{π:Nat->Nat}{g:Bool}
def mU{Z:Nat}:r∈aN (lh π Z)↔∃x∈aN Z,π x=r:=by
 unfold lh;rw[gY,Rc]
def WW(C:og S T rk Hb c π od mo) (hZ:Z<2^T.length):lh π Z<2^S.length:=qI λr hr=>by
 obtain⟨x,hx,rfl⟩:=Rc.mp hr;exact C.lt x (bH hZ hx)
def YE(h:Z≠0):lh π Z≠0:=λz=>by
 obtain⟨x,hx⟩:=iu _ (nA h);have:π x∈aN (lh π Z):=mU.mpr ⟨x,hx,rfl⟩;rw[z]at this;exact absurd (aR.mp this) (by simp)
def Rn(C:og S T rk Hb c π od mo) (h0:Z≠0) (hZ:Z<2^T.length):bb Hb Z=bb rk (lh π Z):=by
 obtain⟨⟨x,hx,ex⟩,ux⟩:=tK (rk:=Hb) h0;obtain⟨⟨r,hr,er⟩,ur⟩:=tK (rk:=rk) (YE (π:=π) h0);obtain⟨y,hy,rfl⟩:=mU.mp hr;have e1:=C.rk x (bH hZ hx);have e2:=C.rk y (bH hZ hy);have u1:=ux y hy;have u2:=ur (π x) (mU.mpr ⟨x,hx,rfl⟩);have key:tZ Hb Z=od*tZ rk (lh π Z)+mo:=by
  rw[<-ex,<-er,e1];have h1:rk.getD (π x) 0<=rk.getD (π y) 0:=by omega
  have h2:rk.getD (π y) 0<=rk.getD (π x) 0:=by
   have h3:od*rk.getD (π y) 0<=od*rk.getD (π x) 0:=by omega
   have h4:0<od:=by have:=C.odd;omega
   exact Nat.le_of_mul_le_mul_left h3 h4
  rw[show rk.getD (π x) 0=rk.getD (π y) 0 by omega]
  simp
 have o:=C.odd;have e:=C.ev;unfold bb;refine Tq.mpr ?_
 rw[key];obtain⟨q,hq⟩:∃q:Int,(od:Int)=2*q+1:=⟨((od/2:Nat):Int),by omega⟩
 obtain⟨p,hp⟩:∃p:Int,(mo:Int)=2*p:=⟨((mo/2:Nat):Int),by omega⟩
 rw[hq,hp,Int.add_mul,Int.one_mul,Int.mul_assoc];omega
def MV(C:og S T rk Hb c π od mo)(M':Ma T Hb c){Cm:Nat->Bool}{a b:Nat}(ha:a<T.length)(Kl:∀g,Cm g=true->al (π g)=true)(h:qc T c Cm a b):qc S c al (π a) (π b):=by
 induction h with
 |here=>exact .here
 |@on r k h1 hl hx ih=>
  have hr:=Ln M' ha h1;have:=Kl _ hx;rw[C.st r hr k hl]at this ⊢;exact .on ih hl this
def FT(M:Ma S rk c){x:Nat}(hZ:Z<2^S.length)(h:Oc S c Z)(hx:x∈aN Z):∃k,k<c/\Mb S x k∈aN Z:=by
 by_cases hb:∃b∈aN Z,b≠x
 .obtain⟨b,hb,ne⟩:=hb;have:∀{b},qc S c (Bf Z) x b->b≠x->∃k,k<c/\Mb S x k∈aN Z:=λ{b} h=>by
   induction h with
   |here=>exact λz=>absurd rfl z
   |@on r k h1 hl ha ih=>
    intro _
    by_cases e:r=x
    .subst e;exact⟨k,hl,aR.mpr ha⟩
    .exact ih e
  exact this (h.2.1 x hx b hb) ne
 .have all:∀b∈aN Z,b=x:=λb uf=>Zk λz=>hb ⟨b,uf,z⟩
  have hr:=h.2.2;unfold Ab at hr;have one:¬ 1<(aN Z).length:=λz=>by
   have nd:=fH Z;generalize aN Z=L at nd all z
   match L,z with
   |a::b::l,_=>
    have e1:=all a (by simp)
    have e2:=all b (by simp)
    simp[e1,e2]at nd
  have hd:(aN Z).headD 0=x:=by
   generalize aN Z=L at all hx;cases L with
   |nil=>nomatch hx
   |cons a l=>exact all a xb
  rw[Cd one,Iz,Ff,hd]at hr;obtain⟨k,h1,h2⟩:=(tY M (bH hZ hx)).mp hr;exact⟨k,h1,by rw[h2];exact hx⟩
def BR(M:Ma S rk c){Z:Nat}(hZ:Z<2^S.length)(h0:Z≠0)(h:∀x∈aN Z,∃k,k<c/\Mb S x k∈aN Z):Ab S Z=true:=by
 unfold Ab
 by_cases hl:1<(aN Z).length
 .rw[Ld hl];rfl
 .rw[Cd hl,Iz,Ff];have ne:=nA h0;generalize hL:aN Z=L at hl ne h
  match L,hl with
  |[x],_=>
   have hx:x∈aN Z:=by rw[hL];exact cc.mpr rfl
   obtain⟨k,h1,h2⟩:=h x (cc.mpr rfl);exact(tY M (bH hZ hx)).mpr ⟨k,h1,cc.mp h2⟩
  |[],_=>exact absurd rfl ne
  |x::y::l,hl=>simp at hl
def ZE(C:og S T rk Hb c π od mo)(M:Ma S rk c)(M':Ma T Hb c) (hZ:Z<2^T.length) (h:Oc T c Z):Oc S c (lh π Z):=by
 refine⟨YE h.1,λa ha b hb=>?_,BR M (WW C hZ) (YE h.1) λr hr=>?_⟩
 .obtain⟨x,hx,rfl⟩:=mU.mp ha;obtain⟨y,hy,rfl⟩:=mU.mp hb;exact MV C M' (bH hZ hx) (λg hg=>aR.mp (mU.mpr ⟨g,aR.mpr hg,rfl⟩)) (h.2.1 x hx y hy)
 .obtain⟨x,hx,rfl⟩:=mU.mp hr;obtain⟨k,h1,h2⟩:=FT M' hZ h hx;exact⟨k,h1,by rw[<-C.st x (bH hZ hx) k h1];exact mU.mpr ⟨_,h2,rfl⟩⟩
def sub_lt{k:Nat}(h:lB Y Z)(hZ:Z<2^k):Y<2^k:=by
 rw[<-lY Y];exact qI λr hr=>bH hZ (h r hr)
def bHa(h:lB Y Z):lB (lh π Y) (lh π Z):=λr hr=>by
 obtain⟨x,hx,e⟩:=mU.mp hr;exact mU.mpr ⟨x,h x hx,e⟩
def bKs(C:og S T rk Hb c π od mo)(M:Ma S rk c)(M':Ma T Hb c) (h:Ch T c Hb g Z m):Z<2^T.length->Ch S c rk g (lh π Z) m:=by
 induction h with
 |one hL e=>exact λhZ=>.one (ZE C M M' hZ hL) (by rw[<-Rn C hL.1 hZ];exact e)
 |@up Y Z m hY hL hs ne ih=>
  intro hZ;have Co:=sub_lt hs hZ;exact .up (ih Co) (ZE C M M' hZ hL) (bHa hs) (by rw[<-Rn C hY.lp.1 Co,<-Rn C hL.1 hZ];exact ne)
def wV(π:Nat->Nat)(n Y:Nat):Nat:=fC ((List.range n).filter λx=>Y.testBit (π x))
def Hs{x:Nat}:x∈aN (wV π n Y)↔x<n/\π x∈aN Y:=by
 unfold wV;rw[gY,je,Qc,aR]
structure Cl(S T:List (List Nat))(c:Nat)(π:Nat->Nat)(Y A:Nat):Prop where
 lt:A<2^T.length
 ne:A≠0
 pr:∀x∈aN A,π x∈aN Y
 on:∀x∈aN A,∀k,k<c->Mb S (π x) k∈aN Y->Mb T x k∈aN A
theorem DR(f:Nat->Nat):∀{l:List Nat},l≠[]->∃x∈l,∀y∈l,f x<=f y
 |[x],_=>⟨x,cc.mpr rfl,λy hy=>by rw[cc.mp hy];exact Cb _⟩
 |x::z::l,_=>by
  obtain⟨y,hy,h⟩:=DR f (l:=z::l) (by simp)
  by_cases hxy:f x<=f y
  .refine⟨x,xb,λw hw=>?_⟩
   rcases Nb.mp hw with rfl|hw
   .exact Cb _
   .have:=h w hw;omega
  .refine⟨y,Bb _ hy,λw hw=>?_⟩
   rcases Nb.mp hw with rfl|hw
   .omega
   .exact h w hw
def K6{Cm:Nat->Bool}{a b:Nat}(h:qc T c al a b):(∀z,qc T c al a z->Cm z=true)->qc T c Cm a b:=by
 induction h with
 |here=>exact λ_=>.here
 |on h1 hl ha ih=>exact λhz=>.on (ih hz) hl (hz _ (.on h1 hl ha))
def dU(M':Ma T Hb c){x y:Nat}(hx:x<T.length):y∈aN (dC T c n x)↔qc T c (Bf n) x y:=by
 rw[aR];exact fV M' hx y
def IT(C:og S T rk Hb c π od mo)(M':Ma T Hb c){x:Nat}(hx:x<T.length)(hp:π x∈aN Y):Cl S T c π Y (dC T c (wV π T.length Y) x):=by
 have lt:∀y∈aN (dC T c (wV π T.length Y) x),y<T.length:=λy hy=>Ln M' hx ((dU M' hx).mp hy)
 have pr:∀y∈aN (dC T c (wV π T.length Y) x),π y∈aN Y:=λy hy=>(Hs.mp (aR.mpr (bt (al:=Bf (wV π T.length Y)) (aR.mp (Hs.mpr ⟨hx,hp⟩)) ((dU M' hx).mp hy)))).2
 refine⟨wO,λz=>?_,pr,λy hy k hk hY=>?_⟩
 .have:x∈aN (dC T c (wV π T.length Y) x):=(dU M' hx).mpr .here;rw[z]at this;exact absurd (aR.mp this) (by simp)
 .obtain⟨_,_,_,Qb⟩:=xX M' (lt y hy) hk;exact(dU M' hx).mpr (.on ((dU M' hx).mp hy) hk (aR.mp (Hs.mpr ⟨Qb,by rw[C.st y (lt y hy) k hk];exact hY⟩)))
def term(C:og S T rk Hb c π od mo)(M:Ma S rk c)(M':Ma T Hb c){A:Nat}(hY:Oc S c Y)(Co:Y<2^S.length)(hA:Cl S T c π Y A):∃D,lB D A/\Cl S T c π Y D/\Oc T c D/\lh π D=Y:=by
 obtain⟨x,hx,low⟩:=DR (λx=>Ac (dC T c (wV π T.length Y) x)) (nA hA.ne)
 have kn:∀y∈aN A,y<T.length:=λy hy=>bH hA.lt hy
 have inA:∀{a b:Nat},a∈aN A->qc T c (Bf (wV π T.length Y)) a b->b∈aN A:=λ{a b} ha h=>by
  induction h with
  |here=>exact ha
  |@on r k h1 hl hx ih=>
   have:=(Hs.mp (aR.mpr hx)).2;rw[C.st r (kn r ih) k hl]at this;exact hA.on r ih k hl this
 have cl:=IT C M' (kn x hx) (hA.pr x hx);have sub:lB (dC T c (wV π T.length Y) x) A:=λy hy=>inA hx ((dU M' (kn x hx)).mp hy)
 have same:∀y∈aN (dC T c (wV π T.length Y) x),dC T c (wV π T.length Y) y=dC T c (wV π T.length Y) x:=λy hy=>by
  have iA:=sub y hy;have s1:lB (dC T c (wV π T.length Y) y) (dC T c (wV π T.length Y) x):=λz hz=>(dU M' (kn x hx)).mpr (qc.trans ((dU M' (kn x hx)).mp hy) ((dU M' (kn y iA)).mp hz))
  refine Zk λne=>?_
  have:=LV s1 ne;have:=low y iA;omega
 have Ae:∀y∈aN (dC T c (wV π T.length Y) x),∀k,k<c->Mb S (π y) k∈aN Y->Mb T y k∈aN (dC T c (wV π T.length Y) x):=cl.on;refine⟨_,sub,cl,⟨cl.ne,λa ha b hb=>?_,BR M' cl.lt cl.ne λy hy=>?_⟩,Zx (λr hr=>?_) λr hr=>?_⟩
 .have uf:=hb;rw[<-same a ha]at uf;have Kl:=kn a (sub a ha);refine K6 ((dU M' Kl).mp uf) λz hz=>aR.mp ?_
  rw[<-same a ha];exact(dU M' Kl).mpr hz
 .obtain⟨k,h1,h2⟩:=FT M Co hY (cl.pr y hy);exact⟨k,h1,Ae y hy k h1 h2⟩
 .obtain⟨y,hy,rfl⟩:=mU.mp hr;exact cl.pr y hy
 .have lift:∀{p r:Nat},qc S c (Bf Y) p r->∀y∈aN (dC T c (wV π T.length Y) x),π y=p->∃z∈aN (dC T c (wV π T.length Y) x),π z=r:=λ{p r} h=>by
   induction h with
   |here=>exact λy hy e=>⟨y,hy,e⟩
   |@on r k h1 hl ha ih=>
    intro y hy e;obtain⟨z,hz,ez⟩:=ih y hy e;have hk:Mb S (π z) k∈aN Y:=by rw[ez];exact aR.mpr ha
    exact⟨_,Ae z hz k hl hk,by rw[C.st z (bH cl.lt hz) k hl,ez]⟩
  have hxx:x∈aN (dC T c (wV π T.length Y) x):=(dU M' (kn x hx)).mpr .here;obtain⟨z,hz,e⟩:=lift (hY.2.1 (π x) (hA.pr x hx) r hr) x hxx rfl;exact mU.mpr ⟨z,hz,e⟩
def ϕ(C:og S T rk Hb c π od mo)(M:Ma S rk c)(M':Ma T Hb c) (h:Ch S c rk g Z m):Z<2^S.length->∀D,Cl S T c π Z D->Oc T c D->lh π D=Z->Ch T c Hb g D m:=by
 induction h with
 |one hL e=>exact λ_ D hc hl hi=>.one hl (by rw[Rn C hl.1 hc.lt,hi];exact e)
 |@up Y Z m hY hL hs ne ih=>
  intro hZ D hc hl hi;have Co:=sub_lt hs hZ;have yj:∀x,x∈aN (fC ((aN D).filter λx=>Y.testBit (π x)))↔x∈aN D/\π x∈aN Y:=λx=>by rw[gY,je,aR (n:=Y)]
  have cA:Cl S T c π Y (fC ((aN D).filter λx=>Y.testBit (π x))):=by
   refine⟨qI λr hr=>bH hc.lt (je.mp hr).1,λz=>?_,λx hx=>((yj x).mp hx).2,λx hx k hk hy=>?_⟩
   .obtain⟨r,hr⟩:=iu _ (nA hY.lp.1);have h1:=hs r hr;rw[<-hi]at h1;obtain⟨x,hx,rfl⟩:=mU.mp h1;have:=(yj x).mpr ⟨hx,hr⟩;rw[z]at this;exact absurd (aR.mp this) (by simp)
   .have W0:=((yj x).mp hx).1;exact(yj _).mpr ⟨hc.on x W0 k hk (hs _ hy),by rw[C.st x (bH hc.lt W0) k hk];exact hy⟩
  obtain⟨E,sE,cE,lE,iE⟩:=term C M M' hY.lp Co cA;refine .up (ih Co E cE lE iE) hl (λx hx=>((yj x).mp (sE x hx)).1) ?_
  rw[Rn C lE.1 cE.lt,Rn C hl.1 hc.lt,iE,hi];exact ne
def bHb(C:og S T rk Hb c π od mo)(M:Ma S rk c)(M':Ma T Hb c){x:Nat}(hx:x∈aN (vO T c)):π x∈aN (vO S c):=by
 have h:=(dU M' M'.one).mp hx;have:=MV C M' (al:=Bf (fC (List.range S.length))) M'.one (λg hg=>by
  show (fC (List.range S.length)).testBit (π g)=true;rw[gF,Ff];have gh:g∈aN (fC (List.range T.length)):=aR.mpr hg;rw[gY]at gh;exact Qc.mpr (C.lt g (Qc.mp gh))) h
 rw[C.z]at this;exact(dU M M.one).mpr this
def g_(C:og S T rk Hb c π od mo)(M:Ma S rk c)(M':Ma T Hb c) (hr:r∈aN (vO S c)):∃x∈aN (vO T c),π x=r:=by
 have h:=(dU M M.one).mp hr;have:∀{r:Nat},qc S c (Bf (fC (List.range S.length))) 0 r->∃x∈aN (vO T c),π x=r:=λ{r} h=>by
  induction h with
  |here=>exact⟨0,(dU M' M'.one).mpr .here,C.z⟩
  |@on r k h1 hl ha ih=>
   obtain⟨x,hx,rfl⟩:=ih;have Hh:=bH jW hx;obtain⟨_,_,_,Qb⟩:=xX M' Hh hl;refine⟨Mb T x k,(dU M' M'.one).mpr (.on ((dU M' M'.one).mp hx) hl ?_),C.st x Hh k hl⟩;show (fC (List.range T.length)).testBit _=true;rw[gF,Ff];exact Qc.mpr Qb
 exact this h
def ϖ(C:og S T rk Hb c π od mo)(M:Ma S rk c)(M':Ma T Hb c)(g:Bool):eU S c rk g=eU T c Hb g:=by
 obtain⟨a0,a1,a2⟩:=jR (S:=S) (c:=c) (rk:=rk) g;obtain⟨b0,b1,b2⟩:=jR (S:=T) (c:=c) (rk:=Hb) g;have h1:eU S c rk g<=eU T c Hb g:=by
  rcases a2 with a2|⟨Z,hZ,m,hm,e⟩
  .omega
  .obtain⟨z1,z2,z3⟩:=rE.mp hZ;obtain⟨r,hr⟩:=iu _ (nA z2.1);obtain⟨x,hx,rfl⟩:=g_ C M M' (z3 r hr);have Hh:=bH jW hx;obtain⟨D,sD,cD,lD,iD⟩:=term C M M' z2 z1 (IT C M' Hh hr);rw[<-e];refine b1 D (rE.mpr ⟨cD.lt,lD,λy hy=>?_⟩) m (ϕ C M M' hm z1 D cD lD iD)
   have h2:=(dU M' Hh).mp (sD y hy);refine(dU M' M'.one).mpr (qc.trans ((dU M' M'.one).mp hx) (qc.mono (λg hg=>?_) h2))
   show (fC (List.range T.length)).testBit g=true;rw[gF,Ff];exact Qc.mpr (Hs.mp (aR.mpr hg)).1
 have h2:eU T c Hb g<=eU S c rk g:=by
  rcases b2 with b2|⟨Z,hZ,m,hm,e⟩
  .omega
  .obtain⟨z1,z2,z3⟩:=rE.mp hZ;rw[<-e];refine a1 (lh π Z) (rE.mpr ⟨WW C z1,ZE C M M' z1 z2,λr hr=>?_⟩) m (bKs C M M' hm z1)
   obtain⟨x,hx,rfl⟩:=mU.mp hr;exact bHb C M M' (z3 x hx)
 omega
end
section
variable {f:Nat->Nat} {s e:Nat}
theorem HE(hf:∀n,97<=f n/\(f n:Int)<97+c){al:Nat->Bool}{m:Nat}:∀k,(∀j,m<j->j<=m+k->al (fw S f q j)=true)->qc S c al (fw S f q m) (fw S f q (m+k))
 |0,_=>.here
 |k+1,h=>by
  have ih:=HE hf (al:=al) (m:=m) k λj h1 h2=>h j h1 (by omega)
  have h3:=h (m+k+1) (by omega) (by omega)
  have hk:=hf (m+k);exact qc.on (l:=f (m+k)-97) ih (by omega) h3
def NP(M:Ma S rk c)(hf:∀n,97<=f n/\(f n:Int)<97+c)(hq:q<S.length)(L:Lp S f q s e):Oc S c (fC (gc S f q s e)):=by
 have hl:=L.lt;have mem:∀{x},x∈aN (fC (gc S f q s e))↔∃n,s<=n/\n<e/\fw S f q n=x:=λ{x}=>by rw[gY,nJ]
 have al:∀j,s<=j->Bf (fC (gc S f q s e)) (fw S f q j)=true:=λj hj=>by
  obtain⟨m,a1,a2,a3⟩:=L.into j hj;exact aR.mp (mem.mpr ⟨m,a1,a2,a3.symm⟩)
 have h0:fw S f q s∈aN (fC (gc S f q s e)):=mem.mpr ⟨s,Cb _,hl,rfl⟩;refine⟨λz=>?_,λa ha b hb=>?_,?_⟩
 .rw[z,aR,dr]at h0;cases h0
 .obtain⟨i,i1,i2,rfl⟩:=mem.mp ha;obtain⟨j,j1,j2,rfl⟩:=mem.mp hb;have:=HE (S:=S) (q:=q) hf (al:=Bf (fC (gc S f q s e))) (m:=i) (j+(e-s)-i) λk h1 h2=>al k (by omega)
  rw[show i+(j+(e-s)-i)=j+(e-s) by omega,L.at j j1]at this
  exact this
 .unfold Ab
  by_cases h1:1<(aN (fC (gc S f q s e))).length
  .rw[Ld h1];rfl
  .have h2:fw S f q (s+1)∈aN (fC (gc S f q s e)):=aR.mpr (al (s+1) (by omega))
   have:=hf s;cases hm:aN (fC (gc S f q s e)) with
   |nil=>rw[hm]at h0;cases h0
   |cons x T=>
    rw[hm]at h0 h1 h2;have hT:T=[]:=by
     cases T with
     |nil=>rfl
     |cons y T=>simp at h1
    subst hT;have e0:=cc.mp h0;have e1:=cc.mp h2;have:x∈S.getD x []:=(tY M (by rw[<-e0];exact Ik M hf hq s)).mpr ⟨f s-97,by omega,by
     have h9:Mb S (fw S f q s) (f s-97)=fw S f q (s+1):=rfl;rw[e0,e1]at h9;exact h9⟩
    rw[or_eq_true];exact .inr (Ld this)
def i8(M:Ma S rk c)(hf:∀n,97<=f n/\(f n:Int)<97+c)(hq:q<S.length)(n:Nat):fw S f q n∈aN (dC S c (fC (List.range S.length)) q):=by
 refine aR.mpr ((fV M hq _).mpr ?_);have:=HE (S:=S) (q:=q) hf (al:=λg=>(fC (List.range S.length)).testBit g) (m:=0) n λj _ _=>by
  show (fC (List.range S.length)).testBit _=true;rw[gF];exact Ld (Qc.mpr (Ik M hf hq j))
 rw[Eu]at this;exact this
end
section
variable{S:List (List Nat)}{rk:List Nat}{c base:Nat}
theorem OP(M:Ma S rk c):∀(k X:Nat),Ac X<=k->Oc S c X->X<2^S.length->∀v,base<v->v<=xc S rk c base k X->∃r∈aN X,He S rk c base k X r=v
 |0,X,hk,h0,_,_,_,_=>by have:=lC h0.1;omega
 |k+1,X,hk,h0,hX,v,hb,hv=>by
  by_cases he:v=xc S rk c base (k+1) X
  .rw[he];exact EE M hk hX h0
  .rcases rq (base:=base) (iB M) (k:=k) h0.1 hX with e|⟨Y,hY,e⟩
   .have:cU base (bb rk X)<=base+1:=by unfold cU;split<;>omega
    have e':xc S rk c base (k+1) X=cU base (bb rk X):=e;omega
   .obtain⟨i1,i2,i3,i4,i5⟩:=fB M hY h0.1 hX;have e':xc S rk c base (k+1) X=xc S rk c base k Y+1:=e;obtain⟨r,hr,er⟩:=OP M k Y (by omega) i1 i3 v hb (by omega)
    exact⟨r,(jV.mp (i2 r hr)).1,by rw[<-er];exact sq M (iB M) h0.1 hX hY hr⟩
theorem JT(M:Ma S rk c):∀(k X:Nat),Ac X<=k->Oc S c X->X<2^S.length->(∀r∈aN X,He S rk c base k X r≠base)->xc S rk c base k X=xc S rk c (base+1) k X
 |0,X,hk,h0,_,_=>by have:=lC h0.1;omega
 |k+1,X,hk,h0,hX,hn=>by
  have Er:∀Y,Ce S c rk (bb rk X) X Y->xc S rk c base k Y=xc S rk c (base+1) k Y/\Oc S c Y/\Ac Y<=k/\bb rk Y≠bb rk X/\cU base (bb rk Y)<=xc S rk c base k Y:=λY hY=>by
   obtain⟨i1,i2,i3,i4,i5⟩:=fB M hY h0.1 hX;refine⟨JT M k Y (by omega) i1 i3 λr hr z=>hn r (jV.mp (i2 r hr)).1 ?_,i1,by omega,i5,?_⟩
   .exact(sq M (iB M) h0.1 hX hY hr).trans z
   .have:=lC i1.1;obtain⟨j,rfl⟩:∃j,k=j+1:=⟨k-1,by omega⟩
    exact Gs
  obtain⟨r,hr,er⟩:=EE (base:=base) M hk hX h0;have ne:=hn r hr;rw[er]at ne;have le1:cU base (bb rk X)<=xc S rk c base (k+1) X:=Gs;have le2:cU (base+1) (bb rk X)<=xc S rk c (base+1) (k+1) X:=Gs;have up1:∀Y,Ce S c rk (bb rk X) X Y->xc S rk c base k Y<xc S rk c base (k+1) X:=λY hY=>Dy (iB M) h0.1 hX hY
  have up2:∀Y,Ce S c rk (bb rk X) X Y->xc S rk c (base+1) k Y<xc S rk c (base+1) (k+1) X:=λY hY=>Dy (iB M) h0.1 hX hY
  have low:cU (base+1) (bb rk X)<=xc S rk c base (k+1) X:=by
   rcases rq (base:=base) (iB M) (k:=k) h0.1 hX with e|⟨Y,hY,e⟩
   .have e':xc S rk c base (k+1) X=cU base (bb rk X):=e;revert e' ne;unfold cU;cases bb rk X<;>rcases du base with h|h<;>simp[h] <;> (try rw[show (base+1)%2=0 by omega]) <;> (try rw[show (base+1)%2=1 by omega]) <;> simp<;>omega
   .have e':xc S rk c base (k+1) X=xc S rk c base k Y+1:=e;obtain⟨_,_,_,j4,j5⟩:=Er Y hY;revert j4 j5;unfold cU;cases bb rk X<;>cases bb rk Y<;>rcases du base with h|h<;>simp[h] <;> (try rw[show (base+1)%2=0 by omega]) <;> (try rw[show (base+1)%2=1 by omega]) <;> simp<;>omega
  have a:xc S rk c base (k+1) X<=xc S rk c (base+1) (k+1) X:=by
   rcases rq (base:=base) (iB M) (k:=k) h0.1 hX with e|⟨Y,hY,e⟩
   .have e':xc S rk c base (k+1) X=cU base (bb rk X):=e;have:cU base (bb rk X)<=cU (base+1) (bb rk X):=by
     unfold cU;cases bb rk X<;>rcases du base with h|h<;>simp[h] <;> (try rw[show (base+1)%2=0 by omega]) <;> (try rw[show (base+1)%2=1 by omega]) <;> simp<;>omega
    omega
   .have e':xc S rk c base (k+1) X=xc S rk c base k Y+1:=e;have:=(Er Y hY).1;have:=up2 Y hY;omega
  have b:xc S rk c (base+1) (k+1) X<=xc S rk c base (k+1) X:=by
   rcases rq (base:=base+1) (iB M) (k:=k) h0.1 hX with e|⟨Y,hY,e⟩
   .have e':xc S rk c (base+1) (k+1) X=cU (base+1) (bb rk X):=e;omega
   .have e':xc S rk c (base+1) (k+1) X=xc S rk c (base+1) k Y+1:=e;have:=(Er Y hY).1;have:=up1 Y hY;omega
  omega
def Yw(base:Nat)(g:Bool):cU base g=if g=decide (base%2=0) then base else base+1:=by
 unfold cU;cases g<;>rcases du base with h|h<;>simp[h]
abbrev lF(base:Nat):Bool:=decide (base%2=0)
def h_:cU (base+1) (lF base)=base+2:=by
 rw[Yw,La];show ¬ decide (base%2=0)=decide ((base+1)%2=0);rcases du base with h|h
 .simp[h];omega
 .simp[h];omega
noncomputable def Bi(S:List (List Nat))(c:Nat)(rk:List Nat)(base:Nat):Int:=if eU S c rk (!lF base)<eU S c rk (lF base) then eU S c rk (lF base)-1 else eU S c rk (lF base)
def NV(M:Ma S rk c){X:Nat}(hX:X∈rD S c):(xc S rk c base 12 X:Int)<=base+eU S c rk (lF base)-1\/(xc S rk c base 12 X:Int)<=base+eU S c rk (!lF base):=by
 obtain⟨x1,x2,x3⟩:=xY M hX;obtain⟨g,m,hc,e⟩:=bH8 (GV (base:=base) M (iB M) 12 X x1 x2 x3);have hb:=(jR (S:=S) (c:=c) (rk:=rk) g).2.1 X (Xw M hX) m hc;rw[Yw]at e
 by_cases hg:g=lF base
 .subst hg;rw[Na rfl]at e;left;have e':xc S rk c base 12 X+1=base+m:=e;omega
 .rw[La hg]at e;have:g=!lF base:=by revert hg;cases g<;>cases lF base<;>simp
  subst this;right;have e':xc S rk c base 12 X+1=base+1+m:=e;omega
def VC(M:Ma S rk c) {g:Bool} (hZ:Z∈Qj S c) (hc:Ch S c rk g Z m):∃X∈rD S c,cU base g+m<=xc S rk c base 12 X+1:=by
 obtain⟨X,hX,hs⟩:=UC M hZ;obtain⟨x1,x2,x3⟩:=xY M hX;obtain⟨v,hr,e⟩:=bH9 (base:=base) hc;have:=(FV M (iB M) 12 X x1 x2.1 x3 hr hs).1;refine⟨X,hX,?_⟩;show cU base g+m<=rf rk (Sh S rk c) base 12 X+1;omega
def MT(M:Ma S rk c){X:Nat}(hX:X∈rD S c)(hr:r∈aN X):r∈aN (vO S c):=(dM M jW hX).2.1 r hr
def ϗ(M:Ma S rk c)(hle:eU S c rk (!lF base)<=eU S c rk (lF base)):∃r∈aN (vO S c),wU S rk c base r=base:=by
 have zs:0∈aN (vO S c):=aR.mpr ((fV (n:=fC (List.range S.length)) M M.one 0).mpr .here);obtain⟨p0,p1,p2⟩:=jR (S:=S) (c:=c) (rk:=rk) (lF base);obtain⟨q0,q1,q2⟩:=jR (S:=S) (c:=c) (rk:=rk) (!lF base);rcases p2 with e|⟨Z,hZ,m,hm,e⟩
 .refine⟨0,zs,Ww λX hX _=>?_⟩
  obtain⟨x1,x2,x3⟩:=xY M hX
  by_cases hg:bb rk X=lF base
  .have:=p1 X (Xw M hX) 1 (.one x2 hg);omega
  .have:=q1 X (Xw M hX) 1 (.one x2 (by revert hg;cases bb rk X<;>cases lF base<;>simp))
   omega
 .obtain⟨X,hX,hb⟩:=VC (base:=base+1) M hZ hm;obtain⟨x1,x2,x3⟩:=xY M hX;refine Zk λno=>?_
  have same:=JT (base:=base) M 12 X x1 x2 x3 λr hr z=>no ⟨r,MT M hX hr,by rw[Fp M hX hr];exact z⟩
  rw[h_,<-same]at hb;rcases NV (base:=base) M hX with h|h<;>omega
def Ϙ(M:Ma S rk c)(hle:eU S c rk (!lF base)<=eU S c rk (lF base))(r:Nat):(wU S rk c base r:Int)<=base+Bi S c rk base:=by
 have p0:=(jR (S:=S) (c:=c) (rk:=rk) (lF base)).1;have q0:=(jR (S:=S) (c:=c) (rk:=rk) (!lF base)).1;unfold Bi
 by_cases h:∃X∈rD S c,r∈aN X
 .obtain⟨X,hX,hr⟩:=h;obtain⟨x1,x2,x3⟩:=xY M hX;rw[Fp M hX hr];have:=(Dt (base:=base) M (iB M) 12 X x1 x2.1 x3 r).2;have:(He S rk c base 12 X r:Int)<=xc S rk c base 12 X:=by
   have t:He S rk c base 12 X r<=xc S rk c base 12 X:=this;omega
  rcases NV (base:=base) M hX with h|h<;>split<;>omega
 .rw[Ww λX hX hr=>h ⟨X,hX,hr⟩]
  split<;>omega
def ϙ(M:Ma S rk c)(hle:eU S c rk (!lF base)<=eU S c rk (lF base)){v:Nat}(h1:base<=v)(h2:(v:Int)<=base+Bi S c rk base):∃r∈aN (vO S c),wU S rk c base r=v:=by
 by_cases hv:v=base
 .rw[hv];exact ϗ M hle
 .obtain⟨p0,p1,p2⟩:=jR (S:=S) (c:=c) (rk:=rk) (lF base);obtain⟨q0,q1,q2⟩:=jR (S:=S) (c:=c) (rk:=rk) (!lF base);have ho:cU base (lF base)=base:=by rw[Yw,Na rfl]
  have hn:cU base (!lF base)=base+1:=by
   rw[Yw,La λz=>?_]
   have z':(!lF base)=lF base:=z;generalize lF base=b at z';cases b<;>cases z'
  obtain⟨X,hX,hb⟩:∃X∈rD S c,v<=xc S rk c base 12 X:=by
   unfold Bi at h2;split at h2
   .rcases p2 with e|⟨Z,hZ,m,hm,e⟩
    .omega
    .obtain⟨X,hX,hb⟩:=VC (base:=base) M hZ hm;exact⟨X,hX,by omega⟩
   .rcases q2 with e|⟨Z,hZ,m,hm,e⟩
    .omega
    .obtain⟨X,hX,hb⟩:=VC (base:=base) M hZ hm;exact⟨X,hX,by omega⟩
  obtain⟨x1,x2,x3⟩:=xY M hX;obtain⟨r,hr,e⟩:=OP (base:=base) M 12 X x1 x2 x3 v (Nat.lt_of_le_of_ne h1 (tf hv)) hb;exact⟨r,MT M hX hr,by rw[Fp M hX hr];exact e⟩
def j8(M:Ma S rk c)(hle:eU S c rk (!lF base)<=eU S c rk (lF base)) (nd:l.Nodup) (hl:∀v,v∈l↔∃r∈aN (vO S c),wU S rk c base r=v):(l.length:Int)=Bi S c rk base+1:=by
 have p0:=(jR (S:=S) (c:=c) (rk:=rk) (lF base)).1;have q0:=(jR (S:=S) (c:=c) (rk:=rk) (!lF base)).1;have t0:0<=Bi S c rk base:=by unfold Bi;split<;>omega
 obtain⟨t,ht⟩:=Int.eq_ofNat_of_zero_le t0;have hp:l.Perm (List.range' base (t+1)):=(List.perm_ext_iff_of_nodup nd List.nodup_range').mpr λv=>by
  rw[hl,KG];constructor
  .rintro⟨r,_,rfl⟩;have:=ϔ (base:=base) M r;have:=Ϙ (base:=base) M hle r;omega
  .intro h;exact ϙ M hle h.1 (by omega)
 rw[hp.length_eq,List.length_range',ht];omega
end
section
variable{Hb:List Nat}{od base:Nat} {f:Nat->Nat}
def dy(h:l≠[]):mx rk l=tZ rk (fC l):=by
 rw[XS (l2:=aN (fC l)) h λr=>by rw[gY]]
 rfl
def OV(M:Ma S rk c)(hf:∀n,97<=f n/\(f n:Int)<97+c){v:Bool}(h:Ev S rk f 0 v)(h':Ev S (nC S rk c base) f 0 v'):v=v':=by
 obtain⟨s,e,L,rfl⟩:=h;have:=Ev.alone h' ⟨s,e,L,rfl⟩;rw[this,dy (Tp L.lt),dy (Tp L.lt),ϓ M (rE.mpr ⟨qI λr hr=>?_,NP M hf M.one L,λr hr=>?_⟩)]
 .obtain⟨n,_,_,rfl⟩:=nJ.mp hr;exact Ik M hf M.one n
 .rw[gY]at hr;obtain⟨n,_,_,rfl⟩:=nJ.mp hr;exact i8 M hf M.one n
theorem dt(C:og S T rk Hb c π od mo)(M':Ma T Hb c)(hf:∀n,97<=f n/\(f n:Int)<97+c):∀n,fw S f 0 n=π (fw T f 0 n)
 |0=>C.z.symm
 |n+1=>by
  have h:=hf n;show Mb S (fw S f 0 n) (f n-97)=π (Mb T (fw T f 0 n) (f n-97));rw[C.st _ (Ik M' hf M'.one n) _ (by omega),dt C M' hf n]
def bHc(C:og S T rk Hb c π od mo)(M':Ma T Hb c)(hf:∀n,97<=f n/\(f n:Int)<97+c){v:Bool}(h:Ev S rk f 0 v)(h':Ev T Hb f 0 v'):v=v':=by
 obtain⟨s,e,L,rfl⟩:=h';have L2:Lp S f 0 s e:=⟨L.lt,L.T1,by rw[dt C M' hf,dt C M' hf,L.eq]⟩
 rw[Ev.alone h ⟨s,e,L2,rfl⟩,dy (Tp L.lt),dy (Tp L.lt)];have Qb:fC (gc T f 0 s e)<2^T.length:=qI λr hr=>by
  obtain⟨n,_,_,rfl⟩:=nJ.mp hr;exact Ik M' hf M'.one n
 have:=Rn C (NP M' hf M'.one L).1 Qb;have e2:lh π (fC (gc T f 0 s e))=fC (gc S f 0 s e):=Zx (λr hr=>by
   obtain⟨x,hx,rfl⟩:=mU.mp hr;rw[gY]at hx ⊢;obtain⟨n,h1,h2,rfl⟩:=nJ.mp hx;exact nJ.mpr ⟨n,h1,h2,dt C M' hf n⟩) λr hr=>by
   rw[gY]at hr;obtain⟨n,h1,h2,rfl⟩:=nJ.mp hr;exact mU.mpr ⟨_,by rw[gY];exact nJ.mpr ⟨n,h1,h2,rfl⟩,(dt C M' hf n).symm⟩
 rw[e2]at this;exact this.symm
end
theorem QP{α:Type}{tg:Tg}{C E:Ex}{st:ya}{F G:α->D}{q:α->Bool}:∀(ks:List α),(∀k∈ks,∃s1,tg (F k) st=.ok s1/\C s1=.ok (.bl (q k))/\(q k=true->E s1=.ok (G k)))->iQ tg C E st (ks.map F)=.ok ((ks.filter q).map G)
 |[],_=>rfl
 |k::ks,h=>by
  obtain⟨s1,a1,a2,a3⟩:=h k xb;have ih:=QP ks λk hk=>h k (Bb _ hk)
  rw[wc,jZ,a1,aG,a2,aG,jY];cases hq:q k with
  |true=>rw[Kq hq,wc,Na rfl,a3 hq,aG,ih];rfl
  |false=>rw[Lq (by rw[hq];decide),La Ef,ih]
section
variable{ns:List Int}{cl f:Int}{n c:Nat}
def We(ns:List Int)(mo cl f:Int)(n c:Nat)(S rk:List D)(x9 Nc Hc si:Option Sl):ya:=
 [some (.v (.lst (ns.map D.int))),some (.v (.int 0)),some (.v (.int mo)),some (.v (.int cl)),some (.v (.int n)),some (.v (.int c)),some (.v (.int f)),some (.o .l S),some (.o .l rk),x9,Nc,Hc,si,none]
def WC(r:List Nat)(k v:Nat):(ba r).set k (.int (v:Int))=ba (r.set k v):=by
 unfold ba;rw[List.map_set]
def Ϛ(S:List (List Nat))(r:List Nat):Sa (S++[r])=Sa S++[.lst (ba r)]:=by unfold Sa;simp
def o8(rk:List Nat){v:Int}(h:0<=v):ba (rk++[v.toNat])=ba rk++[.int v]:=by
 unfold ba;rw[Hf,List.map_singleton,Wq h]
def ϛ{v f:Int}(h0:0<=v)(h7:v<7):jO (.int v) (.int f)=.ok (.int (v*f)):=aD (.inl ⟨by omega,by omega⟩)
def bHd{e:Ex}{st:ya} {j:Int} (he:e st=.ok d) (hg:g st=.ok (.int j)) (hs:st[i]?=some (some (.o .l xs))) (h0:0<=j) (h1:j<xs.length):Pt i g e st=.ok (.nx (st.set i (some (.o .l (xs.set j.toNat d))))):=by
 have:lc xs.length j=some j.toNat:=by
  unfold lc;rw[Na h0,Na h1]
 rw[Η,he,aG,hg,aG,hs];show R.bind (Xc (lc xs.length j)) _=_;rw[this];rfl
def L6(mo:Int)(hf:0<=f)(hn:1<=n/\n<=8)(hc:1<=c/\c<=3)(S:List (List Nat))(rk:List Nat)(hS:S.length<=1000)(Q0:rk.length<=1000)(x:Nat)(hx:x<n)(Nc Hc si:Option Sl) :
  ∃r v Ie Je xi,lO (We ns mo cl f n c (Sa S) (ba rk) (some (.v (.int x))) Nc Hc si)=.ok (.nx (We ns mo cl f n c (Sa (S++[r])) (ba (rk++[v])) (some (.v (.int x))) Ie Je xi))/\r.length=c/\∀z∈r,z<n:=by
 have Hg:=pU ns (0+2+x) (by omega) (by omega)
 generalize dh ns (0+2+(x:Int)).toNat=one at Hg;have n0:(0:Int)<n:=by omega
 have c0:(0:Int)<c:=by omega
 obtain⟨r0,e0,l0,b0⟩:=mP (E:=wH) (st:=We ns mo cl f n c (Sa S) (ba rk) (some (.v (.int x))) (some (.v (.int one))) Hc si) (j:=13) (v:=5) (n:=c) (m:=n) rfl (by omega) (λk hk=>⟨pF one (11+k) n,aO rfl (jL _ _ _ n0),mC _ _ n0⟩)
 have m0:=jL one 10 7 (by decide)
 obtain⟨m1,m2⟩:=mC one 10 (m:=7) (by decide)
 generalize pF one 10 7=rv at m0 m1 m2;obtain⟨r1,yf,l1,b1⟩:=mP (E:=lM) (st:=We ns mo cl f n c (Sa S) (ba rk) (some (.v (.int x))) (some (.v (.int one))) (some (.o .l (ba r0))) (some (.v (.int rv)))) (j:=13) (v:=5) (n:=c) (m:=n) rfl (by omega) (λk hk=>by
  have go:∀w:Int,0<w/\w<1073741824->Wb [D.int 1,.int 8,.int 64] (k:Int)=some (.int w)->∃i,lM (((We ns mo cl f n c (Sa S) (ba rk) (some (.v (.int x))) (some (.v (.int one))) (some (.o .l (ba r0))) (some (.v (.int rv)))).set 13 none).set 13 (some (.v (.int k))))=.ok (.int i)/\0<=i/\i<n:=λw hw ha=>by
   refine⟨one/w%n,aP (aP rfl (aP (fQ rfl) rfl (?_:_=R.ok (D.int w))) (Ep hw)) rfl (xW n0),Lm _ (by omega),Yq _ n0⟩
   show Xc (Wb [D.int 1,.int 8,.int 64] (k:Int))=_;rw[ha];rfl
  have h3:k=0\/k=1\/k=2:=by omega
  rcases h3 with rfl|rfl|rfl
  .exact go 1 (by decide) rfl
  .exact go 8 (by decide) rfl
  .exact go 64 (by decide) rfl)
 have m6:=jL cl 6 2 (by decide)
 have m3:=jL cl 3 2 (by decide)
 have m8:=jL one 8 4 (by decide)
 have m9:=jL one 9 c c0;obtain⟨m91,m92⟩:=mC one 9 (m:=c) c0;have up:∀{r:List Nat}{v:Int}(b:Bd),0<=v->v<7->r.length=c->(∀z∈r,z<n)->b (We ns mo cl f n c (Sa S) (ba rk) (some (.v (.int x))) (some (.v (.int one))) (some (.o .l (ba r0))) (some (.v (.int rv))))=.ok (.nx (We ns mo cl f n c (Sa S) (ba rk) (some (.v (.int x))) (some (.v (.int one))) (some (.o .l (ba r))) (some (.v (.int v)))))->
   ∃r v Ie Je xi,(bG b (bG (Yg [11] (xh 7 (aB 11))) (xh 8 (e2 jO (aB 12) (aB 6))))) (We ns mo cl f n c (Sa S) (ba rk) (some (.v (.int x))) (some (.v (.int one))) (some (.o .l (ba r0))) (some (.v (.int rv))))=.ok (.nx (We ns mo cl f n c (Sa (S++[r])) (ba (rk++[v])) (some (.v (.int x))) Ie Je xi))/\r.length=c/\∀z∈r,z<n:=λ{r v} b h0 h7 hl hr h=>by
  refine⟨r,(v*f).toNat,some (.v (.int one)),some (.v (.lst (ba r))),some (.v (.int v)),aU h ?_,hl,hr⟩;rw[Ϛ,o8 rk (Int.mul_nonneg h0 hf)];refine aU (st':=We ns mo cl f n c (Sa S++[.lst (ba r)]) (ba rk) (some (.v (.int x))) (some (.v (.int one))) (some (.v (.lst (ba r)))) (some (.v (.int v)))) ?_ ?_
  .exact Rp (st:=We ns mo cl f n c (Sa S) (ba rk) (some (.v (.int x))) (some (.v (.int one))) (some (.v (.lst (ba r)))) (some (.v (.int v)))) rfl rfl (by rw[nH];omega)
  .exact Rp (aP rfl rfl (ϛ h0 h7)) rfl (by rw[bD];omega)
 have key:∃r v Ie Je xi,(bG (gd (e2 Jd (aK bI (aA (aB 3) (aA (eC (.int 6)) (aA (eC (.int 2)) aL)))) (eC (.int 0))) (bG (qW 11 (dI [13] (ib 13) (uL (aB 5)) cH lM)) (dH 12 (e2 qU (e2 zW (aB 10) (eC (.int 512))) (eC (.int 7))))) (gd (xO (e2 Jd (aK bI (aA (aB 3) (aA (eC (.int 3)) (aA (eC (.int 2)) aL)))) (eC (.int 0))) (e2 Xg (aK bI (aA (aB 10) (aA (eC (.int 8)) (aA (eC (.int 4)) aL)))) (eC (.int 0)))) (Pt 11 (aK bI (aA (aB 10) (aA (eC (.int 9)) (aA (aB 5) aL)))) (e2 qU (e2 gP (aB 9) (eC (.int 1))) (aB 4))) eQ)) (bG (Yg [11] (xh 7 (aB 11))) (xh 8 (e2 jO (aB 12) (aB 6))))) (We ns mo cl f n c (Sa S) (ba rk) (some (.v (.int x))) (some (.v (.int one))) (some (.o .l (ba r0))) (some (.v (.int rv))))=.ok (.nx (We ns mo cl f n c (Sa (S++[r])) (ba (rk++[v])) (some (.v (.int x))) Ie Je xi))/\r.length=c/\∀z∈r,z<n:=by
  have t6:=aP (op:=Jd) (f:=aK bI (aA (aB 3) (aA (eC (.int 6)) (aA (eC (.int 2)) aL)))) (g:=eC (.int 0)) (st:=We ns mo cl f n c (Sa S) (ba rk) (some (.v (.int x))) (some (.v (.int one))) (some (.o .l (ba r0))) (some (.v (.int rv)))) (aO rfl m6) rfl (Xx _ _)
  by_cases h6:pF cl 6 2=0
  .rw[Ld h6]at t6;refine up (r:=r1) (v:=one/512%7) _ (Lm _ (by decide)) (Yq _ (by decide)) l1 (λz hz=>by have:=b1 z hz;omega) (zh t6 ?_)
   exact aU (st':=We ns mo cl f n c (Sa S) (ba rk) (some (.v (.int x))) (some (.v (.int one))) (some (.o .l (ba r1))) (some (.v (.int rv)))) (qH yf) (bU (aP (aP rfl rfl (Ep (by decide))) rfl (xW (by decide))))
  .rw[Cd h6]at t6;have t3:=AE (st:=We ns mo cl f n c (Sa S) (ba rk) (some (.v (.int x))) (some (.v (.int one))) (some (.o .l (ba r0))) (some (.v (.int rv)))) (aP (aO (r:=aA (aB 3) (aA (eC (.int 3)) (aA (eC (.int 2)) aL))) rfl m3) (rfl:eC (.int 0) _=_) (Xx _ _)) (λ_=>aP (op:=Xg) (aO (r:=aA (aB 10) (aA (eC (.int 8)) (aA (eC (.int 4)) aL))) rfl m8) (rfl:eC (.int 0) _=_) rfl)
   cases h3:decide (pF cl 3 2=0)&&decide (0<pF one 8 4) with
   |true=>
    rw[h3]at t3;have hv:((x:Int)+1)%n=(((x+1)%n:Nat):Int):=by push_cast;rfl
    have hp:=WC r0 (pF one 9 c).toNat ((x+1)%n);rw[<-hv]at hp;refine up (r:=r0.set (pF one 9 c).toNat ((x+1)%n)) (v:=rv) _ m1 m2 (by rw[vg];exact l0) (λz hz=>by
     rcases MY hz with hz|rfl
     .have:=b0 z hz;omega
     .exact mod_lt _ (by omega)) (tX t6 (zh t3 ?_))
    rw[<-hp];exact bHd (aP (aP rfl rfl rfl) rfl (xW n0)) (aO rfl m9) rfl m91 (by rw[bD,l0];exact m92)
   |false=>
    rw[h3]at t3;exact up (r:=r0) (v:=rv) _ m1 m2 l0 (λz hz=>by have:=b0 z hz;omega) (tX t6 (tX t3 rfl))
 obtain⟨r,v,Ie,Je,xi,hk,hl,hr⟩:=key;refine⟨r,v,Ie,Je,xi,?_,hl,hr⟩;exact aU (st':=We ns mo cl f n c (Sa S) (ba rk) (some (.v (.int x))) (some (.v (.int one))) Hc si) (bU (aO rfl Hg)) (aU (st':=We ns mo cl f n c (Sa S) (ba rk) (some (.v (.int x))) (some (.v (.int one))) (some (.o .l (ba r0))) si) (qH e0) (aU (st':=We ns mo cl f n c (Sa S) (ba rk) (some (.v (.int x))) (some (.v (.int one))) (some (.o .l (ba r0))) (some (.v (.int rv)))) (bU (aO rfl m0)) hk))
theorem iO(mo:Int)(hf:0<=f)(hn:1<=n/\n<=8)(hc:1<=c/\c<=3):∀(ks:List Nat) (S:List (List Nat)) (rk:List Nat) (x9 Nc Hc si:Option Sl),(∀x∈ks,x<n)->S.length+ks.length<=1000->rk.length=S.length->(∀r∈S,r.length=c/\∀z∈r,z<n)->
  ∃S' Hb y9 Ie Je xi,Lb (ib 9) lO (ks.map λ(k:Nat)=>D.int (k:Int)) (We ns mo cl f n c (Sa S) (ba rk) x9 Nc Hc si)=.ok (.nx (We ns mo cl f n c (Sa S') (ba Hb) y9 Ie Je xi))/\S'.length=S.length+ks.length/\Hb.length=S'.length/\∀r∈S',r.length=c/\∀z∈r,z<n
 |[],S,rk,x9,Nc,Hc,si,_,_,he,hr=>⟨S,rk,x9,Nc,Hc,si,rfl,rfl,he,hr⟩
 |x::ks,S,rk,x9,Nc,Hc,si,hk,hl,he,hr=>by
  rw[Qd]at hl;obtain⟨r,v,Ie,Je,xi,t,tl,tr⟩:=L6 (ns:=ns) (cl:=cl) mo hf hn hc S rk (by omega) (by omega) x (hk x xb) Nc Hc si
  obtain⟨S',Hb,z9,yw,zw,z12,e,h1,h2,h3⟩:=iO mo hf hn hc ks (S++[r]) (rk++[v]) (some (.v (.int x))) Ie Je xi (λx hx=>hk x (Bb _ hx)) (by rw[we,Ci];omega) (by rw[we,we,Ci,Ci,he]) (λr' Pe=>by
   rcases Ed.mp Pe with h|h
   .exact hr r' h
   .rw[cc.mp h];exact⟨tl,tr⟩)
  refine⟨S',Hb,z9,yw,zw,z12,?_,by rw[h1,we,Ci,Qd];omega,h2,h3⟩
  rw[<-e,wc,wC];show (lO (We ns mo cl f n c (Sa S) (ba rk) (some (.v (.int x))) Nc Hc si)).bind _=_;rw[t];rfl
end
def bKt{xs:List D}{a:Int}(h:xs.length=4)(h0:0<=a)(h1:a<4):∃d∈xs,Ta (.lst xs) (.int a)=.ok d:=by
 obtain⟨d,hd,e⟩:=VS h0 (show a<xs.length by omega)
 exact⟨d,hd,by show Xc (Wb xs a)=_;rw[e];rfl⟩
def i_(ns:List Int){mo:Int}(h1:1<=mo)(h8:mo<=8):∃S rk c,kE [.lst (ns.map D.int),.int 0,.int mo]=.ok (.tup [.lst (Sa S),.lst (ba rk)])/\Ma S rk c/\(S.length:Int)<=mo:=by
 have D0:=pU ns 0 (by decide) (by decide)
 have F0:=pU ns (0+1) (by decide) (by decide)
 generalize dh ns (0:Int).toNat=cl at D0;generalize dh ns (0+1:Int).toNat=cl1 at F0
 let st (x3 x4 x5 x6 x7 x8:Option Sl):ya:=[some (.v (.lst (ns.map D.int))),some (.v (.int 0)),some (.v (.int mo)),x3,x4,x5,x6,x7,x8,none,none,none,none,none]
 have m1:=jL cl 1 mo (by omega)
 obtain⟨m11,m12⟩:=mC cl 1 (m:=mo) (by omega)
 have m2:=jL cl 2 3 (by decide)
 obtain⟨m21,m22⟩:=mC cl 2 (m:=3) (by decide)
 obtain⟨n,hn⟩:∃n:Nat,1+pF cl 1 mo=n:=⟨(1+pF cl 1 mo).toNat,by omega⟩
 obtain⟨c,hc⟩:∃c:Nat,1+pF cl 2 3=c:=⟨(1+pF cl 2 3).toNat,by omega⟩
 obtain⟨f,hf,f0⟩:∃f:Int,e2 Ta (iR (aA (eC (.int 1)) (aA (eC (.int 1)) (aA (eC (.int 1)) (aA (e2 gP (eC (.int 1)) (e2 jO (eC (.int 2)) (e2 qU (aK cI (aA (aB 0) (aA (e2 gP (aB 1) (eC (.int 1))) aL))) (e2 xq (eC (.int 10)) (eC (.int 27)))))) aL))))) (aK bI (aA (aB 3) (aA (eC (.int 4)) (aA (eC (.int 4)) aL)))) (st (some (.v (.int cl))) (some (.v (.int n))) (some (.v (.int c))) none none none)=.ok (.int f)/\0<=f:=by
  obtain⟨a1,a2⟩:=mC cl 4 (m:=4) (by decide)
  have g0:0<=cl1%10^27:=Lm _ (by decide)
  obtain⟨d,hd,e⟩:=bKt (xs:=[.int 1,.int 1,.int 1,.int (1+2*(cl1%10^27))]) rfl a1 a2;have:∃w:Int,d=.int w/\0<=w:=by
   simp only[mem_cons,not_mem_nil,or_false]at hd;rcases hd with rfl|rfl|rfl|rfl
   .exact⟨1,rfl,by decide⟩
   .exact⟨1,rfl,by decide⟩
   .exact⟨1,rfl,by decide⟩
   .exact⟨_,rfl,by omega⟩
  obtain⟨w,rfl,hw⟩:=this;refine⟨w,aP (fQ (aW rfl (aW rfl (aW rfl (aW (aP rfl (aP rfl (aP (aO rfl F0) (aP rfl rfl (?_:_=R.ok (D.int (10^27)))) (xW (j:=10^27) (by decide))) (?_:_=R.ok (D.int (2*(cl1%10^27))))) rfl) rfl))))) (aO rfl (jL cl 4 4 (by decide))) e,hw⟩
  .exact aD ⟨by decide,by decide,by decide⟩
  .exact aD (.inl (by decide))
 obtain⟨S,rk,y9,Ie,Je,xi,e,k1,k2,k3⟩:=iO (ns:=ns) (cl:=cl) (f:=f) (n:=n) (c:=c) mo f0 (by omega) (by omega) (List.range n) [] [] none none none none (λx hx=>Qc.mp hx) (by simp;omega) rfl (λ_ h=>nomatch h)
 rw[Im,Fz,Eu]at k1;refine⟨S,rk,c,cB rfl ?_,⟨by omega,by omega,by omega,by omega,by rw[k1];exact k3,k2⟩,by omega⟩
 refine aU (st':=st (some (.v (.int cl))) none none none none none) (bU (aO rfl D0)) ?_
 refine aU (st':=st (some (.v (.int cl))) (some (.v (.int n))) none none none none) (bU (aP rfl (aO (aW rfl (aW rfl (aW rfl rfl))) m1) (by rw[<-hn];rfl))) ?_
 refine aU (st':=st (some (.v (.int cl))) (some (.v (.int n))) (some (.v (.int c))) none none none) (bU (aP rfl (aO rfl m2) (by rw[<-hc];rfl))) ?_
 refine aU (st':=st (some (.v (.int cl))) (some (.v (.int n))) (some (.v (.int c))) (some (.v (.int f))) none none) (bU hf) ?_
 refine aU (st':=st (some (.v (.int cl))) (some (.v (.int n))) (some (.v (.int c))) (some (.v (.int f))) (some (.o .l [])) none) (qH (fQ rfl)) ?_
 refine aU (st':=We ns mo cl f n c [] [] none none none none) (qH (fQ rfl)) ?_
 refine aU (st':=We ns mo cl f n c (Sa S) (ba rk) y9 Ie Je xi) (oO (oq rfl (by omega)) e) ?_
 exact dB (aD (dR (by show 2<=_;decide)))
def Ti{op:D->R D} {st:ya} {x:D} {z:R D} (h:f st=.ok x) (ho:op x=z):e1 op f st=z:=by
 show (f st).bind op=_;rw[h];exact ho
theorem ER{k:Nat}{tg:Tg}{C f:Ex}{st:ya}:∀ds:List D,(∀d∈ds,∃s1 c,tg d st=.ok s1/\C s1=.ok (.bl true)/\f s1=.ok (.str [c])/\97<=c/\c<97+k)->∃l:List Nat,iQ tg C f st ds=.ok (l.map λc=>D.str [c])/\l.length=ds.length/\vf (k:Int) l
 |[],_=>⟨[],rfl,rfl,λ_ h=>nomatch h⟩
 |d::ds,h=>by
  obtain⟨s1,c,yf,Jf,e3,h1,h2⟩:=h d xb;obtain⟨l,e,hl,ht⟩:=ER (k:=k) ds λd hd=>h d (Bb _ hd)
  refine⟨c::l,?_,by simp[hl],λz hz=>?_⟩
  .rw[jZ,yf,aG,Jf,aG,jY,Na rfl,e3,aG,e];rfl
  .rcases Nb.mp hz with rfl|hz
   .exact⟨h1,by omega⟩
   .exact ht z hz
def j_{st:ya} (h:f st=.ok (.lst (l.map λc=>D.str [c]))) (hl:l.length<=1000000):Zh iq (eC (.str [])) (aA f aL) st=.ok (.str l):=by
 show ((aA f aL) st).bind _=_;rw[aW h rfl];exact Ι l hl
def NT{k:Nat}(hk:1<=k)(hk3:k<=3)(cell:Int){lo:Nat}(h:lo<=mo)(hm:mo<=1000):∃w:List Nat,rA [.int cell,.int k,.int lo,.int mo]=.ok (.str w)/\lo<=w.length/\w.length<=mo/\vf (k:Int) w:=by
 have m1:=jL cell 31 ((mo:Int)-lo+1) (by omega)
 obtain⟨b0,b1⟩:=mC cell 31 (m:=(mo:Int)-lo+1) (by omega)
 obtain⟨n,hn⟩:∃n:Nat,(lo:Int)+pF cell 31 ((mo:Int)-lo+1)=(n:Int):=⟨((lo:Int)+pF cell 31 ((mo:Int)-lo+1)).toNat,by omega⟩
 obtain⟨l,e,hl,ht⟩:=ER (k:=k) (tg:=ib 5) (C:=cH) (f:=UL) (st:=[some (.v (.int cell)),some (.v (.int k)),some (.v (.int lo)),some (.v (.int mo)),some (.v (.int n)),none]) ((List.range n).map λ(i:Nat)=>D.int (i:Int)) (λd hd=>by
  obtain⟨i,_,rfl⟩:=Rc.mp hd;have h5:=Lm (i:Int) (show (5:Int)≠0 by decide)
  have h6:=Yq (i:Int) (show (0:Int)<5 by decide)
  have m2:=jL (cell/((i:Int)%5+1)) (32+i) k (by omega)
  obtain⟨p0,p1⟩:=mC (cell/((i:Int)%5+1)) (32+i) (m:=(k:Int)) (by omega)
  obtain⟨p,hp⟩:∃p:Nat,pF (cell/((i:Int)%5+1)) (32+i) k=(p:Int):=⟨(pF (cell/((i:Int)%5+1)) (32+i) k).toNat,by omega⟩
  rw[hp]at m2 p1;exact⟨_,97+p,rfl,rfl,aP rfl (aO (aW (aP rfl (aP (aP rfl rfl (xW (by decide))) rfl rfl) (Ep ⟨by omega,by omega⟩)) (aW (aP rfl rfl rfl) (aW rfl rfl))) m2) (yT (by omega)),by omega,by omega⟩)
 rw[uc,Im]at hl;refine⟨l,cB rfl (aU (bU (aP rfl (aO (aW rfl (aW rfl (aW (aP (aP rfl rfl rfl) rfl rfl) rfl))) m1) rfl)) ?_),by omega,by omega,ht⟩
 rw[show (D.int ((lo:Int)+pF cell 31 ((mo:Int)-lo+1)))=D.int (n:Int) by rw[hn]]
 exact dB (j_ (nG (oq rfl (by omega)) (by simp;omega) e) (by omega))
section
variable{S:List (List Nat)}{rk:List Nat}{c n:Nat}{g:Bool}
inductive Lc (S:List (List Nat)) (c:Nat) (rk:List Nat) (g:Bool):List Nat->Nat->Prop
 |one {Z:Nat}:Oc S c Z->bb rk Z=g->Lc S c rk g [Z] Z
 |up {Y Z:Nat} {l:List Nat}:Lc S c rk g l Y->Oc S c Z->lB Y Z->bb rk Y≠bb rk Z->Lc S c rk g (l++[Z]) Z
def Lc.ch(h:Lc S c rk g l Z):Ch S c rk g Z l.length:=by
 induction h with
 |one h e=>exact .one h e
 |up _ h1 h2 h3 ih=>rw[we];exact .up ih h1 h2 h3
def Lc.sub{l:List Nat} (h:Lc S c rk g l Z):∀x∈l,Oc S c x/\lB x Z:=by
 induction h with
 |one h _=>exact λx hx=>by rw[cc.mp hx];exact⟨h,λ_ z=>z⟩
 |up _ h1 h2 _ ih=>
  intro x hx;rcases Ed.mp hx with hx|hx
  .exact⟨(ih x hx).1,λr hr=>h2 r ((ih x hx).2 r hr)⟩
  .rw[cc.mp hx];exact⟨h1,λ_ z=>z⟩
def Lc.first{l:List Nat} (h:Lc S c rk g l Z):l≠[]/\∀a∈l.head?,∀x∈l,lB a x:=by
 induction h with
 |one _ _=>exact⟨by simp,λa ha x hx=>by cases ha;rw[cc.mp hx];exact λ_ z=>z⟩
 |@up Y Z l hl h1 h2 _ ih=>
  refine⟨by simp,λa ha x hx=>?_⟩
  have Eg:a∈l.head?:=by
   cases l with
   |nil=>exact(ih.1 rfl).elim
   |cons b l=>exact ha
  rcases Ed.mp hx with hx|hx
  .exact ih.2 a Eg x hx
  .rw[cc.mp hx];exact λr hr=>h2 r ((hl.sub a (List.mem_of_mem_head? Eg)).2 r hr)
def Ey(S:List (List Nat))(rk:List Nat)(c:Nat)(g:Bool)(X:Nat)(l:List Nat):Prop:=(l=[]\/Lc S c rk g l X)/\∀Z m,Ch S c rk g Z m->lB Z X->m<=l.length
def Ey.len(M:Ma S rk c){X:Nat} (hX:X<2^S.length) (h:Ey S rk c g X l):l.length<=8:=by
 rcases h.1 with h|h
 .rw[h];exact Dg _
 .exact Zd (tq h.ch).2 (Vj M hX)
noncomputable abbrev Rj(S:List (List Nat))(rk:List Nat)(c X:Nat)(g:Bool)(l:List Nat)(x4 x5:Option Sl):ya:=[some (.v (mD S rk c)),some (.v (.int X)),some (.v (.bl g)),some (.v (.lst (ba l))),x4,x5]
def RP(l:List Nat)(x:Nat):ba l++[D.int x]=ba (l++[x]):=by unfold ba;rw[Hf];rfl
def OT(h:xs.length+ys.length<=1000):gP (.lst xs) (.lst ys)=.ok (.lst (xs++ys)):=aD (dR (Zd h (by decide)))
def Gx{st:ya} (h:st[i]?=some (some (.v (.lst (ba l))))):e1 fU (aB i) st=.ok (.int (l.length:Nat)):=Ti (x:=.lst (ba l)) (by unfold aB;rw[h]) (by show R.ok (D.int ((ba l).length:Nat))=_;rw[bD])
theorem UP(M:Ma S rk c){k X:Nat}(hk:Ac X<=k+1)(h0:Oc S c X)(hX:X<2^S.length){rec:List D->R D}(oj:∀Y,Ac Y<=k->Oc S c Y->Y<2^S.length->∃l,rec [mD S rk c,.int Y,.bl g]=.ok (.lst (ba l))/\Ey S rk c g Y l) :
  ∀(Ys l:List Nat)(x4 x5:Option Sl),(∀Y∈Ys,Ce S c rk (bb rk X) X Y)->(l=[]\/Lc S c rk g l X)->(bb rk X=g->l≠[])->∃l' y4 y5,Lb (ib 4) (rJ rec) (ba Ys) (Rj S rk c X g l x4 x5)=.ok (.nx (Rj S rk c X g l' y4 y5))/\(l'=[]\/Lc S c rk g l' X)/\(bb rk X=g->l'≠[])/\l.length<=l'.length/\∀Y∈Ys,∀Z m,Ch S c rk g Z m->lB Z Y->m+1<=l'.length
 |[],l,x4,x5,_,h1,h2=>⟨l,x4,x5,rfl,h1,h2,Cb _,λ_ z=>nomatch z⟩
 |Y::Ys,l,x4,x5,hYs,h1,h2=>by
  obtain⟨i1,i2,i3,i4,i5⟩:=fB M (hYs Y xb) h0.1 hX;obtain⟨r,e,hr⟩:=oj Y (by omega) i1 i3
  have r8:=hr.len M i3;have sYX:lB Y X:=λz hz=>(jV.mp (i2 z hz)).1
  have rne:l.length<=r.length->r≠[]:=λhle z=>by
   rw[z]at hle hr
   by_cases hg:bb rk X=g
   .exact h2 hg (jl.mp (Nat.le_zero.mp hle))
   .have:=hr.2 Y 1 (.one i1 (by cases hx:bb rk X<;>cases hy:bb rk Y<;>cases g<;>simp_all)) λ_ z=>z
    exact absurd this (by decide)
  have go:∀l1,(bG (dH 5 (aK rec (aA (aB 0) (aA (aB 4) (aA (aB 2) aL))))) (gd (e2 Il (e1 fU (aB 5)) (e1 fU (aB 3))) (dH 3 (e2 gP (aB 5) (iR (aA (aB 1) aL)))) eQ)) (Rj S rk c X g l (some (.v (.int Y))) x5)=.ok (.nx (Rj S rk c X g l1 (some (.v (.int Y))) (some (.v (.lst (ba r))))))->(l1=[]\/Lc S c rk g l1 X)->(bb rk X=g->l1≠[])->l.length<=l1.length->r.length+1<=l1.length->∃l' y4 y5,Lb (ib 4) (rJ rec) (ba (Y::Ys)) (Rj S rk c X g l x4 x5)=.ok (.nx (Rj S rk c X g l' y4 y5))/\(l'=[]\/Lc S c rk g l' X)/\(bb rk X=g->l'≠[])/\l.length<=l'.length/\∀Y'∈Y::Ys,∀Z m,Ch S c rk g Z m->lB Z Y'->m+1<=l'.length:=λl1 hb a1 a2 a3 a4=>by
   obtain⟨l',y4,y5,f,b1,b2,b3,b4⟩:=UP M hk h0 hX oj Ys l1 (some (.v (.int Y))) (some (.v (.lst (ba r)))) (λY hY=>hYs Y (Bb _ hY)) a1 a2
   refine⟨l',y4,y5,oR rfl hb f,b1,b2,by omega,λY' hY' Z m hc hs=>?_⟩
   rcases Nb.mp hY' with rfl|hY'
   .have:=hr.2 Z m hc hs;omega
   .exact b4 Y' hY' Z m hc hs
  have es:dH 5 (aK rec (aA (aB 0) (aA (aB 4) (aA (aB 2) aL)))) (Rj S rk c X g l (some (.v (.int Y))) x5)=.ok (.nx (Rj S rk c X g l (some (.v (.int Y))) (some (.v (.lst (ba r)))))):=bU (aO rfl e);have ec:e2 Il (e1 fU (aB 5)) (e1 fU (aB 3)) (Rj S rk c X g l (some (.v (.int Y))) (some (.v (.lst (ba r)))))=.ok (.bl (decide (l.length<=r.length))):=aP (Gx (l:=r) rfl) (Gx (l:=l) rfl) (by
   show R.ok (D.bl (decide ((r.length:Int) ≥ (l.length:Int))))=_;congr 2;exact Tq.mpr (by omega))
  by_cases hle:l.length<=r.length
  .have Ee:=rne hle;refine go (r++[X]) (aU es (zh (zA ec (Ld hle)) ?_)) (.inr ?_) (λ_ z=>by simp at z) (by rw[we];omega) (by rw[we];exact Cb _)
   .refine(bU (aP (x:=.lst (ba r)) (y:=.lst [.int X]) rfl (fQ rfl) (OT (by rw[bD,Ci];omega)))).trans ?_
    rw[RP];rfl
   .exact .up (hr.1.resolve_left Ee) h0 sYX i5
  .exact go l (aU es (tX (zA ec (Cd hle)) rfl)) h1 h2 (Cb _) (by omega)
theorem FR(M:Ma S rk c):∀(k X:Nat),Ac X<=k->Oc S c X->X<2^S.length->∃l,kJ k [mD S rk c,.int X,.bl g]=.ok (.lst (ba l))/\Ey S rk c g X l
 |0,X,hk,h0,_=>by have:=lC h0.1;omega
 |k+1,X,hk,h0,hX=>by
  obtain⟨i1,i2,i3⟩:=QD M hX h0.1
  let l0:List Nat:=if bb rk X=g then [X] else []
  have e0:dH 3 (yo (e2 Jd (aK gW (aA (aB 0) (aA (aB 1) aL))) (aB 2)) (iR (aA (aB 1) aL)) (iR aL)) [some (.v (mD S rk c)),some (.v (.int X)),some (.v (.bl g)),none,none,none]=.ok (.nx (Rj S rk c X g l0 none none)):=by
   refine bU ?_
   have ec:e2 Jd (aK gW (aA (aB 0) (aA (aB 1) aL))) (aB 2) [some (.v (mD S rk c)),some (.v (.int X)),some (.v (.bl g)),none,none,none]=.ok (.bl (bb rk X==g)):=aP (Fx M hX h0.1 rfl rfl) rfl (PD _ _);show (e2 Jd _ _ _).bind _=_;rw[ec,aG]
   by_cases hg:bb rk X=g
   .rw[show l0=[X] from Na hg,hg,beq_self_eq_true,jY,Na rfl]
    exact fQ rfl
   .rw[show l0=[] from La hg,Yj.mpr hg,jY,La Ef]
    exact fQ rfl
  have a1:l0=[]\/Lc S c rk g l0 X:=by
   by_cases hg:bb rk X=g
   .rw[show l0=[X] from Na hg];exact .inr (.one h0 hg)
   .exact .inl (La hg)
  have a2:bb rk X=g->l0≠[]:=λhg=>by rw[show l0=[X] from Na hg];simp
  obtain⟨l,y4,y5,e,b1,b2,_,b4⟩:=UP M hk h0 hX (rec:=kJ k) (λY h1 h2 h3=>FR M k Y h1 h2 h3) (Sh S rk c X) l0 none none (λY hY=>(i3 Y).mp hY) a1 a2
  refine⟨l,cB rfl (aU e0 (aU (oO (rW (aO rfl i1)) e) (dB rfl))),b1,λZ m hc hs=>?_⟩
  rcases pW M (k+1) X hk h0.1 hX rfl hc.lp hs with ⟨Y,hY,kh⟩|⟨ez,_⟩
  .have:=b4 Y ((i3 Y).mpr hY) Z m hc kh;omega
  .cases hc with
   |one _ hg=>exact nu.mpr (b2 (by rw[<-ez];exact hg))
   |up h1 _ h3 h4=>
    rcases pW M (k+1) X hk h0.1 hX rfl h1.lp (λr hr=>hs r (h3 r hr)) with ⟨Y,hY,kh⟩|⟨e',_⟩
    .exact b4 Y ((i3 Y).mpr hY) _ _ h1 kh
    .rw[ez,e']at h4;exact(h4 rfl).elim
noncomputable abbrev uV(S:List (List Nat))(rk:List Nat)(c:Nat)(g:Bool)(l:List Nat)(x3 x4:Option Sl):ya:=[some (.v (mD S rk c)),some (.v (.bl g)),some (.v (.lst (ba l))),x3,x4]
theorem AO(M:Ma S rk c):∀(Xs l:List Nat)(x3 x4:Option Sl),(∀X∈Xs,X∈rD S c)->(l=[]\/∃X∈rD S c,Lc S c rk g l X)->∃l' y3 y4,Lb (ib 3) lW (ba Xs) (uV S rk c g l x3 x4)=.ok (.nx (uV S rk c g l' y3 y4))/\(l'=[]\/∃X∈rD S c,Lc S c rk g l' X)/\l.length<=l'.length/\∀X∈Xs,∀Z m,Ch S c rk g Z m->lB Z X->m<=l'.length
 |[],l,x3,x4,_,h=>⟨l,x3,x4,rfl,h,Cb _,λ_ z=>nomatch z⟩
 |X::Xs,l,x3,x4,hXs,h=>by
  have hX:=hXs X xb;obtain⟨s1,s2,s3⟩:=xY M hX;obtain⟨r,e,hr⟩:=FR (g:=g) M 12 X s1 s2 s3;have es:dH 4 (aK mY (aA (aB 0) (aA (aB 3) (aA (aB 1) aL)))) (uV S rk c g l (some (.v (.int X))) x4)=.ok (.nx (uV S rk c g l (some (.v (.int X))) (some (.v (.lst (ba r)))))):=bU (aO rfl e);have ec:e2 Xg (e1 fU (aB 4)) (e1 fU (aB 2)) (uV S rk c g l (some (.v (.int X))) (some (.v (.lst (ba r)))))=.ok (.bl (decide (l.length<r.length))):=aP (Gx (l:=r) rfl) (Gx (l:=l) rfl) (by
   show R.ok (D.bl (decide ((r.length:Int)>(l.length:Int))))=_;congr 2;exact Tq.mpr (by omega))
  have go:∀l1,(bG (dH 4 (aK mY (aA (aB 0) (aA (aB 3) (aA (aB 1) aL))))) (gd (e2 Xg (e1 fU (aB 4)) (e1 fU (aB 2))) (dH 2 (aB 4)) eQ)) (uV S rk c g l (some (.v (.int X))) x4)=.ok (.nx (uV S rk c g l1 (some (.v (.int X))) (some (.v (.lst (ba r))))))->(l1=[]\/∃X∈rD S c,Lc S c rk g l1 X)->l.length<=l1.length->r.length<=l1.length->∃l' y3 y4,Lb (ib 3) lW (ba (X::Xs)) (uV S rk c g l x3 x4)=.ok (.nx (uV S rk c g l' y3 y4))/\(l'=[]\/∃X∈rD S c,Lc S c rk g l' X)/\l.length<=l'.length/\∀X'∈X::Xs,∀Z m,Ch S c rk g Z m->lB Z X'->m<=l'.length:=λl1 hb a1 a2 a3=>by
   obtain⟨l',y3,y4,f,b1,b2,b3⟩:=AO M Xs l1 (some (.v (.int X))) (some (.v (.lst (ba r)))) (λX hX=>hXs X (Bb _ hX)) a1
   refine⟨l',y3,y4,oR rfl hb f,b1,by omega,λX' hX' Z m hc hs=>?_⟩
   rcases Nb.mp hX' with rfl|hX'
   .exact Zd (hr.2 Z m hc hs) (by omega)
   .exact b3 X' hX' Z m hc hs
  by_cases Qb:l.length<r.length
  .exact go r (aU es (zh (zA ec (Ld Qb)) (bU rfl))) (.inr ⟨X,hX,hr.1.resolve_left λz=>by rw[z]at Qb;exact absurd Qb (Iu _)⟩) (by omega) (Cb _)
  .exact go l (aU es (tX (zA ec (Cd Qb)) rfl)) h (Cb _) (by omega)
def p4(M:Ma S rk c):∃l y3 y4,Lb (ib 3) lW (ba (rD S c)) (uV S rk c g [] none none)=.ok (.nx (uV S rk c g l y3 y4))/\(l=[]\/∃X∈rD S c,Lc S c rk g l X)/\(l.length:Int)=eU S c rk g:=by
 obtain⟨l,y3,y4,e,h1,_,h2⟩:=AO (g:=g) M (rD S c) [] none none (λ_ h=>h) (.inl rfl)
 refine⟨l,y3,y4,e,h1,?_⟩;obtain⟨b0,b1,b2⟩:=jR (S:=S) (c:=c) (rk:=rk) g;have up:(l.length:Int)<=eU S c rk g:=by
  rcases h1 with h1|⟨X,hX,h1⟩
  .rw[h1];exact b0
  .exact b1 X (Xw M hX) _ h1.ch
 rcases b2 with b2|⟨Z,hZ,m,hc,e'⟩
 .omega
 .obtain⟨X,hX,hs⟩:=UC M hZ;have:=h2 X hX Z m hc hs;omega
def unR:R D->D
 |.ok d=>d
 |_=>.Gb
noncomputable def Ut(S:List (List Nat))(rk:List Nat)(c r x:Nat):D:=unR (kO [mD S rk c,.int x,.int r])
def bHe{x:Nat}(h:∃u,kO [mD S rk c,.int x,.int r]=.ok (.str u)):kO [mD S rk c,.int x,.int r]=.ok (Ut S rk c r x):=by
 obtain⟨u,e⟩:=h;unfold Ut;rw[e];rfl
def WI(d:D)(ds:List D):Ta (.lst (d::ds)) (.int 0)=.ok d:=iW (by
 unfold Wb;rw[show lc (d::ds).length 0=some 0 by unfold lc;rw[Na (by decide),Na (by rw[Qd];omega)];rfl]
 rfl)
def M6(M:Ma S rk c) {X:Nat} (hX:X∈rD S c) (h:Lc S c rk g l X):∃w ws,tH [mD S rk c,.lst (ba l)]=.ok (.tup [.str w,.lst ws])/\ws.length=l.length:=by
 have n1:=M.one;obtain⟨o1,o2,o3⟩:=dM M jW hX;have Rb:=h.sub;have xlt:∀x∈l,x<2^S.length:=λx hx=>by
  rw[<-lY x];exact qI λr hr=>bH o3 ((Rb x hx).2 r hr)
 obtain⟨a0,l',rfl⟩:∃a l',l=a::l':=by
  cases l with
  |nil=>have:=(tq h.ch).1;exact absurd this (by decide)
  |cons a l'=>exact⟨a,l',rfl⟩
 have ha:=Rb a0 xb;have Lf:∀x∈a0::l',lB a0 x:=h.first.2 a0 rfl;obtain⟨qa,e,b⟩:=C6 M;have Eo:=b.len;obtain⟨q,hq⟩:=iu _ (nA ha.1.1);have hq0:q∈aN (vO S c):=o2 q (ha.2 q hq);have Dv:qc S c (λg=>(fC (List.range S.length)).testBit g) 0 q:=(fV M (show 0<S.length from n1) q).mp (aR.mp hq0)
 have eal:(λg=>(fC (List.range S.length)).testBit g)=λg=>decide (g∈List.range S.length):=funext λg=>by rw[gF]
 rw[eal]at Dv;obtain⟨y,hy,hyq⟩:=Rc.mp (b.whole Dv);have Ee:(qa.filter λx=>a0.testBit x.1)≠[]:=λz=>by
  have:=List.filter_eq_nil_iff.mp z y hy;rw[hyq]at this;exact this (aR.mp hq)
 obtain⟨x,rest,hf⟩:∃x rest,(qa.filter λx=>a0.testBit x.1)=x::rest:=by
  cases hh:qa.filter λx=>a0.testBit x.1 with
  |nil=>exact(Ee hh).elim
  |cons x rest=>exact⟨x,rest,rfl⟩
 have hx:x∈qa/\a0.testBit x.1=true:=je.mp (by rw[hf];exact xb)
 have hr:∀z∈a0::l',x.1∈aN z:=λz hz=>Lf z hz _ (aR.mpr hx.2)
 have rn:∀z∈a0::l',∃u,kO [mD S rk c,.int z,.int x.1]=.ok (.str u):=λz hz=>F6 M (xlt z hz) (Rb z hz).1 (hr z hz)
 refine⟨x.2,(a0::l').map (Ut S rk c x.1),?_,uc ..⟩
 let Mr:ya:=[some (.v (mD S rk c)),some (.v (.lst (ba (a0::l')))),none,none,none,none,none]
 have e1:dI [5] (ib 5) (Fc (aK jP (aA (aB 0) aL))) iN fN Mr=.ok (.lst (sk (x::rest))):=by
  rw[<-hf];refine nG (rW (aO rfl e)) (by rw[ϋ];have:=M.most;omega) (QP (F:=λx=>D.tup [.int (x.1:Nat),.str x.2]) (G:=λx=>D.tup [.int (x.1:Nat),.str x.2]) (q:=λx=>a0.testBit x.1) qa λz _=>⟨_,rfl,?_,λ_=>rfl⟩)
  exact aO (aW (aP (x:=.lst (ba (a0::l'))) rfl rfl (WI _ _)) (aW (aP (x:=.tup [.int (z.1:Nat),.str z.2]) rfl rfl rfl) rfl)) (Up a0 z.1)
 have e2:dI [6] (ib 6) (Fc (aB 1)) cH uQ [some (.v (mD S rk c)),some (.v (.lst (ba (a0::l')))),some (.v (.lst (sk (x::rest)))),some (.v (.int (x.1:Nat))),some (.v (.str x.2)),none,none]=.ok (.lst ((a0::l').map (Ut S rk c x.1))):=by
  have ce:iQ (ib 6) cH uQ [some (.v (mD S rk c)),some (.v (.lst (ba (a0::l')))),some (.v (.lst (sk (x::rest)))),some (.v (.int (x.1:Nat))),some (.v (.str x.2)),none,none] (ba (a0::l'))=.ok (((a0::l').filter λ_=>true).map (Ut S rk c x.1)):=oU (a0::l') λz hz=>⟨_,rfl,rfl,aO rfl (bHe (rn z hz))⟩
  rw[qz.mpr (λ_ _=>rfl)]at ce
  have hl:=(tq h.ch).2;have:=Vj M o3;unfold Ac at hl;exact nG rfl (by rw[bD];omega) ce
 refine cB rfl (aU (bU e1) (aU (bU (aP (aP (x:=.lst (sk (x::rest))) rfl rfl (WI _ _)) rfl rfl)) (aU (bU (aP (x:=.tup [.int (x.1:Nat),.str x.2]) (aP (x:=.lst (sk (x::rest))) rfl rfl (WI _ _)) rfl rfl)) (dB ?_))));show R.bind (aA (aB 4) (aA (dI [6] (ib 6) (Fc (aB 1)) cH uQ) aL) [some (.v (mD S rk c)),some (.v (.lst (ba (a0::l')))),some (.v (.lst (sk (x::rest)))),some (.v (.int (x.1:Nat))),some (.v (.str x.2)),none,none]) _=_;rw[aW rfl (aW e2 rfl),aG];exact aD (dR (Zj rfl))
def k_(M:Ma S rk c)(g:Bool):(eU S c rk g=0/\fM [mD S rk c,.bl g]=.ok .Gb)\/∃w ws,fM [mD S rk c,.bl g]=.ok (.tup [.str w,.lst ws])/\(ws.length:Int)=eU S c rk g/\ws≠[]:=by
 obtain⟨l,y3,y4,e,h1,h2⟩:=p4 (g:=g) M;have ec:e2 Ue (aB 2) (iR aL) (uV S rk c g l y3 y4)=.ok (.bl (!decide (l=[]))):=aP (x:=.lst (ba l)) rfl (fQ rfl) (Vp l);have run:∀{d},yo (e2 Ue (aB 2) (iR aL)) (aK tH (aA (aB 0) (aA (aB 2) aL))) (eC .Gb) (uV S rk c g l y3 y4)=.ok d->fM [mD S rk c,.bl g]=.ok d:=λh=>cB rfl (aU (bU (fQ rfl)) (aU (oO (rW (aO rfl (sR M))) e) (dB h)))
 rcases h1 with rfl|⟨X,hX,hr⟩
 .refine .inl ⟨by rw[<-h2];rfl,run ?_⟩
  show (e2 Ue _ _ _).bind _=_;rw[ec,aG];rfl
 .have Ee:l≠[]:=λz=>by
   have:=(tq hr.ch).1;rw[z]at this;exact absurd this (by decide)
  obtain⟨w,ws,e1,hl⟩:=M6 M hX hr;refine .inr ⟨w,ws,run ?_,by rw[hl];exact h2,λz=>Ee (jl.mp (by rw[<-hl,z];rfl))⟩
  show (e2 Ue _ _ _).bind _=_;rw[ec,aG,Cd Ee];exact aO (p:=tH) (r:=aA (aB 0) (aA (aB 2) aL)) (st:=uV S rk c g l y3 y4) rfl e1
end
section
variable{S:List (List Nat)}{rk:List Nat}{c:Nat}
def Vt(b:Int)(d:D):Prop:=(b=0/\d=.Gb)\/∃w ws,d=.tup [.str w,.lst ws]/\(ws.length:Int)=b/\b≠0
def Sn{r:zd}{st:ya}{a b:D}(h:r st=.ok [a,b]):zY r st=.ok (.tup [a,b]):=by
 show (r st).bind _=_;rw[h];exact aD (dR (show 2<=10000000 by decide))
def Zo(a b:D):Ta (.tup [a,b]) (.int 0)=.ok a/\Ta (.tup [a,b]) (.int 1)=.ok b:=⟨rfl,rfl⟩
def PV(M:Ma S rk c)(g:Bool):∃d,fM [mD S rk c,.bl g]=.ok d/\Vt (eU S c rk g) d:=by
 rcases k_ M g with ⟨h,e⟩|⟨w,ws,e,hl,ne⟩
 .exact⟨_,e,.inl ⟨h,rfl⟩⟩
 .refine⟨_,e,.inr ⟨w,ws,rfl,hl,?_⟩⟩;rw[<-hl];have:=nu.mpr ne;omega
def QT(M:Ma S rk c):∃d1 d2,xU [mD S rk c]=.ok (.tup [d1,d2])/\Vt (eU S c rk true) d1/\Vt (eU S c rk false) d2:=by
 obtain⟨d1,yf,n1⟩:=PV M true;obtain⟨d2,Jf,n2⟩:=PV M false;exact⟨d1,d2,cB rfl (dB (Sn (aW (aO rfl yf) (aW (aO rfl Jf) rfl)))),n1,n2⟩
def Th(b:Int):D:=if b=0 then .bl false else .int b
def QX{b:Int} {x:Option Sl} (h:Vt b d):iV [x,some (.v d)]=.ok (Th b):=by
 rcases h with ⟨rfl,rfl⟩|⟨w,ws,rfl,e,ne⟩
 .rfl
 .unfold Th;rw[La ne,<-e];rfl
def BO(M:Ma S rk c):gC [mD S rk c]=.ok (.lst [Th (eU S c rk true),Th (eU S c rk false)]):=by
 obtain⟨d1,d2,e,n1,n2⟩:=QT M;have ce:iQ (ib 1) cH iV [some (.v (mD S rk c)),none] [d1,d2]=.ok [Th (eU S c rk true),Th (eU S c rk false)]:=by
  rw[jZ];show (R.ok _).bind _=_;rw[aG];show ((cH _).bind _)=_;rw[show cH (List.set [some (Sl.v (mD S rk c)),none] 1 (some (.v d1)))=.ok (.bl true) from rfl,aG,jY,Na rfl]
  rw[show iV (List.set [some (Sl.v (mD S rk c)),none] 1 (some (.v d1)))=.ok (Th (eU S c rk true)) from QX n1,aG,jZ]
  show ((R.ok _).bind _).bind _=_;rw[aG,show cH (List.set [some (Sl.v (mD S rk c)),none] 1 (some (.v d2)))=.ok (.bl true) from rfl,aG,jY,Na rfl]
  rw[show iV (List.set [some (Sl.v (mD S rk c)),none] 1 (some (.v d2)))=.ok (Th (eU S c rk false)) from QX n2,aG]
  rfl
 have hi:Fc (aK xU (aA (aB 0) aL)) [some (.v (mD S rk c)),none]=.ok [d1,d2]:=by
  rw[hV,aO (p:=xU) (r:=aA (aB 0) aL) (st:=[some (.v (mD S rk c)),none]) rfl e];rfl
 exact cB rfl (dB (nG hi (Zj rfl) ce))
def RT{b:Int} (h:Vt b d):mZ [d]=.ok (.int b):=by
 rcases h with ⟨rfl,rfl⟩|⟨w,ws,rfl,e,ne⟩
 .exact cB rfl (dB rfl)
 .rw[<-e];exact cB rfl (dB rfl)
noncomputable def mO(S:List (List Nat))(c:Nat)(rk:List Nat):Nat:=if eU S c rk true<eU S c rk false then 1 else 0
def l_:eU S c rk (!lF (mO S c rk))<=eU S c rk (lF (mO S c rk)):=by
 unfold mO;split
 .rename_i h;exact Int.le_of_lt h
 .rename_i h;exact Int.not_lt.mp h
def VP(M:Ma S rk c):∃ps:List D,fO [mD S rk c]=.ok (.tup [.lst (ba (nC S rk c (mO S c rk))),.lst ps])/\ps.length=if eU S c rk true=eU S c rk false then 2 else 1:=by
 obtain⟨d1,d2,e,n1,n2⟩:=QT M;have f0:∀{st:ya},st[0]?=some (some (.v (mD S rk c)))->aK eY (aA (aB 0) (aA (eC (.int 0)) aL)) st=.ok (.lst (ba (nC S rk c 0))):=λh=>aO (aW (d:=mD S rk c) (by unfold aB;rw[h]) rfl) (DT M 0)
 have f1:∀{st:ya},st[0]?=some (some (.v (mD S rk c)))->aK eY (aA (aB 0) (aA (eC (.int 1)) aL)) st=.ok (.lst (ba (nC S rk c 1))):=λh=>aO (aW (d:=mD S rk c) (by unfold aB;rw[h]) rfl) (DT M 1)
 let st:ya:=[some (.v (mD S rk c)),some (.v (.tup [d1,d2])),some (.v (.int (eU S c rk true))),some (.v (.int (eU S c rk false)))]
 have run:∀{r},(bG (gd (e2 Xg (aB 3) (aB 2)) (cZ (zY (aA (aK eY (aA (aB 0) (aA (eC (.int 1)) aL))) (aA (iR (aA (e2 Ta (aB 1) (eC (.int 1))) aL)) aL)))) eQ) (bG (gd (e2 Xg (aB 2) (aB 3)) (cZ (zY (aA (aK eY (aA (aB 0) (aA (eC (.int 0)) aL))) (aA (iR (aA (e2 Ta (aB 1) (eC (.int 0))) aL)) aL)))) eQ) (cZ (zY (aA (aK eY (aA (aB 0) (aA (eC (.int 0)) aL))) (aA (iR (aA (e2 Ta (aB 1) (eC (.int 0))) (aA (e2 Ta (aB 1) (eC (.int 1))) aL))) aL)))))) st=.ok (.rt r)->fO [mD S rk c]=.ok r:=λh=>cB rfl (aU (bU (aO rfl e)) (aU (bU (aO (aW (aP rfl rfl (Zo d1 d2).1) rfl) (RT n1))) (aU (bU (aO (aW (aP rfl rfl (Zo d1 d2).2) rfl) (RT n2))) h)))
 have g1:e2 Xg (aB 3) (aB 2) st=.ok (.bl (decide (eU S c rk true<eU S c rk false))):=rfl;have g2:e2 Xg (aB 2) (aB 3) st=.ok (.bl (decide (eU S c rk false<eU S c rk true))):=rfl;unfold mO
 by_cases h1:eU S c rk true<eU S c rk false
 .rw[Ld h1]at g1;rw[Na h1,La (by omega)]
  exact⟨[d2],run (Ws (zh g1 (dB (Sn (aW (f1 rfl) (aW (fQ (aW (aP rfl rfl (Zo d1 d2).2) rfl)) rfl)))))),rfl⟩
 .rw[Cd h1]at g1;rw[La h1]
  by_cases h2:eU S c rk false<eU S c rk true
  .rw[Ld h2]at g2;rw[La (by omega)]
   exact⟨[d1],run (aU (tX g1 rfl) (Ws (zh g2 (dB (Sn (aW (f0 rfl) (aW (fQ (aW (aP rfl rfl (Zo d1 d2).1) rfl)) rfl))))))),rfl⟩
  .rw[Cd h2]at g2;rw[Na (by omega)]
   exact⟨[d1,d2],run (aU (tX g1 rfl) (aU (tX g2 rfl) (dB (Sn (aW (f0 rfl) (aW (fQ (aW (aP rfl rfl (Zo d1 d2).1) (aW (aP rfl rfl (Zo d1 d2).2) rfl))) rfl)))))),rfl⟩
def CO(M:Ma S rk c):wL [mD S rk c]=.ok (mD S (nC S rk c (mO S c rk)) c):=by
 obtain⟨ps,e,_⟩:=VP M;exact cB rfl (dB (aO (aW (Ti rfl pR) (aW (aP (aO rfl e) rfl (Zo _ _).1) rfl)) (LD (RD M))))
end
theorem UT{x:Int}:∀(l qa:List Int),x∈l.foldl (λqa x=>if qa.any (· == x) then qa else qa++[x]) qa↔x∈qa\/x∈l
 |[],qa=>by simp
 |y::l,qa=>by
  rw[Mm,UT l]
  by_cases h:qa.any (· == y)=true
  .rw[Na h];have hy:y∈qa:=by
    obtain⟨z,hz,e⟩:=Al.mp h;rw[<-eq_of_beq e];exact hz
   constructor
   .rintro(z|z)
    .exact .inl z
    .exact .inr (Bb _ z)
   .rintro(z|z)
    .exact .inl z
    .rcases Nb.mp z with rfl|z
     .exact .inl hy
     .exact .inr z
  .rw[La h,Ed,cc,Nb,or_assoc]
theorem QV:∀(l qa:List Int),qa.Nodup->(l.foldl (λqa x=>if qa.any (· == x) then qa else qa++[x]) qa).Nodup
 |[],qa,h=>h
 |y::l,qa,h=>by
  rw[Mm];refine QV l _ ?_
  split
  .exact h
  .rename_i hn;refine Yi.mpr ⟨h,by simp,λa ha b hbM e=>hn ?_⟩
   rw[cc.mp hbM]at e;exact Al.mpr ⟨a,ha,by simp[e]⟩
def RV{l:List Int}(nd:l.Nodup)(h:∀x∈l,0<=x):∃q:List Nat,l.map D.int=ba q/\q.Nodup/\q.length=l.length/\∀x:Nat,x∈q↔(x:Int)∈l:=by
 refine⟨l.map Int.toNat,?_,?_,uc ..,λx=>?_⟩
 .unfold ba;rw[ug];refine Xi λx hx=>?_
  have:=h x hx;show D.int x=D.int ((x.toNat:Nat):Int);rw[Wq this]
 .refine List.Pairwise.map Int.toNat (R:=λa b=>a≠b/\0<=a/\0<=b) (λa b QH z=>QH.1 (by omega)) ?_
  exact(yY.mpr λ{a b} hs=>⟨(yY.mp nd) hs,h a (hs.subset (by simp)),h b (hs.subset (by simp))⟩)
 .rw[Rc];constructor
  .rintro⟨y,hy,rfl⟩;rw[Wq (h y hy)];exact hy
  .intro hx;exact⟨_,hx,rg x⟩
def IE(row:List Nat):(oK (row.map λ(x:Nat)=>(x:Int))).Nodup/\∀y,y∈oK (row.map λ(x:Nat)=>(x:Int))↔∃x∈row,(x:Int)=y:=by
 unfold oK;refine⟨QV _ _ vo,λy=>?_⟩
 rw[UT,Rc];simp
def SV(row:List Nat):tQ (ba row)=.ok (row.map λ(x:Nat)=>(x:Int)):=by
 rw[show ba row=(row.map λ(x:Nat)=>(x:Int)).map D.int by unfold ba;rw[ug];rfl,tE]
def Ϝ(row:List Nat):(oK (row.map λ(x:Nat)=>(x:Int))).length<=row.length:=by
 obtain⟨nd,hm⟩:=IE row;have:=nd.length_le_of_subset (l₂:=row.map λ(x:Nat)=>(x:Int)) λy hy=>by
  obtain⟨x,hx,rfl⟩:=(hm y).mp hy;exact Rc.mpr ⟨x,hx,rfl⟩
 rw[uc]at this;exact this
def bKv(hl:row.length<=60):∃q:List Nat,Cs (.lst (ba row))=.ok (.lst (ba q))/\q.Nodup/\∀x,x∈q↔x∈row:=by
 obtain⟨nd,hm⟩:=IE row;have hp:=OC (oK (row.map λ(x:Nat)=>(x:Int)))
 obtain⟨q,e,nq,_,mq⟩:=RV (l:=Rk (oK (row.map λ(x:Nat)=>(x:Int)))) (hp.nodup_iff.mpr nd) λx hx=>by
  obtain⟨y,_,rfl⟩:=(hm x).mp (hp.mem_iff.mp hx);omega
 refine⟨q,?_,nq,λx=>?_⟩
 .show (tQ (ba row)).bind _=_;rw[SV,aG,<-e];have:=Ϝ row;exact aD ⟨by rw[uc];omega,by omega⟩
 .rw[mq,hp.mem_iff,hm];exact⟨λ⟨y,hy,e⟩=>by rw[<-YG.mp e];exact hy,λh=>⟨x,h,rfl⟩⟩
def m_(hl:row.length<=60):∃q:List Nat,HD (.lst (ba row))=.ok (.int (q.length:Nat))/\q.Nodup/\∀x,x∈q↔x∈row:=by
 obtain⟨nd,hm⟩:=IE row;obtain⟨q,e,nq,lq,mq⟩:=RV nd λx hx=>by
  obtain⟨y,_,rfl⟩:=(hm x).mp hx;omega
 refine⟨q,?_,nq,λx=>?_⟩
 .show (tQ (ba row)).bind _=_;rw[SV,aG,lq];exact aD (by rw[uc];omega)
 .rw[mq,hm];exact⟨λ⟨y,hy,e⟩=>by rw[<-YG.mp e];exact hy,λh=>⟨x,h,rfl⟩⟩
section
variable{S:List (List Nat)}{rk:List Nat}{c base:Nat}
def ϝ(g:Nat)(l:List Nat):tL (.int g) (.lst (ba l))=.ok (.bl (!decide (g∈l))):=by
 have h:aV (jX (ba l)<=60/\plain (.int (g:Int))=true/\eV (ba l)=true) (R.ok (D.bl (inD (.int (g:Int)) (ba l))))=R.ok (D.bl (decide (g∈l))):=qV g l;show aV (jX (ba l)<=60/\plain (.int (g:Int))=true/\eV (ba l)=true) (R.ok (D.bl (!inD (.int (g:Int)) (ba l))))=_;rw[aD (aJ h).1,Ds]
def TV{i x:Nat}(h:l[i]?=some x):Wb (ba l) (i:Int)=some (.int (x:Nat)):=by
 have hl:=(Kd.mp h).1;unfold Wb;rw[bD,show Pu.lc l.length (i:Int)=some i by unfold Pu.lc;rw[Na (by omega),Na (by omega),rg]]
 show (ba l)[i]?=_;unfold ba;rw[Vg,h];rfl
structure Ak(S:List (List Nat))(c:Nat)(l:List Nat)(a:Nat):Prop where
 nd:l.Nodup
 z:0∈l
 rc:∀r∈l,r∈aN (vO S c)
 cl:∀i x,i<a->l[i]?=some x->∀k,k<c->Mb S x k∈l
 le:a<=l.length
def bHf(M:Ma S rk c){x k:Nat}(hx:x∈aN (vO S c))(hk:k<c):Mb S x k∈aN (vO S c):=by
 have Hh:=bH jW hx;obtain⟨_,_,_,Qb⟩:=xX M Hh hk;refine aR.mpr ((fV M M.one _).mpr (.on ((fV M M.one _).mp (aR.mp hx)) hk ?_));show (fC (List.range S.length)).testBit _=true;rw[gF,Ff];exact Qc.mpr Qb
def Ak.len(M:Ma S rk c) {a:Nat} (h:Ak S c l a):l.length<=S.length:=lA _ _ h.nd λx hx=>bH jW (h.rc x hx)
def Ak.all(M:Ma S rk c) (h:Ak S c l l.length) (r:Nat):r∈l↔r∈aN (vO S c):=by
 refine⟨h.rc r,λhr=>?_⟩
 have hr:=(fV M M.one r).mp (aR.mp hr);have:∀{r},qc S c (Bf (fC (List.range S.length))) 0 r->r∈l:=λ{r} hr=>by
  induction hr with
  |here=>exact h.z
  |on _ hl _ ih=>
   obtain⟨i,hi⟩:=Em.mp ih;exact h.cl i _ (Kd.mp hi).1 hi _ hl
 exact this hr
abbrev wk(S:List (List Nat))(l:List Nat)(a:Nat)(x3:Option Sl):ya:=[some (.v (.lst (Sa S))),some (.v (.lst (ba l))),some (.v (.int (a:Nat))),x3]
def n_(M:Ma S rk c) {a:Nat} (h:Ak S c l a) (ha:a<l.length):∃l',rN (wk S l a x3)=.ok (.nx (wk S l' (a+1) x3))/\Ak S c l' (a+1):=by
 have hl:=h.len M;have n8:=M.most;have hx:=Pc ha;generalize l[a]=x at hx;have X0:x∈l:=Uh hx;have Hh:=bH jW (h.rc x X0);have ze:S[x]∈S:=Wf Hh;have hc:S[x].length=c:=(M.row _ ze).1;have c3:=M.c3;obtain⟨q,eq,nq,mq⟩:=bKv (row:=S[x]) (by omega)
 have ql:q.length<=3:=by
  have:=nq.length_le_of_subset (l₂:=S[x]) λy hy=>(mq y).mp hy
  omega
 have i1:e2 Ta (aB 1) (aB 2) (wk S l a x3)=.ok (.int x):=aP (x:=.lst (ba l)) (y:=.int (a:Nat)) rfl rfl (iW (TV hx));have Jf:e1 Cs (e2 Ta (aB 0) (e2 Ta (aB 1) (aB 2))) (wk S l a x3)=.ok (.lst (ba q)):=Ti (aP (x:=.lst (Sa S)) rfl i1 (iW (qm Hh))) eq;have ce:iQ (ib 3) rM rK (ae [3] (wk S l a x3)) (ba q)=.ok (ba (q.filter λg=>!decide (g∈l))):=oU q λg _=>⟨_,rfl,aP (x:=.int g) (y:=.lst (ba l)) rfl rfl (ϝ g l),rfl⟩
 have e3:e2 gP (aB 1) (dI [3] (ib 3) (Fc (e1 Cs (e2 Ta (aB 0) (e2 Ta (aB 1) (aB 2))))) rM rK) (wk S l a x3)=.ok (.lst (ba (l++q.filter λg=>!decide (g∈l)))):=by
  refine aP (x:=.lst (ba l)) rfl (nG (rW Jf) (by rw[bD];omega) ce) ?_
  have:=kG (λg=>!decide (g∈l)) q
  rw[OT (by rw[bD,bD];omega)]
  unfold ba;rw[Hf]
 refine⟨l++q.filter λg=>!decide (g∈l),aU (bU e3) (bU (d:=.int ((a+1:Nat):Int)) (aP (x:=.int (a:Nat)) rfl rfl rfl)),⟨?_,Dd _ h.z,λr hr=>?_,λi y hi hy k hk=>?_,by rw[we];omega⟩⟩
 .refine Yi.mpr ⟨h.nd,nq.filter _,λu hu w hw e=>?_⟩
  have:=(je.mp hw).2;rw[<-e]at this;simp[hu]at this
 .rcases Ed.mp hr with hr|hr
  .exact h.rc r hr
  .obtain⟨k,hk,rfl⟩:=(tY M Hh).mp (by rw[xf,Pc Hh];exact(mq r).mp (je.mp hr).1)
   exact bHf M (h.rc x X0) hk
 .by_cases hia:i=a
  .subst hia;rw[Vi ha,hx]at hy;cases hy
   by_cases Lf:Mb S x k∈l
   .exact Dd _ Lf
   .refine Zc _ (je.mpr ⟨(mq _).mpr ?_,by simp[Lf]⟩)
    have:=(tY M Hh).mpr ⟨k,hk,rfl⟩;rw[xf,Pc Hh]at this;exact this
  .rw[Vi (by omega)]at hy
   exact Dd _ (h.cl i y (by omega) hy k hk)
theorem GR(M:Ma S rk c){x3:Option Sl}:∀(k f:Nat)(l:List Nat)(a:Nat),S.length-a<=k->k<f->Ak S c l a->∃l',jU rO rN f (wk S l a x3)=.ok (.nx (wk S l' l'.length x3))/\Ak S c l' l'.length
 |k,0,l,a,_,hf,_=>by omega
 |k,f+1,l,a,hk,hf,h=>by
  have hc:rO (wk S l a x3)=.ok (.bl (decide ((a:Int)<(l.length:Nat)))):=aP (x:=.int (a:Nat)) (y:=.int (l.length:Nat)) rfl (Ti (x:=.lst (ba l)) rfl (by show R.ok (D.int ((ba l).length:Nat))=_;rw[bD])) rfl
  by_cases ha:a<l.length
  .rw[Ld (by omega)]at hc
   obtain⟨l1,yf,h1⟩:=n_ M (x3:=x3) h ha;have hl:=h.len M;cases k with
   |zero=>omega
   |succ k=>
    obtain⟨l',e,h'⟩:=GR M (x3:=x3) k f l1 (a+1) (by omega) (by omega) h1
    exact⟨l',Nw hc yf e,h'⟩
  .rw[Cd (by omega)]at hc
   have:a=l.length:=Nat.le_antisymm h.le (by omega)
   subst this;exact⟨l,wN hc,h⟩
def p8(M:Ma S rk c):∃l,qG [.lst (Sa S)]=.ok (.lst (ba l))/\l.Nodup/\(∀r,r∈l↔r∈aN (vO S c))/\l.length<=8:=by
 have zs:0∈aN (vO S c):=aR.mpr ((fV (n:=fC (List.range S.length)) M M.one 0).mpr .here);have h0:Ak S c [0] 0:=⟨by simp,by simp,λr hr=>by rw[List.mem_singleton.mp hr];exact zs,λi _ hi=>by omega,by simp⟩
 have n8:=M.most;obtain⟨l,e,h⟩:=GR M (x3:=none) S.length 100000 [0] 0 (by omega) (by omega) h0
 refine⟨l,cB rfl (aU (bU (fQ rfl)) (aU (bU rfl) (aU (st':=wk S l l.length none) ?_ (dB rfl)))),h.nd,h.all M,by have:=h.len M;omega⟩
 exact e
def VT(M:Ma S rk c):kW [mD S rk c,.lst (Sa S)]=.ok (.tup [.int (Bi S c rk (mO S c rk)+1),.int (if eU S c rk true=eU S c rk false then 2 else 1)]):=by
 obtain⟨l,e,nd,hm,l8⟩:=p8 M;obtain⟨ps,el,hp⟩:=VP M;have lt:∀r∈l,r<S.length:=λr hr=>bH jW ((hm r).mp hr)
 let st:ya:=[some (.v (mD S rk c)),some (.v (.lst (Sa S))),some (.v (.lst (ba l))),some (.v (.lst (ba (nC S rk c (mO S c rk))))),some (.v (.lst ps)),none]
 have ce:iQ (ib 5) cH vK st (ba l)=.ok (ba (l.map λr=>wU S rk c (mO S c rk) r)):=by
  have:=oU (tg:=ib 5) (C:=cH) (E:=vK) (st:=st) (q:=λ_=>true) (G:=λr=>D.int ((wU S rk c (mO S c rk) r:Nat):Int)) l λr hr=>⟨_,rfl,rfl,aP (x:=.lst (ba (nC S rk c (mO S c rk)))) (y:=.int r) rfl rfl (iW (by rw[WE (by rw[MP];exact lt r hr),AR (lt r hr)]))⟩
  rw[qz.mpr (λ_ _=>rfl)]at this
  rw[this];unfold ba;rw[ug];rfl
 obtain⟨q,eq,nq,mq⟩:=m_ (row:=l.map λr=>wU S rk c (mO S c rk) r) (by rw[uc];omega)
 have hq:=j8 M l_ nq λv=>by
  rw[mq,Rc];exact⟨λ⟨r,hr,e⟩=>⟨r,(hm r).mp hr,e⟩,λ⟨r,hr,e⟩=>⟨r,(hm r).mpr hr,e⟩⟩
 refine cB rfl (aU (bU (aO rfl e)) (aU (st':=st) ?_ (dB (Sn (aW (d:=.int (Bi S c rk (mO S c rk)+1)) (Ti (nG (rW rfl) (by rw[bD];omega) ce) ?_) (aW (d:=.int (if eU S c rk true=eU S c rk false then 2 else 1)) (Ti (x:=.lst ps) rfl ?_) rfl))))))
 .show (aK fO _ _).bind _=_;rw[aO (p:=fO) (r:=aA (aB 0) aL) rfl el,aG];rfl
 .rw[eq,hq]
 .show R.ok (D.int (ps.length:Nat))=_;rw[hp];split<;>rfl
end
section
abbrev vp(ns:List Int)(n:Nat)(L O:List Nat):ya:=[some (.v (.lst (ns.map D.int))),some (.v (.int (n:Nat))),some (.o .l (ba L)),some (.o .l (ba O))]
def Hx{i:Nat}(h:i<n):Pu.lc n (i:Int)=some i:=by
 unfold Pu.lc;rw[Na (by omega),Na (by omega),rg]
def o_(h:i<l.length):(ba l)[i]?=some (.int (l[i]:Nat)):=by
 unfold ba;rw[Vg,Pc h];rfl
def N6(l:List Nat)(i:Nat):(ba l).eraseIdx i=ba (l.eraseIdx i):=by
 unfold ba;rw[au,au,Hf,List.map_take,List.map_drop]
def Ϟ(h:i<l.length):([l[i]]++l.eraseIdx i).Perm l:=by
 rw[au];have e:l=l.take i++l[i] :: l.drop (i+1):=by rw[<-ju h,List.take_append_drop]
 have:=(List.perm_middle (a:=l[i]) (l₁:=l.take i) (l₂:=l.drop (i+1))).symm;rw[<-e]at this;exact this
def O6(ns:List Int) {L O:List Nat} (h1:0<L.length) (h2:L.length<=8) (h3:O.length<=8) (h0:O.head?=some 0):∃L' O',tR (vp ns n L O)=.ok (.nx (vp ns n L' O'))/\L'.length+1=L.length/\O'.length=O.length+1/\(O'++L').Perm (O++L)/\O'.head?=some 0:=by
 have hp:e1 fU (eO 2) (vp ns n L O)=.ok (.int (L.length:Nat)):=Ti (x:=.lst (ba L)) rfl (by show R.ok (D.int ((ba L).length:Nat))=_;rw[bD])
 have hc:=pU ns (8+(L.length:Nat)) (by omega) (by omega)
 generalize dh ns (8+((L.length:Nat):Int)).toNat=cl at hc;have hm:=jL cl 51 (L.length:Nat) (by omega)
 obtain⟨m0,m1⟩:=mC cl 51 (m:=((L.length:Nat):Int)) (by omega)
 obtain⟨m,em⟩:∃m:Nat,pF cl 51 (L.length:Nat)=(m:Int):=⟨(pF cl 51 (L.length:Nat)).toNat,by omega⟩
 rw[em]at hm m1;have dA:m<L.length:=by omega
 have he:aK bI (aA (aK cI (aA (aB 0) (aA (e2 gP (eC (.int 8)) (e1 fU (eO 2))) aL))) (aA (eC (.int 51)) (aA (e1 fU (eO 2)) aL))) (vp ns n L O)=.ok (.int (m:Int)):=aO (aW (aO (aW rfl (aW (aP rfl hp rfl) rfl)) hc) (aW rfl (aW hp rfl))) hm;refine⟨L.eraseIdx m,O++[L[m]],?_,by rw[List.length_eraseIdx,Na dA];omega,by rw[we];rfl,?_,?_⟩
 .show (aK bI _ _).bind _=_;rw[he,aG];show (Xc (Pu.lc (ba L).length (m:Int))).bind _=_;rw[bD,Hx dA];show (Xc (ba L)[m]?).bind _=_;rw[o_ dA];show aV _ _=_;rw[aD ⟨Jn (by rw[bD];omega),by decide,dR (by omega)⟩,N6]
  have:ba O++[D.int (L[m]:Nat)]=ba (O++[L[m]]):=RP O L[m];rw[this];rfl
 .rw[wl];exact(List.Perm.append_left O (Ϟ dA))
 .cases O with
  |nil=>cases h0
  |cons a O=>exact h0
theorem DO(ns:List Int){n:Nat}:∀(k f:Nat)(L O:List Nat),L.length=k->k<f->k<=8->O.length+k<=8->O.head?=some 0->∃O',jU eL tR f (vp ns n L O)=.ok (.nx (vp ns n [] O'))/\O'.Perm (O++L)/\O'.head?=some 0
 |0,f+1,L,O,hL,_,_,_,h0=>by
  have:L=[]:=jl.mp hL;subst this;refine⟨O,wN ?_,by rw[Di],h0⟩
  exact aP (x:=.lst (ba [])) rfl (fQ rfl) (Vp [])
 |k+1,f+1,L,O,hL,hf,h8,hO,h0=>by
  obtain⟨L',O',e,l1,l2,pm,hd⟩:=O6 ns (n:=n) (L:=L) (O:=O) (by omega) (by omega) (by omega) h0
  obtain⟨Q,e',pm',fi⟩:=DO ns (n:=n) k f L' O' (by omega) (by omega) (by omega) (by omega) hd
  refine⟨Q,Nw ?_ e e',pm'.trans pm,fi⟩;have:L≠[]:=λz=>by rw[z]at hL;cases hL
  refine aP (x:=.lst (ba L)) rfl (fQ rfl) ((Vp L).trans ?_);rw[Cd this];rfl
def p_(ns:List Int) (h1:1<=n) (h8:n<=8):∃od:List Nat,sJ [.lst (ns.map D.int),.int n]=.ok (.lst (ba od))/\od.Perm (List.range n)/\od.head?=some 0:=by
 have er:iC 1 ((n:Int)-1).toNat=ba (List.range' 1 (n-1)):=by
  unfold iC ba;rw[List.range'_eq_map_range,ug,show ((n:Int)-1).toNat=n-1 by omega]
  rfl
 obtain⟨O,e,pm,hd⟩:=DO ns (n:=n) (n-1) 100000 (List.range' 1 (n-1)) [0] List.length_range' (by omega) (by omega) (by simp;omega) rfl
 refine⟨O,cB rfl (aU (st':=[some (.v (.lst (ns.map D.int))),some (.v (.int (n:Nat))),some (.o .l (ba (List.range' 1 (n-1)))),none]) (qH ?_) (aU (st':=vp ns n (List.range' 1 (n-1)) [0]) (qH (fQ rfl)) (aU e (dB rfl)))),pm.trans ?_,hd⟩
 .rw[<-er];show aV _ _=_;have hb:=jH;exact aD ⟨by omega,by omega,by omega,by omega,by omega⟩
 .obtain⟨k,rfl⟩:∃k,n=k+1:=⟨n-1,by omega⟩
  rw[show k+1-1=k by omega,UZ,Cz]
  exact yu _
end
section
def Gp{a b:NB}{xss':List (List D)}{st:ya}{r:R Pj}(h:a Xa st=.ok (.nx xss' st'))(h2:b xss' st'=r):Rh a b Xa st=r:=by
 show (a Xa st).bind _=_;rw[h];exact h2
def SD{st:ya} (h:f st=.ok d):Yn j f Xa st=.ok (.nx Xa (st.set j (some (.v d)))):=by
 show (f st).bind _=_;rw[h];rfl
def ϟ{h:Ex} {st:ya} {i k:Nat} {row:List D} (hf:f st=.ok d) (hg:g st=.ok (.int (i:Nat))) (hh:h st=.ok (.int (k:Nat))) (hi:Xa[i]?=some row) (hk:k<row.length):QF g h f Xa st=.ok (.nx (Xa.set i (row.set k d)) st):=by
 show (f st).bind _=_;rw[hf,aG];show (g st).bind _=_;rw[hg,aG];show (h st).bind _=_;rw[hh,aG];have hil:=(Kd.mp hi).1;show (Xc (Pu.lc Xa.length (i:Int))).bind _=_;rw[Hx hil];show (match Xa[i]? with|some ys=>(Xc (Pu.lc ys.length (k:Int))).bind λl=>R.ok (Pj.nx (Xa.set i (ys.set l d)) st)|none=>.bad)=_
 rw[hi];show (Xc (Pu.lc row.length (k:Int))).bind _=_;rw[Hx hk];rfl
def q_{st:ya} {i:Nat} (hf:f st=.ok d) (hg:g st=.ok (.int (i:Nat))) (hs:st[j]?=some (some (.o .l xs))) (hi:i<xs.length):VE j g f Xa st=.ok (.nx Xa (st.set j (some (.o .l (xs.set i d))))):=by
 show (f st).bind _=_;rw[hf,aG];show (g st).bind _=_;rw[hg,aG];show (match st[j]? with|some (some (.o .l xs))=>(Xc (Pu.lc xs.length (i:Int))).bind λk=>R.ok (Pj.nx Xa (st.set j (some (.o .l (xs.set k d)))))|_=>.bad)=_
 rw[hs];show (Xc (Pu.lc xs.length (i:Int))).bind _=_;rw[Hx hi];rfl
def WT{tg:Tg}{body:NB}{d:D} {xss':List (List D)} {st s2:ya} {r:R Pj} (h:tg d st=.ok s1) (hb:body Xa s1=.ok (.nx xss' s2)) (hr:Gk tg body ds xss' s2=r):Gk tg body (d::ds) Xa st=r:=by
 show (tg d st).bind _=_;rw[h,aG];show (body Xa s1).bind _=_;rw[hb];exact hr
variable{S:List (List Nat)}{rk:List Nat}{c:Nat}
def goN(S:List (List Nat))(ns:List Int)(r k:Nat):Nat:=2*Mb S (r/2) k+(pF (dh ns (11+(r:Int)).toNat) (54+(k:Int)) 2).toNat
def UD(S:List (List Nat))(ns:List Int)(r k:Nat):goN S ns r k/2=Mb S (r/2) k:=by
 obtain⟨a,b⟩:=mC (dh ns (11+(r:Int)).toNat) (54+(k:Int)) (m:=2) (by decide)
 unfold goN;omega
abbrev Jc(od:List Nat)(r:Nat):Nat:=od.getD r 0
abbrev zQ(S:List (List Nat))(ns:List Int)(od:List Nat)(c r:Nat):List Nat:=(List.range c).map λk=>Jc od (goN S ns r k)
abbrev dst(ns:List Int)(S:List (List Nat))(rk od:List Nat)(n:Nat)(Q:List Nat)(o m:Int)(x9 Nc Hc:Option Sl):ya:=[some (.v (.lst (ns.map D.int))),some (.v (.lst (Sa S))),some (.v (.lst (ba rk))),some (.v (.int (n:Nat))),some (.v (.lst (ba od))),none,some (.o .l (ba Q)),some (.v (.int o)),some (.v (.int m)),x9,Nc,Hc]
variable{ns:List Int}{od:List Nat}
def fF{r:Nat}(h:r<od.length):Wb (ba od) (r:Int)=some (.int (Jc od r:Nat)):=by
 rw[TV (Pc h)];unfold Jc;rw[xf,Pc h];rfl
def r_(M:Ma S rk c)(Cr:od.length=2*S.length) {Q:List Nat} {o m:Int} {r k:Nat} {Hc:Option Sl} (hr:r<2*S.length) (hk:k<c) (h8:S.length<=4) (hT:T[Jc od r]?=some row) (hl:row.length=c) :
  pL (T.map ba) (dst ns S rk od n Q o m (some (.v (.int r))) (some (.v (.int k))) Hc)=.ok (.nx ((T.set (Jc od r) (row.set k (Jc od (goN S ns r k)))).map ba) (dst ns S rk od n Q o m (some (.v (.int r))) (some (.v (.int k))) (some (.v (.int (goN S ns r k:Nat)))))):=by
 obtain⟨rw1,a1,a2,a3⟩:=xX M (q:=r/2) (a:=k) (by omega) hk
 have hc:=pU ns (11+(r:Int)) (by omega) (by omega)
 have hm:=jL (dh ns (11+(r:Int)).toNat) (54+(k:Int)) 2 (by decide)
 obtain⟨m0,m1⟩:=mC (dh ns (11+(r:Int)).toNat) (54+(k:Int)) (m:=2) (by decide)
 have hg:goN S ns r k<od.length:=by
  have:=UD S ns r k;omega
 have e:∀{Nc:Option Sl},Nc=some (.v (.int (k:Nat)))->(e2 gP (e2 jO (eC (.int 2)) (e2 Ta (e2 Ta (aB 1) (e2 zW (aB 9) (eC (.int 2)))) (aB 10))) (aK bI (aA (aK cI (aA (aB 0) (aA (e2 gP (eC (.int 11)) (aB 9)) aL))) (aA (e2 gP (eC (.int 54)) (aB 10)) (aA (eC (.int 2)) aL))))) (dst ns S rk od n Q o m (some (.v (.int r))) Nc Hc)=.ok (.int (goN S ns r k:Nat)):=λ{Nc} hx=>by
  subst hx;refine aP (aP (x:=.int 2) (y:=.int (Mb S (r/2) k:Nat)) rfl (aP (x:=.lst (ba rw1)) (y:=.int (k:Nat)) (aP (x:=.lst (Sa S)) (y:=.int ((r/2:Nat):Int)) rfl (aP (x:=.int (r:Nat)) (y:=.int 2) rfl rfl ?_) (iW a1)) rfl (iW a2)) (aD (.inl (by decide)))) (aO (aW (aO (aW rfl (aW (aP rfl rfl rfl) rfl)) hc) (aW (aP rfl rfl rfl) (aW rfl rfl))) hm) ?_
  .rw[Ep ⟨by omega,by omega⟩]
   rfl
  .show R.ok (D.int (2*(Mb S (r/2) k:Int)+_))=_;unfold goN;rw[show ((2*Mb S (r/2) k+(pF (dh ns (11+(r:Int)).toNat) (54+(k:Int)) 2).toNat:Nat):Int)=2*(Mb S (r/2) k:Int)+pF (dh ns (11+(r:Int)).toNat) (54+(k:Int)) 2 by omega]
 refine Gp (SD (e rfl)) ((ϟ (d:=.int (Jc od (goN S ns r k):Nat)) (i:=Jc od r) (k:=k) (row:=ba row) (aP (x:=.lst (ba od)) (y:=.int (goN S ns r k:Nat)) rfl rfl (iW (fF hg))) (aP (x:=.lst (ba od)) (y:=.int (r:Nat)) rfl rfl (iW (fF (by omega)))) rfl (by rw[Vg,hT];rfl) (by rw[bD];omega)).trans ?_)
 rw[List.map_set,<-WC];rfl
theorem HR(M:Ma S rk c)(Cr:od.length=2*S.length){Q:List Nat}{o m:Int}{r n:Nat}(hr:r<2*S.length)(h8:S.length<=4):∀(j k:Nat) (T:List (List Nat)) (row:List Nat) (Nc Hc:Option Sl),k+j=c->T[Jc od r]?=some row->row.length=c->row.take k=(zQ S ns od c r).take k->∃Ie Je,Gk (ib 10) pL (ba (List.range' k j)) (T.map ba) (dst ns S rk od n Q o m (some (.v (.int r))) Nc Hc)=.ok (.nx ((T.set (Jc od r) (zQ S ns od c r)).map ba) (dst ns S rk od n Q o m (some (.v (.int r))) Ie Je))
 |0,k,T,row,Nc,Hc,hk,hT,hl,ht=>by
  have dk:k=c:=by omega
  have hw:(zQ S ns od c r).length=c:=by simp[zQ]
  have:row=zQ S ns od c r:=by
   rw[Oq (by omega),Oq (by omega)]at ht
   exact ht
  subst this;refine⟨Nc,Hc,?_⟩;have:T.set (Jc od r) (zQ S ns od c r)=T:=by
   obtain⟨h1,h2⟩:=Kd.mp hT;rw[<-h2];exact List.set_getElem_self h1
  rw[this];rfl
 |j+1,k,T,row,Nc,Hc,hk,hT,hl,ht=>by
  have Qb:=(Kd.mp hT).1;have hw:(zQ S ns od c r).length=c:=by simp[zQ]
  obtain⟨Ie,Je,e⟩:=HR M Cr (Q:=Q) (o:=o) (m:=m) (n:=n) hr h8 j (k+1) (T.set (Jc od r) (row.set k (Jc od (goN S ns r k)))) (row.set k (Jc od (goN S ns r k))) (some (.v (.int (k:Nat)))) (some (.v (.int (goN S ns r k:Nat)))) (by omega) (by rw[fu Qb]) (by rw[vg];exact hl) (by
   refine wu λi=>?_
   rw[getElem?_take,getElem?_take]
   by_cases hi:i<k+1
   .rw[Na hi,Na hi]
    by_cases Zz:i=k
    .subst Zz;rw[fu (by omega)]
     show some (Jc od (goN S ns r i))=((List.range c).map λk=>Jc od (goN S ns r k))[i]?
     rw[Vg,uz (by omega)]
     rfl
    .rw[kl (tf Zz)];have:=congrArg (λl:List Nat=>l[i]?) ht
     simp only[getElem?_take]at this;rw[Na (by omega),Na (by omega)]at this
     exact this
   .rw[La hi,La hi])
  refine⟨Ie,Je,?_⟩;rw[Cz];rw[List.set_set]at e;exact WT (d:=.int (k:Nat)) rfl (r_ M Cr hr (by omega) h8 hT hl) e
def Sj{α:Type}(o:Nat->Nat)(W:Nat->α)(T:List α)(l:List Nat):List α:=l.foldl (λT r=>T.set (o r) (W r)) T
theorem Zw{α:Type}{o:Nat->Nat}{W:Nat->α}:∀(l:List Nat)(T:List α),(Sj o W T l).length=T.length
 |[],T=>rfl
 |r::l,T=>by
  show (Sj o W (T.set (o r) (W r)) l).length=_;rw[Zw l,vg]
theorem JR{α:Type}{o:Nat->Nat}{W:Nat->α}{x:Nat}:∀(l:List Nat)(T:List α),(∀r∈l,o r≠x)->(Sj o W T l)[x]?=T[x]?
 |[],T,_=>rfl
 |r::l,T,h=>by
  show (Sj o W (T.set (o r) (W r)) l)[x]?=_;rw[JR l _ λr hr=>h r (Bb _ hr),kl (h r xb)]
theorem Jx{α:Type}{o:Nat->Nat}{W:Nat->α}:∀(l:List Nat)(T:List α),l.Nodup->(∀a∈l,∀b∈l,o a=o b->a=b)->(∀r∈l,o r<T.length)->∀r∈l,(Sj o W T l)[o r]?=some (W r)
 |[],T,_,_,_,r,hr=>nomatch hr
 |a::l,T,nd,inj,lt,r,hr=>by
  have ⟨n1,n2⟩:=Gf.mp nd;show (Sj o W (T.set (o a) (W a)) l)[o r]?=_;rcases Nb.mp hr with rfl|hr
  .rw[JR l _ λb hb e=>n1 (by rw[<-inj b (Bb _ hb) r xb e];exact hb),fu (lt r xb)]
  .exact Jx l _ n2 (λx hx y hy=>inj x (Bb _ hx) y (Bb _ hy)) (λr hr=>by rw[vg];exact lt r (Bb _ hr)) r hr
def Sk(rk:List Nat)(o m r:Nat):Nat:=rk.getD (r/2) 0*o+m
theorem KR(M:Ma S rk c)(Cr:od.length=2*S.length)(Qb:∀r,r<2*S.length->Jc od r<2*S.length){o m n:Nat}(ho:o<1000)(h8:S.length<=4):∀(l:List Nat) (T:List (List Nat)) (Q:List Nat) (x9 Nc Hc:Option Sl),(∀r∈l,r<2*S.length)->T.length=2*S.length->(∀row∈T,row.length=c)->Q.length=2*S.length->
  ∃y9 Ie Je,Gk (ib 9) pM (ba l) (T.map ba) (dst ns S rk od n Q o m x9 Nc Hc)=.ok (.nx ((Sj (Jc od) (zQ S ns od c) T l).map ba) (dst ns S rk od n (Sj (Jc od) (Sk rk o m) Q l) o m y9 Ie Je))
 |[],T,Q,x9,Nc,Hc,_,_,_,_=>⟨x9,Nc,Hc,rfl⟩
 |r::l,T,Q,x9,Nc,Hc,hl,hT,ze,hQ=>by
  have hr:=hl r xb;have hor:=Qb r hr;have hTr:T[Jc od r]?=some T[Jc od r]:=Pc (by omega)
  have hw:(zQ S ns od c r).length=c:=by simp[zQ]
  obtain⟨yw,zw,yf⟩:=HR (ns:=ns) M Cr (Q:=Q) (o:=o) (m:=m) (n:=n) hr h8 c 0 T T[Jc od r] Nc Hc (by omega) hTr (ze _ (Wf (by omega))) rfl
  obtain⟨y9,Ie,Je,e⟩:=KR M Cr Qb (o:=o) (m:=m) (n:=n) ho h8 l (T.set (Jc od r) (zQ S ns od c r)) (Q.set (Jc od r) (Sk rk o m r)) (some (.v (.int (r:Nat)))) yw zw (λr hr=>hl r (Bb _ hr)) (by rw[vg];exact hT) (λrow hm=>by
   rcases MY hm with h|h
   .exact ze row h
   .rw[h];exact hw) (by rw[vg];exact hQ)
  refine⟨y9,Ie,Je,WT (d:=.int (r:Nat)) (s1:=dst ns S rk od n Q o m (some (.v (.int (r:Nat)))) Nc Hc) (s2:=dst ns S rk od n (Q.set (Jc od r) (Sk rk o m r)) o m (some (.v (.int (r:Nat)))) yw zw) rfl (Gp (xss':=(T.set (Jc od r) (zQ S ns od c r)).map ba) (st':=dst ns S rk od n Q o m (some (.v (.int (r:Nat)))) yw zw) ?_ ?_) e⟩
  .have Ya:e1 fU (e2 Ta (aB 1) (eC (.int 0))) (dst ns S rk od n Q o m (some (.v (.int (r:Nat)))) Nc Hc)=.ok (.int (c:Nat)):=Ti (x:=.lst (ba S[0])) (aP (x:=.lst (Sa S)) (y:=.int 0) rfl rfl (iW (qm (q:=0) M.one))) (by
    show Pu.R.ok (D.int ((ba S[0]).length:Nat))=_;rw[bD,(M.row S[0] (Wf M.one)).1])
   have c3:=M.c3;show (uL _ _).bind _=_;rw[oq Ya (by omega),aG]
   rw[<-UZ]at yf;exact yf
  .have Q0:r/2<rk.length:=by rw[M.Jr];omega
   refine(q_ (d:=.int (Sk rk o m r:Nat)) (i:=Jc od r) (xs:=ba Q) ?_ (aP (x:=.lst (ba od)) (y:=.int (r:Nat)) rfl rfl (iW (fF (by omega)))) rfl (by rw[bD];omega)).trans ?_
   .refine aP (x:=.int ((rk.getD (r/2) 0:Nat)*(o:Int))) (y:=.int (m:Nat)) (aP (x:=.int (rk.getD (r/2) 0:Nat)) (y:=.int (o:Nat)) (aP (x:=.lst (ba rk)) (y:=.int ((r/2:Nat):Int)) rfl (aP (x:=.int (r:Nat)) (y:=.int 2) rfl rfl ?_) (iW (WE Q0))) rfl (aD (.inr ⟨by omega,by omega⟩))) rfl ?_
    .rw[Ep ⟨by omega,by omega⟩]
     rfl
    .show Pu.R.ok (D.int ((rk.getD (r/2) 0:Nat)*(o:Int)+(m:Int)))=_;unfold Sk;rw[Int.natCast_add,Int.natCast_mul]
   .rw[WC];rfl
end
section
variable{S:List (List Nat)}{rk:List Nat}{c:Nat}{ns:List Int}{od:List Nat}
def s_(c:Nat):rep c [D.int 0]=ba (List.replicate c 0):=by
 unfold rep ba;rw[List.map_replicate]
 induction c with
 |zero=>rfl
 |succ c ih=>rw[ll,ll,jo,ih];rfl
def RX{st:ya}{n:Nat}(h:g st=.ok (.int (n:Nat)))(hn:n<=1000):vm (aA (eC (.int 0)) aL) g st=.ok (.lst (ba (List.replicate n 0))):=by
 show (R.ok [D.int 0]).bind _=_;rw[aG,h,aG];show aV _ _=_;have hb:=jH;rw[aD ⟨dR (by show 1<=_;decide),dR (by rw[rg];show 1*n<=_;omega),by omega,by omega⟩,rg,s_]
theorem ZP:∀l:List Nat,(ba l).all atom=true
 |[]=>rfl
 |_::l=>ZP l
def bKx(h:T.length<=1000):Us (.lst (Sa T))=.ok (.lst (Sa T)):=by
 refine aD ⟨dR (by rw[nH];omega),xu.mpr λd hd=>?_⟩
 obtain⟨r,_,rfl⟩:=Rc.mp hd;exact ZP r
def unZ(T:List (List Nat)):(Sa T).map Gj=T.map ba:=by
 unfold Sa;rw[ug];rfl
def bHg(T:List (List Nat)):(T.map ba).map D.lst=Sa T:=by
 unfold Sa;rw[ug];rfl
structure Ord(od:List Nat)(n:Nat):Prop where
 len:od.length=n
 lt:∀r,r<n->Jc od r<n
 inj:∀a,a<n->∀b,b<n->Jc od a=Jc od b->a=b
 on:∀x,x<n->∃r,r<n/\Jc od r=x
 z:Jc od 0=0
def bHh(hp:od.Perm (List.range n))(hd:od.head?=some 0):Ord od n:=by
 have hl:od.length=n:=by rw[hp.length_eq,Im]
 have nd:od.Nodup:=hp.nodup_iff.mpr Fu;have at_:∀r (h:r<od.length),Jc od r=od[r]:=λr h=>by
  unfold Jc;rw[xf,Pc h];rfl
 refine⟨hl,λr hr=>?_,λa ha b hb e=>?_,λx hx=>?_,?_⟩
 .rw[at_ r (by omega)]
  exact Qc.mp (hp.mem_iff.mp (Wf _))
 .rw[at_ a (by omega),at_ b (by omega)]at e
  exact(List.getElem_inj nd).mp e
 .obtain⟨r,hr,e⟩:=io.mp (hp.mem_iff.mpr (Qc.mpr hx));exact⟨r,by omega,by rw[at_ r hr];exact e⟩
 .cases od with
  |nil=>cases hd
  |cons a l=>cases hd;rfl
open Classical in
noncomputable def iF(od:List Nat)(n x:Nat):Nat:=(if h:∃r,r<n/\Jc od r=x then h.choose else 0)/2
def Js(h:Ord od n) (hr:r<n):iF od n (Jc od r)=r/2:=by
 have hx:∃s,s<n/\Jc od s=Jc od r:=⟨r,hr,rfl⟩;unfold iF;rw[dif_pos hx];rw[h.inj _ hx.choose_spec.1 r hr hx.choose_spec.2]
abbrev dZ(S:List (List Nat))(c:Nat):List (List Nat):=(List.range (2*S.length)).map λ_=>List.replicate c 0
abbrev dT(S:List (List Nat))(ns:List Int)(od:List Nat)(c:Nat):List (List Nat):=Sj (Jc od) (zQ S ns od c) (dZ S c) (List.range (2*S.length))
abbrev dQ(S:List (List Nat))(rk od:List Nat)(o m:Nat):List Nat:=Sj (Jc od) (Sk rk o m) (List.replicate (2*S.length) 0) (List.range (2*S.length))
def Ϡ(M:Ma S rk c)(h4:S.length<=4)(h:Ord od (2*S.length)){o:Nat}:Ma (dT S ns od c) (dQ S rk od o m) c:=by
 have n1:=M.one;have tl:(dT S ns od c).length=2*S.length:=by rw[Zw];simp
 refine⟨by omega,by omega,M.c1,M.c3,λrow ze=>?_,by rw[Zw,tl];simp⟩
 obtain⟨x,hx,e⟩:=io.mp ze;obtain⟨r,hr,rfl⟩:=h.on x (by omega)
 have hf:=Jx (W:=zQ S ns od c) (List.range (2*S.length)) (dZ S c) Fu (λa ha b hb e=>h.inj a (Qc.mp ha) b (Qc.mp hb) e) (λr hr=>by simp;exact h.lt r (Qc.mp hr)) r (Qc.mpr hr)
 rw[Pc hx,e]at hf;cases hf;refine⟨by simp[zQ],λy hy=>?_⟩
 obtain⟨k,hk,rfl⟩:=Rc.mp hy;rw[tl];refine h.lt _ ?_
 have:=UD S ns r k;obtain⟨_,_,_,a3⟩:=xX M (q:=r/2) (a:=k) (by omega) (Qc.mp hk)
 omega
def ϡ(M:Ma S rk c)(h:Ord od (2*S.length)){o:Nat}(ho:o%2=1)(hm:m%2=0):og S (dT S ns od c) rk (dQ S rk od o m) c (iF od (2*S.length)) o m:=by
 have n1:=M.one;have tl:(dT S ns od c).length=2*S.length:=by rw[Zw];simp
 have inj:∀a∈List.range (2*S.length),∀b∈List.range (2*S.length),Jc od a=Jc od b->a=b:=λa ha b hb e=>h.inj a (Qc.mp ha) b (Qc.mp hb) e
 have ft:=λr (hr:r<2*S.length)=>Jx (W:=zQ S ns od c) (List.range (2*S.length)) (dZ S c) Fu inj (λr hr=>by simp;exact h.lt r (Qc.mp hr)) r (Qc.mpr hr)
 have fq:=λr (hr:r<2*S.length)=>Jx (W:=Sk rk o m) (List.range (2*S.length)) (List.replicate (2*S.length) 0) Fu inj (λr hr=>by simp;exact h.lt r (Qc.mp hr)) r (Qc.mpr hr)
 refine⟨λx hx=>?_,λx hx k hk=>?_,?_,λx hx=>?_,ho,hm⟩
 .obtain⟨r,hr,rfl⟩:=h.on x (by omega)
  rw[Js h hr];omega
 .obtain⟨r,hr,rfl⟩:=h.on x (by omega)
  rw[Js h hr];have e:Mb (dT S ns od c) (Jc od r) k=Jc od (goN S ns r k):=by
   unfold Mb;rw[xf,xf,ft r hr];show (zQ S ns od c r)[k]?.getD 0=_;rw[Vg,uz hk];rfl
  have hg:=UD S ns r k;obtain⟨_,_,_,a3⟩:=xX M (q:=r/2) (a:=k) (by omega) hk
  rw[e,Js h (by omega),hg]
 .have:=Js h (r:=0) (by omega)
  rw[h.z]at this;exact this
 .obtain⟨r,hr,rfl⟩:=h.on x (by omega)
  rw[Js h hr,xf,fq r hr];show Sk rk o m r=_;unfold Sk;rw[ZG]
def bHi{Q:List Nat}{o m:Int}{x9 Nc Hc:Option Sl}{X:D}:Yg [6] (cZ (zY (aA (aB 5) (aA (aB 6) aL)))) (List.set (dst ns S rk od n Q o m x9 Nc Hc) 5 (some (.v X)))=.ok (.rt (.tup [X,.lst (ba Q)])):=dB (Sn rfl)
def bHj{xs:List D}{a:Int}(h0:0<=a)(h1:a<xs.length):∃d∈xs,Ta (.lst xs) (.int a)=.ok d:=by
 obtain⟨d,hd,e⟩:=VS h0 h1;exact⟨d,hd,by show Xc (Wb xs a)=_;rw[e];rfl⟩
def P6(M:Ma S rk c)(h4:S.length<=4)(ns:List Int):∃T Hb π o m,kI [.lst (ns.map D.int),.lst (Sa S),.lst (ba rk)]=.ok (.tup [.lst (Sa T),.lst (ba Hb)])/\Ma T Hb c/\og S T rk Hb c π o m:=by
 have n1:=M.one;obtain⟨od,eo,hp,hd⟩:=p_ ns (n:=2*S.length) (by omega) (by omega)
 have h:=bHh hp hd;have SH:=pU ns 9 (by decide) (by decide)
 have cv:=pU ns 10 (by decide) (by decide)
 generalize dh ns (9:Int).toNat=c9 at SH;generalize dh ns (10:Int).toNat=c10 at cv;obtain⟨a0,a1⟩:=mC c9 52 (m:=5) (by decide)
 have J1:=jL c9 52 5 (by decide)
 have m53:=jL c9 53 3 (by decide)
 obtain⟨b0,b1⟩:=mC c9 53 (m:=3) (by decide)
 obtain⟨o,LH⟩:∃o:Nat,pF c9 52 5=(o:Int):=⟨(pF c9 52 5).toNat,by omega⟩
 rw[LH]at a1 J1;obtain⟨w,w0,ew⟩:∃w:Int,0<w/\Ta (.lst [.int 1,.int 9,.int (10^20)]) (.int (pF c9 53 3))=.ok (.int w):=by
  obtain⟨d,hd,e⟩:=bHj (xs:=[.int 1,.int 9,.int (10^20)]) b0 b1;simp only[mem_cons,not_mem_nil,or_false]at hd;rcases hd with rfl|rfl|rfl
  .exact⟨1,by decide,e⟩
  .exact⟨9,by decide,e⟩
  .exact⟨10^20,by decide,e⟩
 obtain⟨m,em⟩:∃m:Nat,c10%w=(m:Int):=⟨(c10%w).toNat,by have:=Lm c10 (show w≠0 by omega);omega⟩
 have Ya:∀{st:ya},st[1]?=some (some (.v (.lst (Sa S))))->e1 fU (e2 Ta (aB 1) (eC (.int 0))) st=.ok (.int (c:Nat)):=λ{st} hs=>Ti (x:=.lst (ba S[0])) (aP (x:=.lst (Sa S)) (y:=.int 0) (by unfold aB;rw[hs]) rfl (iW (qm (q:=0) M.one))) (by
  show R.ok (D.int ((ba S[0]).length:Nat))=_;rw[bD,(M.row S[0] (Wf M.one)).1])
 have c3:=M.c3
 let xk:ya:=[some (.v (.lst (ns.map D.int))),some (.v (.lst (Sa S))),some (.v (.lst (ba rk))),some (.v (.int (2*S.length:Nat))),some (.v (.lst (ba od))),none,none,none,none,none,none,none]
 have ce:iQ (ib 9) cH iT (ae [9] xk) (ba (List.range (2*S.length)))=.ok (Sa (dZ S c)):=by
  have:=oU (tg:=ib 9) (C:=cH) (E:=iT) (st:=ae [9] xk) (q:=λ_=>true) (G:=λ_=>D.lst (ba (List.replicate c 0))) (List.range (2*S.length)) λr _=>⟨_,rfl,rfl,RX (Ya rfl) (by omega)⟩
  rw[qz.mpr (λ_ _=>rfl)]at this
  rw[this];unfold Sa;rw[ug];rfl
 have en:dI [9] (ib 9) (uL (aB 3)) cH iT xk=.ok (.lst (Sa (dZ S c))):=nG (oq (n:=2*S.length) rfl (by omega)) (by simp;omega) ce
 obtain⟨y9,Ie,Je,el⟩:=KR (ns:=ns) M h.len h.lt (o:=1+2*o) (m:=2*m) (n:=2*S.length) (by omega) h4 (List.range (2*S.length)) (dZ S c) (List.replicate (2*S.length) 0) none none none (λr hr=>Qc.mp hr) (by simp) (λrow hr=>by
  obtain⟨_,_,rfl⟩:=Rc.mp hr;simp) (by simp)
 refine⟨_,_,_,1+2*o,2*m,?_,Ϡ (ns:=ns) M h4 h (o:=1+2*o) (m:=2*m),ϡ M h (by omega) (by omega)⟩
 refine cB rfl (aU (st':=[some (.v (.lst (ns.map D.int))),some (.v (.lst (Sa S))),some (.v (.lst (ba rk))),some (.v (.int (2*S.length:Nat))),none,none,none,none,none,none,none,none]) (bU (aP (x:=.int 2) (y:=.int (S.length:Nat)) rfl (Ti (x:=.lst (Sa S)) rfl (by show R.ok (D.int ((Sa S).length:Nat))=_;rw[nH])) ((aD (.inl (by decide))).trans ?_))) (aU (st':=xk) (bU (aO rfl eo)) ?_))
 .rw[Int.natCast_mul];rfl
 show (dI [9] (ib 9) (uL (aB 3)) cH iT xk).bind _=_;rw[en,aG,bKx (by simp;omega),aG]
 show R.bind (Rh _ _ ((Sa _).map Gj) (xk.set 5 none)) _=_;rw[unZ];have run:(Rh (UE 6 (vm (aA (eC (.int 0)) aL) (aB 3))) (Rh (Yn 7 (e2 gP (eC (.int 1)) (e2 jO (eC (.int 2)) (aK bI (aA (aK cI (aA (aB 0) (aA (eC (.int 9)) aL))) (aA (eC (.int 52)) (aA (eC (.int 5)) aL))))))) (Rh (Yn 8 (e2 jO (eC (.int 2)) (e2 qU (aK cI (aA (aB 0) (aA (eC (.int 10)) aL))) (e2 Ta (iR (aA (eC (.int 1)) (aA (eC (.int 9)) (aA (e2 xq (eC (.int 10)) (eC (.int 20))) aL)))) (aK bI (aA (aK cI (aA (aB 0) (aA (eC (.int 9)) aL))) (aA (eC (.int 53)) (aA (eC (.int 3)) aL)))))))) (Rh (Sy (ib 9) (uL (aB 3)) pM) (qE 5 (Yg [6] (cZ (zY (aA (aB 5) (aA (aB 6) aL)))))))))) ((dZ S c).map ba) (xk.set 5 none)=.ok (.rt (.tup [.lst (Sa (dT S ns od c)),.lst (ba (dQ S rk od (1+2*o) (2*m)))])):=by
  let FK (x7 x8:Option Sl):ya:=[some (.v (.lst (ns.map D.int))),some (.v (.lst (Sa S))),some (.v (.lst (ba rk))),some (.v (.int (2*S.length:Nat))),some (.v (.lst (ba od))),none,some (.o .l (ba (List.replicate (2*S.length) 0))),x7,x8,none,none,none]
  refine Gp (xss':=(dZ S c).map ba) (st':=FK none none) ?_ (Gp (st':=FK (some (.v (.int ((1+2*o:Nat):Int)))) none) (SD (d:=.int ((1+2*o:Nat):Int)) ?_) (Gp (st':=FK (some (.v (.int ((1+2*o:Nat):Int)))) (some (.v (.int ((2*m:Nat):Int))))) (SD (d:=.int ((2*m:Nat):Int)) ?_) (Gp (xss':=(dT S ns od c).map ba) (st':=dst ns S rk od (2*S.length) (dQ S rk od (1+2*o) (2*m)) ((1+2*o:Nat):Int) ((2*m:Nat):Int) y9 Ie Je) ?_ ?_)))
  .show (vm _ _ _).bind _=_;rw[RX (n:=2*S.length) rfl (by omega)]
   rfl
  .refine aP (x:=.int 1) (y:=.int (2*(o:Int))) rfl (aP (x:=.int 2) (y:=.int (o:Int)) rfl (aO (aW (aO rfl SH) rfl) J1) (aD (.inl (by decide)))) ?_
   show R.ok (D.int (1+2*(o:Int)))=_;rw[show ((1+2*o:Nat):Int)=1+2*(o:Int) by omega]
  .refine aP (x:=.int 2) (y:=.int (m:Int)) rfl (aP (x:=.int c10) (y:=.int w) (aO rfl cv) (aP (fQ (aW rfl (aW rfl (aW (d:=.int (10^20)) (aP rfl rfl (aD ⟨by decide,by decide,by decide⟩)) rfl)))) (aO (aW (aO rfl SH) rfl) m53) ew) ((xW w0).trans (by rw[em]))) ((aD (.inl (by decide))).trans ?_)
   rw[show ((2*m:Nat):Int)=2*(m:Int) by omega]
  .show (uL _ _).bind _=_;rw[oq (n:=2*S.length) rfl (by omega),aG]
   exact el
  .show R.bind (Yg [6] _ _) _=_;rw[bHg,bHi];rfl
 rw[run];rfl
end
def VD(h1:de d<=64)(h2:plain d=true)(h3:bc d d=true):Ue d d=.ok (.bl false):=by
 show aV _ _=_;rw[aD ⟨h1,h2,h2⟩,h3];rfl
def Ϣ(a b:Int):Ue (.lst [Th a,Th b]) (.lst [Th a,Th b])=.ok (.bl false):=by
 unfold Th;split<;>split<;>exact VD (by simp[de,jX]) (by simp[plain,eV]) (by simp[bc,jT])
def ϣ(a b:Int):Ue (.tup [.int a,.int b]) (.tup [.int a,.int b])=.ok (.bl false):=VD (by simp[de,jX]) (by simp[plain,eV]) (by simp[bc,jT])
def Ϥ(v:Bool):Ue (.lst [.bl v,.bl v,.bl v,.bl v]) (.lst [.bl v,.bl v,.bl v,.bl v])=.ok (.bl false):=VD (by simp[de,jX]) (by simp[plain,eV]) (by simp[bc,jT])
def bKy{st:ya}(h1:f st=.ok (.bl false))(h2:g st=.ok (.bl false)):Jl f g st=.ok (.bl false):=by
 show (f st).bind _=_;rw[h1];exact h2
def ϥ{x:α}{xs:List α}{lo hi:Option Int}(h:x∈cut xs lo hi):x∈xs:=List.mem_of_mem_drop (List.mem_of_mem_take h)
theorem YW{tg:Tg}{L:Bd}(P:ya->Prop):∀(ds:List D),(∀d∈ds,∀st,P st->∃s1 s2,tg d st=.ok s1/\L s1=.ok (.nx s2)/\P s2)->∀st,P st->∃st',P st'/\Lb tg L ds st=.ok (.nx st')
 |[],_,st,h=>⟨st,h,rfl⟩
 |d::ds,hd,st,h=>by
  obtain⟨s1,s2,a1,a2,a3⟩:=hd d xb st h;obtain⟨st',p',e⟩:=YW P ds (λd h=>hd d (Bb _ h)) s2 a3
  exact⟨st',p',oR a1 a2 e⟩
section
variable{S T:List (List Nat)}{rk Hb:List Nat}{c od mo:Nat}{π:Nat->Nat}
def Vr(C:og S T rk Hb c π od mo)(M:Ma S rk c)(M':Ma T Hb c)(g:Bool):eU T c Hb g=eU S c rk g:=(ϖ C M M' g).symm
def t_(C:og S T rk Hb c π od mo)(M:Ma S rk c)(M':Ma T Hb c):Bi T c Hb (mO T c Hb)=Bi S c rk (mO S c rk):=by
 unfold Bi mO;simp only[Vr C M M']
noncomputable abbrev Tn(ns:List Int)(S T:List (List Nat))(rk Hb:List Nat)(c:Nat)(x5 Nc Hc:Option Sl):ya:=[some (.v (.lst (ns.map D.int))),some (.v (mD S rk c)),some (.v (mD T Hb c)),some (.v (mD S (nC S rk c (mO S c rk)) c)),some (.v (mD T (nC T Hb c (mO T c Hb)) c)),x5,some (.v (.lst (Sa S))),some (.v (.lst (ba rk))),some (.v (.lst (Sa T))),some (.v (.lst (ba Hb))),Nc,Hc,none]
def ax{tg:Tg}{E:Ex}{st:ya}{d y:D} (h:tg d st=.ok s1) (he:E s1=.ok y) (hr:iQ tg cH E st ds=.ok ys):iQ tg cH E st (d::ds)=.ok (y::ys):=by
 rw[jZ,h,aG,show cH s1=.ok (.bl true) from rfl,aG,jY,Na rfl,he,aG,hr]
 rfl
def bx{S:List (List Nat)}{rk:List Nat}{w:D}{v:Bool}{st:ya}(h12:st[12]?=some (some (.v (mD S rk c))))(NH:st[10]?=some (some (.v w)))(h:fP [mD S rk c,w,.int 0]=.ok (.bl v)):ID st=.ok (.bl v):=by
 have e:rT "Machine" "lets" fP [.int 0] (aB 12) (aA (aB 10) aL) st=fP (mD S rk c::([w]++[.int 0])):=Tr (by unfold aB;rw[h12]) (aW (by unfold aB;rw[NH]) rfl) (by decide)
 exact e.trans h
def u_(C:og S T rk Hb c π od mo)(M:Ma S rk c)(M':Ma T Hb c)(ns:List Int)(cell:Int)(Nc Hc:Option Sl):∃Ie Je,JD (Tn ns S T rk Hb c (some (.v (.int cell))) Nc Hc)=.ok (.nx (Tn ns S T rk Hb c (some (.v (.int cell))) Ie Je)):=by
 obtain⟨b,hb,_,bl,lb⟩:=NT M.c1 M.c3 cell (lo:=0) (mo:=9) (by omega) (by omega)
 obtain⟨t,ht,t1,tl,l2⟩:=NT M.c1 M.c3 (cell+1) (lo:=1) (mo:=9) (by omega) (by omega)
 have hf:=BE lb l2 t1;obtain⟨v1,g1,yf⟩:=Ax M M.one lb l2 t1 (by omega) (by omega)
 obtain⟨v2,g2,Jf⟩:=Ax M' M'.one lb l2 t1 (by omega) (by omega)
 obtain⟨v3,g3,e3⟩:=Ax (RD (base:=mO S c rk) M) M.one lb l2 t1 (by omega) (by omega)
 obtain⟨v4,g4,e4⟩:=Ax (RD (base:=mO T c Hb) M') M'.one lb l2 t1 (by omega) (by omega)
 have h2:v1=v2:=bHc C M' hf g1 g2;have h3:v1=v3:=OV M hf g1 g3;have h4:v2=v4:=OV M' hf g2 g4;subst h2;subst h3;subst h4;have n1:=M.one;have Ya:∀{Nc Hc},e1 fU (e2 Ta (aB 6) (eC (.int 0))) (Tn ns S T rk Hb c (some (.v (.int cell))) Nc Hc)=.ok (.int (c:Nat)):=λ{Nc Hc}=>Ti (x:=.lst (ba S[0])) (aP (x:=.lst (Sa S)) (y:=.int 0) rfl rfl (iW (qm (q:=0) M.one))) (by
  show R.ok (D.int ((ba S[0]).length:Nat))=_;rw[bD,(M.row S[0] (Wf M.one)).1])
 have ce:iQ (ib 12) cH ID (ae [12] (Tn ns S T rk Hb c (some (.v (.int cell))) (some (.v (.tup [.str b,.str t]))) Hc)) [mD S rk c,mD T Hb c,mD S (nC S rk c (mO S c rk)) c,mD T (nC T Hb c (mO T c Hb)) c]=.ok [.bl v1,.bl v1,.bl v1,.bl v1]:=by
  exact ax rfl (bx rfl rfl yf) (ax rfl (bx rfl rfl Jf) (ax rfl (bx rfl rfl e3) (ax rfl (bx rfl rfl e4) rfl)))
 refine⟨some (.v (.tup [.str b,.str t])),some (.v (.lst [.bl v1,.bl v1,.bl v1,.bl v1])),?_⟩;refine aU (bU (Sn (aW (aO (aW rfl (aW Ya (aW rfl (aW rfl rfl)))) hb) (aW (aO (aW (aP rfl rfl rfl) (aW Ya (aW rfl (aW rfl rfl)))) ht) rfl)))) ?_
 refine aU (bU (nG (rW (fQ rfl)) (Zj rfl) ce)) ?_
 refine tX (aP (x:=.lst [.bl v1,.bl v1,.bl v1,.bl v1]) (y:=.lst [.bl v1,.bl v1,.bl v1,.bl v1]) rfl ?_ (Ϥ v1)) rfl;show ((e2 Ta (aB 11) (eC (.int 0)) _).bind _).bind _=_;rw[aP (x:=.lst [.bl v1,.bl v1,.bl v1,.bl v1]) (y:=.int 0) (z:=.ok (.bl v1)) rfl rfl rfl];exact aD ⟨dR (by show 1<=_;decide),dR (by show 4<=_;decide),by decide,by decide⟩
end
def law_true(ns:List Int)(hn:ns.length<=63):kq [.lst (ns.map D.int)]=.ok (.bl true):=by
 obtain⟨S,rk,c,em,M,h4⟩:=i_ ns (mo:=4) (by decide) (by decide)
 obtain⟨T,Hb,π,o,m,ed,M',C⟩:=P6 M (by omega) ns
 let Mr (x1 x2 x3 x4 x8 x9:Option Sl):ya:=[some (.v (.lst (ns.map D.int))),x1,x2,x3,x4,none,some (.v (.lst (Sa S))),some (.v (.lst (ba rk))),x8,x9,none,none,none]
 refine cB rfl (aU (st':=Mr none none none none none none) ?_ (aU (st':=Mr none none none none (some (.v (.lst (Sa T)))) (some (.v (.lst (ba Hb))))) ?_ (aU (bU (aO rfl (LD M))) (aU (bU (aO rfl (LD M'))) (aU (tX ?_ rfl) (aU (bU (aO rfl (CO M))) (aU (bU (aO rfl (CO M'))) ?_)))))))
 .show R.bind (kE [.lst (ns.map D.int),.int 0,.int 4]) _=_;rw[em];rfl
 .show R.bind (kI [.lst (ns.map D.int),.lst (Sa S),.lst (ba rk)]) _=_;rw[ed];rfl
 .have f1:e2 Ue (aK gC (aA (aB 1) aL)) (aK gC (aA (aB 2) aL)) (Mr (some (.v (mD S rk c))) (some (.v (mD T Hb c))) none none (some (.v (.lst (Sa T)))) (some (.v (.lst (ba Hb)))))=.ok (.bl false):=by
   refine aP (aO rfl (BO M)) (aO rfl (BO M')) ?_
   rw[Vr C M M',Vr C M M'];exact Ϣ _ _
  have f2:e2 Ue (aK kW (aA (aB 1) (aA (aB 6) aL))) (aK kW (aA (aB 2) (aA (aB 8) aL))) (Mr (some (.v (mD S rk c))) (some (.v (mD T Hb c))) none none (some (.v (.lst (Sa T)))) (some (.v (.lst (ba Hb)))))=.ok (.bl false):=by
   refine aP (aO rfl (VT M)) (aO rfl (VT M')) ?_
   rw[t_ C M M',Vr C M M',Vr C M M'];exact ϣ _ _
  exact bKy f1 f2
 let P (st:ya):Prop:=∃x5 Nc Hc,st=Tn ns S T rk Hb c x5 Nc Hc
 obtain⟨X1,⟨x5,Nc,Hc,rfl⟩,e⟩:=YW (tg:=ib 5) (L:=JD) P (cut (ns.map D.int) (some 10) (some 30)) (λd hd st wg=>by
  obtain⟨cell,_,rfl⟩:=Rc.mp (ϥ hd);obtain⟨x5,Nc,Hc,rfl⟩:=wg;obtain⟨Ie,Je,e⟩:=u_ C M M' ns cell Nc Hc;exact⟨_,_,rfl,e,_,_,_,rfl⟩) (Tn ns S T rk Hb c none none none) ⟨_,_,_,rfl⟩
 exact aU (oO (rW (show bj (aB 0) (uM (eC (.int 10))) (uM (eC (.int 30))) (Tn ns S T rk Hb c none none none)=.ok (.lst (cut (ns.map D.int) (some 10) (some 30))) from rfl)) e) (dB rfl)
end Pu
namespace Pu
open PySem PySem.Spec PyProof.Rows L2
abbrev Df:=L2.St
def gQ:gb->D
 |.inl i=>.int i
 |.inr x=>.str x.cps.toList
structure lm(K:Frag)(C:Addr):Prop where
 ga:findIn K (.ref C) "__getattribute__"=some (some (.builtin "BaseException.__getattribute__"))
 gn:findIn K (.ref C) "__getattr__"=some none
 mb:mroIn K C (.type "BaseException")=some true
 cl:(PySem.W.clsIn K C).isSome=true
 fd:findIn K (.ref C) "__class__"=some (some (.builtin "object.__class__"))
 sp:PySem.W.specialIn K (.builtin "object.__class__") "__get__"=some (some (.builtin "getset_descriptor.__get__"))
 tk:PySem.W.takesIn K (.builtin "object.__class__")=some true
 mr:mroIn K C (.type "object")=some true
structure ExcAt(K:Frag)(c:String)(C:Addr)(bm:List Value):Prop where
 ns:nsIn K mainGlobals (Str.ofString c)=some (some (.ref C))
 ob:∃(B newId Xo:String)(XZ:List Value),ExcBaseFacts B newId Xo XZ/\∀h,K.In h->∃N nm q bs XH sn sub ab col dd k0 k1 k2 k3 k5 mN,
  h.get? C=some (excClassObj nm q C N bs bm XH sn sub ab col dd k0 k1 k2 k3 k5 newId)/\h.Ns N mN/\mN "__init__"=none/\OwnTail h XZ bm
 ic:lm K C
def ZW(a C:Addr)(h:Heap):Prop:=∃o,h.get? a=some o/\o.cls=.ref C/\notCls o=true
structure Ji(K:Frag)(c:String)(C:Addr):Prop where
 ns:nsIn K mainGlobals (Str.ofString c)=some (some (.ref C))
 ic:lm K C
def ExcAt.is{K:Frag}{c:String} {bm:List Value} (h:ExcAt K c C bm):Ji K c C:=⟨h.ns,h.ic⟩
def E2(x C:Addr)(d:Option Addr)(h:Heap):Prop:=∃o,h.get? x=some o/\o.cls=.ref C/\notCls o=true/\o.dict=d
def C2(dx:Addr)(fs:List (Str×V))(h:Heap):Prop:=∃mA,h.Ns1 dx mA/\(∀f,xM (fs.lookup f) (mA f))/\PySem.Within mA (fs.map (·.1))
def Z1:List D->Bool
 |.str _::_=>true
 |_=>false
mutual
def Va(K:Frag)(H:Hp):D->V->Prop
 |.Gb,v=>v=V.Gb
 |.bl b,v=>v=V.bl b
 |.int i,v=>v=V.int i
 |.str s,v=>v=V.str ⟨s.toArray⟩
 |.tup ds,v=>∃a vs,v=V.ref a/\H a=some (.tup vs)/\bC K H ds vs
 |.lst ds,v=>∃a vs,v=V.ref a/\jc K H a vs/\bC K H ds vs/\(Z1 ds=true->H a=some (.lst vs))
 |.jd t ks ds,v=>∃a vs,v=V.ref a/\((t=false/\∃ma:List (gb×V),H a=some (.dK ma)/\ma.map (λp=>gQ p.1)=ks/\vs=ma.map (·.2))\/(t=true/\∃ma:List (List gb×V),H a=some (.dT ma)/\ma.map (λp=>D.tup (p.1.map gQ))=ks/\vs=ma.map (·.2)))/\bC K H ds vs
 |.ins c ns ds,v=>∃a C dx fs vs,v=V.ref a/\H a=some (.ins C dx fs)/\nsIn K mainGlobals (Str.ofString c)=some (some (.ref C))/\fs.map (·.1)=ns.map Str.ofString/\vs=fs.map (·.2)/\bC K H ds vs
 |.Ei c ns ds,v=>∃a φ C,v=V.ref a/\H a=some (.ext φ)/\(∀h,φ h->ZW a C h)/\Ji K c C/\∃dx fs vs,((ns=[]/\vs=[])\/(φ=E2 a C (some dx)/\dx≠a/\H dx=some (.ext (C2 dx fs))/\fs.map (·.1)=ns.map Str.ofString/\vs=fs.map (·.2)))/\bC K H ds vs
 |.fn f,v=>∃a,v=V.ref a/\nsIn K mainGlobals (Str.ofString f)=some (some (.ref a))
def bC(K:Frag)(H:Hp):List D->List V->Prop
 |[],vs=>vs=[]
 |d::ds,vs=>∃v r,vs=v::r/\Va K H d v/\bC K H ds r
end
def Wr{K:Frag} {xs:List V} (e:aY H H') (h:af K H a xs):af K H' a xs:=by
 rcases h with (h|⟨o,h⟩)|h
 .exact .inl (.inl (e _ _ h))
 .exact .inl (.inr ⟨o,e _ _ h⟩)
 .exact .inr h
mutual
theorem Va.mono{K:Frag}{H H':Hp}(s:aY H H'):∀{d:D}{v:V},Va K H d v->Va K H' d v
 |.Gb,_,h=>by unfold Va at h ⊢; exact h
 |.bl _,_,h=>by unfold Va at h ⊢; exact h
 |.int _,_,h=>by unfold Va at h ⊢; exact h
 |.str _,_,h=>by unfold Va at h ⊢; exact h
 |.tup _,_,h=>by
  unfold Va at h ⊢;obtain⟨a,vs,e,q,r⟩:=h;exact⟨a,vs,e,s _ _ q,bC.mono s r⟩
 |.lst _,_,h=>by
  unfold Va at h ⊢;obtain⟨a,vs,e,q,r,t⟩:=h;exact⟨a,vs,e,s.seq q,bC.mono s r,λz=>s _ _ (t z)⟩
 |.jd _ _ _,_,h=>by
  unfold Va at h ⊢;obtain⟨a,vs,e,q,r⟩:=h;refine⟨a,vs,e,?_,bC.mono s r⟩;rcases q with ⟨q0,ma,q1,q2⟩|⟨q0,ma,q1,q2⟩
  .exact .inl ⟨q0,ma,s _ _ q1,q2⟩
  .exact .inr ⟨q0,ma,s _ _ q1,q2⟩
 |.ins _ _ _,_,h=>by
  unfold Va at h ⊢;obtain⟨a,C,dx,fs,vs,e,q1,q2,q3,q4,r⟩:=h;exact⟨a,C,dx,fs,vs,e,s _ _ q1,q2,q3,q4,bC.mono s r⟩
 |.fn _,_,h=>by unfold Va at h ⊢; exact h
 |.Ei _ _ _,_,h=>by
  unfold Va at h ⊢;obtain⟨a,φ,C,e,q,hφ,hi,dx,fs,vs,h1,r⟩:=h;refine⟨a,φ,C,e,s _ _ q,hφ,hi,dx,fs,vs,?_,bC.mono s r⟩;rcases h1 with h1|⟨h1,h2,h3,h4⟩
  .exact .inl h1
  .exact .inr ⟨h1,h2,s _ _ h3,h4⟩
theorem bC.mono{K:Frag}{H H':Hp}(s:aY H H'):∀{ds:List D}{vs:List V},bC K H ds vs->bC K H' ds vs
 |[],_,h=>by unfold bC at h ⊢; exact h
 |d::ds,_,h=>by
  unfold bC at h ⊢;obtain⟨v,r,e,q,t⟩:=h;exact⟨v,r,e,Va.mono s q,bC.mono s t⟩
end
section
variable{K:Frag}{H:Hp}
def sV:Va K H .Gb v↔v=V.Gb:=by unfold Va;exact Iff.rfl
def cX:Va K H (.bl b) v↔v=V.bl b:=by unfold Va;exact Iff.rfl
def bM{i:Int}:Va K H (.int i) v↔v=V.int i:=by unfold Va;exact Iff.rfl
def eN{s:List Nat}:Va K H (.str s) v↔v=V.str ⟨s.toArray⟩:=by unfold Va;exact Iff.rfl
def Xr:Va K H (.tup ds) v↔∃a vs,v=V.ref a/\H a=some (.tup vs)/\bC K H ds vs:=by conv=>lhs;unfold Va
def iI(h:Va K H (.tup ds) v):∃a vs,v=V.ref a/\af K H a vs/\bC K H ds vs:=
 let ⟨a,vs,e,q,r⟩:=Xr.mp h;⟨a,vs,e,af.of q,r⟩
def XC:Va K H (.lst ds) v↔∃a vs,v=V.ref a/\jc K H a vs/\bC K H ds vs/\(Z1 ds=true->H a=some (.lst vs)):=by conv=>lhs;unfold Va
structure WA(K:Frag)(H:Hp)(ds:List D)(v:V):Prop where
 mp:Va K H (.lst ds) v->∃a vs,v=V.ref a/\jc K H a vs/\bC K H ds vs
 mpr:(∃a vs,v=V.ref a/\H a=some (.lst vs)/\bC K H ds vs)->Va K H (.lst ds) v
def gK:WA K H ds v:=⟨λh=>let ⟨a,vs,e,q,r,_⟩:=XC.mp h;⟨a,vs,e,q,r⟩,λ⟨a,vs,e,h,r⟩=>XC.mpr ⟨a,vs,e,jc.of h,r,λ_=>h⟩⟩
def sW{t:Bool}{ks:List D}:Va K H (.jd t ks ds) v↔∃a vs,v=V.ref a/\((t=false/\∃ma:List (gb×V),H a=some (.dK ma)/\ma.map (λp=>gQ p.1)=ks/\vs=ma.map (·.2))\/(t=true/\∃ma:List (List gb×V),H a=some (.dT ma)/\ma.map (λp=>D.tup (p.1.map gQ))=ks/\vs=ma.map (·.2)))/\bC K H ds vs:=by conv=>lhs;unfold Va
def WD{c:String}{ns:List String}:Va K H (.ins c ns ds) v↔∃a C dx fs vs,v=V.ref a/\H a=some (.ins C dx fs)/\nsIn K mainGlobals (Str.ofString c)=some (some (.ref C))/\fs.map (·.1)=ns.map Str.ofString/\vs=fs.map (·.2)/\bC K H ds vs:=by conv=>lhs;unfold Va
def Ϧ{c:String}{ns:List String}:Va K H (.Ei c ns ds) v↔∃a φ C,v=V.ref a/\H a=some (.ext φ)/\(∀h,φ h->ZW a C h)/\Ji K c C/\∃dx fs vs,((ns=[]/\vs=[])\/(φ=E2 a C (some dx)/\dx≠a/\H dx=some (.ext (C2 dx fs))/\fs.map (·.1)=ns.map Str.ofString/\vs=fs.map (·.2)))/\bC K H ds vs:=by conv=>lhs;unfold Va
def bHk{f:String}:Va K H (.fn f) v↔∃a,v=V.ref a/\nsIn K mainGlobals (Str.ofString f)=some (some (.ref a)):=by conv=>lhs;unfold Va
def dD:bC K H [] vs↔vs=[]:=by unfold bC;exact Iff.rfl
def bN{d:D}:bC K H (d::ds) vs↔∃v r,vs=v::r/\Va K H d v/\bC K H ds r:=by conv=>lhs;unfold bC
def bC.nil:bC K H [] []:=dD.mpr rfl
def bC.cons{d:D}{ds:List D}{v:V}{vs:List V}(h:Va K H d v)(t:bC K H ds vs):bC K H (d::ds) (v::vs):=bN.mpr ⟨v,vs,rfl,h,t⟩
theorem bC.length:∀{ds:List D}{vs:List V},bC K H ds vs->vs.length=ds.length
 |[],_,h=>by rw[dD.mp h];rfl
 |_::ds,_,h=>by
  obtain⟨v,r,rfl,_,t⟩:=bN.mp h;rw[Qd,Qd,bC.length t]
theorem bC.get:∀{ds:List D}{vs:List V}{i:Nat}{d:D},bC K H ds vs->ds[i]?=some d->∃v,vs[i]?=some v/\Va K H d v
 |[],_,_,_,_,e=>by simp at e
 |_::ds,_,0,d,h,e=>by
  obtain⟨v,r,rfl,q,t⟩:=bN.mp h;simp at e;subst e;exact⟨v,rfl,q⟩
 |_::ds,_,i+1,d,h,e=>by
  obtain⟨v,r,rfl,q,t⟩:=bN.mp h;obtain⟨u,e1,e2⟩:=bC.get (i:=i) t (by simpa using e)
  exact⟨u,by simpa using e1,e2⟩
theorem bC.append:∀{ds es:List D}{vs us:List V},bC K H ds vs->bC K H es us->bC K H (ds++es) (vs++us)
 |[],_,_,_,h,t=>by rw[dD.mp h];exact t
 |_::_,_,_,_,h,t=>by
  obtain⟨v,r,rfl,q,w⟩:=bN.mp h;exact .cons q (bC.append w t)
theorem bC.set{d:D}{v:V}(hd:Va K H d v):∀{ds:List D}{vs:List V}(i:Nat),bC K H ds vs->bC K H (ds.set i d) (vs.set i v)
 |[],_,_,h=>by rw[dD.mp h];exact .nil
 |_::_,_,0,h=>by
  obtain⟨v,r,rfl,q,w⟩:=bN.mp h;exact .cons hd w
 |_::_,_,i+1,h=>by
  obtain⟨v,r,rfl,q,w⟩:=bN.mp h;exact .cons q (bC.set hd i w)
theorem bC.take:∀{ds:List D}{vs:List V}(n:Nat),bC K H ds vs->bC K H (ds.take n) (vs.take n)
 |_,_,0,_=>.nil
 |[],_,_+1,h=>by rw[dD.mp h];exact .nil
 |_::_,_,n+1,h=>by
  obtain⟨v,r,rfl,q,w⟩:=bN.mp h;exact .cons q (bC.take n w)
theorem bC.drop:∀{ds:List D}{vs:List V}(n:Nat),bC K H ds vs->bC K H (ds.drop n) (vs.drop n)
 |_,_,0,h=>h
 |[],_,_+1,h=>by rw[dD.mp h];exact .nil
 |_::_,_,n+1,h=>by
  obtain⟨v,r,rfl,q,w⟩:=bN.mp h;exact bC.drop n w
theorem bC.rep{ds:List D}{vs:List V}(h:bC K H ds vs):∀n:Nat,bC K H (Pu.rep n ds) (List.replicate n vs).flatten
 |0=>.nil
 |n+1=>by
  unfold Pu.rep;rw[ll,jo,ll,jo];exact h.append (bC.rep h n)
end
def hide(A:List Addr)(H:Hp):Hp:=λb=>if b∈A then none else H b
def cY{b:Addr}(h:b∈A):hide A H b=none:=Na h
def bK{b:Addr}(h:b∉A):hide A H b=H b:=La h
def bA(A:List Addr)(H:Hp):aY (hide A H) H:=λb o h=>by
 unfold hide at h;split at h
 .cases h
 .exact h
theorem aY.hide{A:List Addr}{H H':Hp}(s:aY H H'):aY (hide A H) (hide A H'):=λb o h=>by
 unfold Pu.hide at h ⊢;split at h
 .cases h
 .rename_i q;rw[La q];exact s b o h
def fW{A':List Addr} (h:∀a∈A',a∈A):aY (hide A H) (hide A' H):=λb o q=>by
 by_cases hb:b∈A
 .rw[cY hb]at q;cases q
 .rw[bK hb]at q;rw[bK λz=>hb (h b z)]
  exact q
def wW(H:Hp):hide [] H=H:=by
 funext b;exact bK (by simp)
def oV(h:a∈A):hide A (Ua H a o)=hide A H:=by
 funext b
 by_cases hb:b∈A
 .rw[cY hb,cY hb]
 .rw[bK hb,bK hb];exact bF λz=>hb (z ▸ h)
def bT{p:Addr} (h:H p=none):aY H (Ua H p o):=λb u q=>by
 rw[bF (bB q h)];exact q
def nT:HO->Bool
 |.tup _=>false
 |_=>true
def bX{o:Option HO}(h:o.any nT=true):∃u,o=some u/\nT u=true:=by
 cases o with
 |none=>cases h
 |some u=>exact⟨u,rfl,h⟩
def Own(A:List Addr)(H:Hp):Prop:=∀a∈A,(H a).any nT=true
def Own.mono(h:Own A H)(s:aY H H'):Own A H':=λa ha=>by
 obtain⟨o,e,n⟩:=bX (h a ha);rw[s a o e];exact n
def Own.free(h:Own A H){p:Addr}(e:H p=none):p∉A:=λz=>by
 have q:=h p z;rw[e]at q;cases q
def jF{K:Frag} {p:Addr} (w:Own A H) (e:H p=none) (h:bC K (hide A H) ds vs):Va K (hide A (Ua H p (.lst vs))) (.lst ds) (.ref p):=
 gK.mpr ⟨p,vs,rfl,(by rw[bK (w.free e)];exact bL),h.mono (aY.hide (bT e))⟩
def CN{K:Frag} {p:Addr} (w:Own A H) (e:H p=none) (h:bC K (hide A H) ds vs):Va K (hide A (Ua H p (.tup vs))) (.tup ds) (.ref p):=
 Xr.mpr ⟨p,vs,rfl,(by rw[bK (w.free e)];exact bL),h.mono (aY.hide (bT e))⟩
def om(K:Frag):OK->Addr->HO->List V->Prop
 |.l,_,o,vs=>o=.lst vs
 |.d t ks,_,o,vs=>(t=false/\∃ma:List (gb×V),o=.dK ma/\ma.map (λp=>gQ p.1)=ks/\vs=ma.map (·.2))\/(t=true/\∃ma:List (List gb×V),o=.dT ma/\ma.map (λp=>D.tup (p.1.map gQ))=ks/\vs=ma.map (·.2))
 |.i n c ns,a,o,vs=>a=n/\∃C dx fs,o=.ins C dx fs/\nsIn K mainGlobals (Str.ofString c)=some (some (.ref C))/\fs.map (·.1)=ns.map Str.ofString/\vs=fs.map (·.2)
def om.rep{K:Frag} {k:OK} (ko:om K k a o vs) (h:H a=some o) (r:bC K H ds vs):Va K H (qp k ds) (.ref a):=by
 cases k with
 |l=>have e:o=.lst vs:=ko;subst e;exact gK.mpr ⟨a,vs,rfl,h,r⟩
 |d t ks=>
  refine sW.mpr ⟨a,vs,rfl,?_,r⟩;rcases ko with ⟨q0,ma,rfl,q⟩|⟨q0,ma,rfl,q⟩
  .exact .inl ⟨q0,ma,h,q⟩
  .exact .inr ⟨q0,ma,h,q⟩
 |i n c ns=>
  obtain⟨_,C,dx,fs,rfl,q1,q2,q3⟩:=ko;exact WD.mpr ⟨a,C,dx,fs,vs,rfl,h,q1,q2,q3,r⟩
def om.nt{K:Frag}{k:OK} (ko:om K k a o vs):nT o=true:=by
 cases k with
 |l=>rw[show o=.lst vs from ko];rfl
 |d t ks=>rcases ko with ⟨_,_,rfl,_⟩|⟨_,_,rfl,_⟩ <;> rfl
 |i n c ns=>obtain⟨_,_,_,_,rfl,_⟩:=ko;rfl
structure RS(K:Frag)(B A:List Addr)(H:Hp)(st:ya)(σ:Df):Prop where
 len:st.length=σ.length
 own:Own (A++B) H
 ye:∀a∈A,a∉B
 val:∀(i:Nat) d,st[i]?=some (some (.v d))->∃v,σ[i]?=some (some v)/\Va K (hide (A++B) H) d v
 lst:∀(i:Nat) k xs,st[i]?=some (some (.o k xs))->∃a o vs,σ[i]?=some (some (.ref a))/\a∈A/\H a=some o/\om K k a o vs/\bC K (hide (A++B) H) xs vs/\
  ∀(j:Nat) k' ys,st[j]?=some (some (.o k' ys))->σ[j]?=some (some (.ref a))->j=i
theorem RS.mono{K:Frag}{B A:List Addr}{H H':Hp}{st:ya}{σ:Df}(r:RS K B A H st σ)(s:aY H H'):RS K B A H' st σ where
 len:=r.len
 own:=r.own.mono s
 ye:=r.ye
 val:=λi d e=>let ⟨v,e1,q⟩:=r.val i d e;⟨v,e1,q.mono (aY.hide s)⟩
 lst:=λi k xs e=>let ⟨a,o,vs,e1,m,h,ko,q,u⟩:=r.lst i k xs e;⟨a,o,vs,e1,m,s _ _ h,ko,q.mono (aY.hide s),u⟩
def Le(A:List Addr)(H:Hp)(A':List Addr)(H':Hp):Prop:=aY (hide A H) (hide A' H')
theorem Le.refl{A:List Addr}{H:Hp}:Le A H A H:=aY.refl _
def Le.of(s:aY H H'):Le A H A H':=aY.hide s
theorem Le.trans{A A1 A2:List Addr}{H H1 H2:Hp}(a:Le A H A1 H1)(b:Le A1 H1 A2 H2):Le A H A2 H2:=aY.trans a b
def tI(K:Frag)(B:List Addr)(f:Ex):TE:=λσ H Q=>∃A st d,RS K B A H st σ/\f st=.ok d/\∀v H',aY H H'->Va K (hide (A++B) H') d v->Q v H'
def lG(K:Frag)(A:List Addr)(H:Hp)(d:D)(v:V):Prop:=
 Va K (hide A H) d v\/∃a k o ds vs,d=qp k ds/\v=V.ref a/\H a=some o/\om K k a o vs/\bC K (hide A H) ds vs
theorem lG.mono{K:Frag}{A:List Addr}{H H':Hp}{d:D}{v:V}(s:aY H H')(h:lG K A H d v):lG K A H' d v:=by
 rcases h with h|⟨a,k,o,ds,vs,e1,e2,e3,ko,q⟩
 .exact .inl (h.mono (aY.hide s))
 .exact .inr ⟨a,k,o,ds,vs,e1,e2,s _ _ e3,ko,q.mono (aY.hide s)⟩
def tP(K:Frag)(B:List Addr)(f:Ex):TE:=λσ H Q=>∃A st d,RS K B A H st σ/\f st=.ok d/\∀v H',aY H H'->lG K (A++B) H' d v->Q v H'
def tA(K:Frag)(B:List Addr)(f:zd):TA:=λσ H Q=>∃A st ds,RS K B A H st σ/\f st=.ok ds/\∀vs H',aY H H'->bC K (hide (A++B) H') ds vs->Q vs H'
def tT(K:Frag)(B:List Addr)(f:Ex):TT:=λσ H Q=>∃A st b,RS K B A H st σ/\f st=.ok (.bl b)/\∀H',aY H H'->Q b H'
def tO(K:Frag)(B:List Addr)(f:yn):TO:=λσ H Q=>∃A st o,RS K B A H st σ/\f st=.ok o/\∀H',aY H H'->Q o H'
def Uy(K:Frag)(B A:List Addr)(H:Hp)(r:Fl)(Dn:Ends):Prop:=match r with
 |.nx st'=>∀A' jb H',Le A H A' H'->RS K B A' H' st' jb->Dn.nx jb H'
 |.bk st'=>∀A' jb H',Le A H A' H'->RS K B A' H' st' jb->Dn.bk jb H'
 |.ct st'=>∀A' jb H',Le A H A' H'->RS K B A' H' st' jb->Dn.ct jb H'
 |.rt d=>∀A' v H',Le A H A' H'->Va K (hide (A'++B) H') d v->Dn.rt v H'
def Uy.mono{K:Frag}{A1:List Addr} {r:Fl} (l:Le A H A1 H1) (p:Uy K B A H r Dn):Uy K B A1 H1 r Dn:=by
 cases r with
 |nx st=>exact λA' jb H' l'=>p A' jb H' (l.trans l')
 |bk st=>exact λA' jb H' l'=>p A' jb H' (l.trans l')
 |ct st=>exact λA' jb H' l'=>p A' jb H' (l.trans l')
 |rt d=>exact λA' v H' l'=>p A' v H' (l.trans l')
def tS(K:Frag)(B:List Addr)(b:Bd):TS:=λDn σ H=>∃A st r,RS K B A H st σ/\b st=.ok r/\Uy K B A H r Dn
def Bq(K:Frag)(B A:List Addr)(H:Hp)(J:It)(ds:List D):Prop:=∀A' H',Le A H A' H'->Own (A'++B) H'->∀(i:Nat),
 (∀d,ds[i]?=some d->J.go i H'/\∀x H3,J.Qr i H' x H3->aY H' H3/\Va K (hide (A'++B) H3) d x)/\(ds.length<=i->J.stop i H')
def Oh(K:Frag)(B:List Addr)(f:Nj):TI:=λσ H R=>∃A st ds,RS K B A H st σ/\f st=.ok ds/\∀J H',aY H H'->Bq K B A H' J ds->R J H'
def tG(K:Frag)(B:List Addr)(g:Tg):TG:=λv σ H Q=>∃A st d s1,RS K B A H st σ/\Va K (hide (A++B) H) d v/\g d st=.ok s1/\∀jb,RS K B A H s1 jb->Q jb H
section
def cL{t t':TE}(h:PE X e t)(m:∀σ H Q,t' σ H Q->t σ H Q):PE X e t':=λaa s σ H Q I q=>h aa s σ H Q I (m σ H Q q)
def JE{t t':TT}(h:PT X e t)(m:∀σ H Q,t' σ H Q->t σ H Q):PT X e t':=λaa s σ H Q I q=>h aa s σ H Q I (m σ H Q q)
def WV{t t':TT}(h:PW X e t)(m:∀σ H Q,t' σ H Q->t σ H Q):PW X e t':=λw aa s σ H Q I q=>h w aa s σ H Q I (m σ H Q q)
def YV{t t':TA}(h:PA X es t)(m:∀σ H Q,t' σ H Q->t σ H Q):PA X es t':=λpos aa s σ H Q I q=>h pos aa s σ H Q I (m σ H Q q)
def ZV{e:Option Expr}{t t':TO}(h:PO X e t)(m:∀σ H Q,t' σ H Q->t σ H Q):PO X e t':=λaa s σ H Q I q=>h aa s σ H Q I (m σ H Q q)
def iY{st:Stmt}{t t':TS}(h:PS X st t)(m:∀D σ H,t' D σ H->t D σ H):PS X st t':=λaa s σ H D I q=>h aa s σ H D I (m D σ H q)
def xZ{st:List Stmt}{t t':TS}(h:Dc X st t)(m:∀D σ H,t' D σ H->t D σ H):Dc X st t':=λaa s σ H D I q=>h aa s σ H D I (m D σ H q)
def AW{t t':TG}(h:PG X e t)(m:∀v σ H Q,t' v σ H Q->t v σ H Q):PG X e t':=λaa s σ H v u Q I r q=>h aa s σ H v u Q I r (m v σ H Q q)
def BW{t t':TI}(h:L2.PI X tg e t)(m:∀σ H R,t' σ H R->t σ H R):L2.PI X tg e t':=λaa s σ H R I q=>h aa s σ H R I (m σ H R q)
end
section
variable {a b:Expr} {h:Ex}
def aF(i:Nat) (hN:X.N[i]?=some x:=by rfl) (hv:Sf X.env.scope x:=by first|exact Or.inl rfl|exact Or.inr (Or.inl rfl)|exact Or.inr (Or.inr rfl)) (hd:(x==("__debug__":Str))=false:=by decide)
  (Ec:(x==("__classdict__":Str))=false:=by decide):PE X (.Name x pos) (tI X.K B (aB i)):=by
 refine cL (mQ hN hv hd Ec) ?_
 rintro σ H Q ⟨A,st,d,rs,hd,q⟩;unfold aB at hd;split at hd
 .rename_i d' e;cases hd;obtain⟨v,e1,r⟩:=rs.val i _ e;exact⟨v,e1,q v H (aY.refl _) r⟩
 .cases hd
end
end Pu
variable{σ τ:Pu.Df}
namespace Pu
open PySem PySem.Spec PyProof.Rows L2
section
variable{X:Cx}{B:List Addr}{a b e:Expr}{f g:Ex}{pos:Pos}
def Dr(h:PE X e (tC v))(r:∀H,Va X.K H d v):PE X e (tI X.K B (eC d)):=cL h (by
 rintro σ H Q ⟨A,st,d',rs,hd,q⟩;cases hd;exact q v H (aY.refl _) (r _))
def cP{i:Int}:PE X (.Constant (.int i) j pos) (tI X.K B (eC (.int i))):=Dr bFg λ_=>bM.mpr rfl
def Uk{q:Bool}:PE X (.Constant (.bool q) j pos) (tI X.K B (eC (.bl q))):=Dr bJ8 λ_=>cX.mpr rfl
def Fy:PE X (.Constant .none j pos) (tI X.K B (eC .Gb)):=Dr bFh λ_=>sV.mpr rfl
def uq(s:List Nat)(hx:x=⟨s.toArray⟩:=by first|rfl|decide|decide+kernel):PE X (.Constant (.str x) j pos) (tI X.K B (eC (.str s))):=Dr bFi λ_=>eN.mpr (by rw[hx])
def fy{y:Str}{t:Tok}(s:List Nat)(hm:X.mg x=some (.str y t))(hg:Gl X x:=by rfl)(hy:y=⟨s.toArray⟩:=by first|rfl|decide|decide+kernel)(hd:(x==("__debug__":Str))=false:=by decide):PE X (.Name x pos) (tI X.K B (eC (.str s))):=
 Dr (vS (v:=.str y) hg hm ⟨t,rfl⟩ hd) λ_=>eN.mpr (by rw[hy])
def CW{i:Int}{t:Tok}(hm:X.mg x=some (.int i t))(hg:Gl X x:=by rfl)(hd:(x==("__debug__":Str))=false:=by decide):PE X (.Name x pos) (tI X.K B (eC (.int i))):=
 Dr (vS (v:=.int i) hg hm ⟨t,rfl⟩ hd) λ_=>bM.mpr rfl
def Ia(h:PE X e (tI X.K B f)):PE X e (tP X.K B f):=cL h (by
 rintro σ H Q ⟨A,st,d,rs,hd,q⟩;exact⟨A,st,d,rs,hd,λv H' s r=>q v H' s (.inl r)⟩)
def gU(i:Nat) (hN:X.N[i]?=some x:=by rfl) (hv:Sf X.env.scope x:=by first|exact Or.inl rfl|exact Or.inr (Or.inl rfl)|exact Or.inr (Or.inr rfl)) (hd:(x==("__debug__":Str))=false:=by decide)
  (Ec:(x==("__classdict__":Str))=false:=by decide):PE X (.Name x pos) (tP X.K B (eO i)):=by
 refine cL (mQ hN hv hd Ec) ?_
 rintro σ H Q ⟨A,st,d,rs,hd,q⟩;unfold eO at hd;split at hd
 .rename_i d' e;cases hd;obtain⟨v,e1,r⟩:=rs.val i _ e;exact⟨v,e1,q v H (aY.refl _) (.inl r)⟩
 .rename_i k xs e;cases hd;obtain⟨a,o,vs,e1,m,h,ko,r,_⟩:=rs.lst i _ _ e;exact⟨_,e1,q _ H (aY.refl _) (.inr ⟨a,_,o,xs,vs,rfl,rfl,h,ko,r⟩)⟩
 .cases hd
section
variable{K:Frag}
theorem lG.Gb(h:lG K A H .Gb v):v=V.Gb:=by
 rcases h with h|⟨_,k,_,_,_,e,_⟩
 .exact sV.mp h
 .cases k<;>cases e
theorem lG.bl{q:Bool}(h:lG K A H (.bl q) v):v=V.bl q:=by
 rcases h with h|⟨_,k,_,_,_,e,_⟩
 .exact cX.mp h
 .cases k<;>cases e
theorem lG.int{i:Int}(h:lG K A H (.int i) v):v=V.int i:=by
 rcases h with h|⟨_,k,_,_,_,e,_⟩
 .exact bM.mp h
 .cases k<;>cases e
theorem lG.str{s:List Nat}(h:lG K A H (.str s) v):v=V.str ⟨s.toArray⟩:=by
 rcases h with h|⟨_,k,_,_,_,e,_⟩
 .exact eN.mp h
 .cases k<;>cases e
theorem lG.tup{ds:List D}(h:lG K A H (.tup ds) v):∃a vs,v=V.ref a/\af K H a vs/\bC K (hide A H) ds vs:=by
 rcases h with h|⟨_,k,_,_,_,e,_⟩
 .obtain⟨a,vs,e,q,r⟩:=iI h;exact⟨a,vs,e,Wr (bA _ _) q,r⟩
 .cases k<;>cases e
theorem lG.lst{ds:List D}(h:lG K A H (.lst ds) v):∃a vs,v=V.ref a/\jc K H a vs/\bC K (hide A H) ds vs:=by
 rcases h with h|⟨a,k,o,Pz,vs,e,e2,h,ko,r⟩
 .obtain⟨a,vs,e,q,r⟩:=gK.mp h;exact⟨a,vs,e,(bA _ _).seq q,r⟩
 .cases k<;>cases e;have e3:o=.lst vs:=ko;subst e3;exact⟨a,vs,e2,jc.of h,r⟩
end
def zg(K:Frag)(r:R2)(o:pe):Prop:=∀(A:List Addr)(H:Hp)(x y d:D)(v u:V)(Q:VK),Own A H->lG K A H x v->lG K A H y u->o x y=.ok d->
 (∀w H',aY H H'->Va K (hide A H') d w->Q w H')->r v u H Q
def gy{r:R2}{o:pe}(Yl:zg X.K r o) {Q:VK} (h:tI X.K B (e2 o f g) σ H Q):gw r (tP X.K B f) (tP X.K B g) σ H Q:=by
 obtain⟨A,st,d,rs,hd,q⟩:=h;obtain⟨x,hx,h2⟩:=R.ja hd;obtain⟨y,hy,h3⟩:=R.ja h2;refine⟨A,st,x,rs,hx,λv H1 s1 r1=>⟨A,st,y,rs.mono s1,hy,λu H2 s2 r2=>?_⟩⟩
 exact Yl (A++B) H2 x y d v u Q (rs.own.mono (s1.trans s2)) (r1.mono s2) r2 h3 λw H' s' r'=>q w H' (s1.trans (s2.trans s')) r'
def Wj{op:Operator}{r:R2}{o:pe}(ho:Yc X (binaryOp op) r)(Yl:zg X.K r o)(ha:PE X a (tP X.K B f))(hb:PE X b (tP X.K B g)):PE X (.BinOp a op b pos) (tI X.K B (e2 o f g)):=
 cL (QE ho ha hb) λ_ _ _ h=>gy Yl h
def mV{r:R2}{o:pe}(ho:Yc X (compareOp op) r)(Yl:zg X.K r o)(ha:PE X a (tP X.K B f))(hb:PE X b (tP X.K B g))(hm:behindInMarks op b=false):PE X (.Compare a [op] [b] pos) (tI X.K B (e2 o f g)):=
 cL (η ho ha hb hm) λ_ _ _ h=>gy Yl h
def SX{f:Ex} {Q:Bool->Hp->Prop} (h:tT X.K B f σ H Q):tI X.K B f σ H λx H'=>∃k,x=.bl k/\Q k H':=by
 obtain⟨A,st,k,rs,hk,q⟩:=h;exact⟨A,st,.bl k,rs,hk,λv H' s r=>⟨k,cX.mp r,q H' s⟩⟩
def dX{r:R2}{o:pe}(ho:Yc X (compareOp op) r)(Yl:zg X.K r o)(ha:PE X a (tP X.K B f))(hb:PE X b (tP X.K B g))(hm:behindInMarks op b=false):PT X (.Compare a [op] [b] pos) (tT X.K B (e2 o f g)):=
 JE (θ ho ha hb hm) λ_ _ _ h=>gy Yl (SX h)
def mW{f:Ex}(h:PE X e (tI X.K B f))(he:∀whole,isTrue e X.env whole=(do let v <- whole;standAt e.pos;holding [v] (truthy v)):=by intro _;rfl):PT X e (tT X.K B f):=
 JE (bFj h he) λ_ _ _ q=>SX q
def yC{K:Frag}{g:Int->Int->D} {o:pe} (hr:∀H i j,Va K H (g i j) (gv i j)) (ho:∀x y d,o x y=.ok d->∃i j,x=.int i/\y=.int j/\d=g i j):zg K (oh gv) o:=by
 intro A H x y d v u Q w rx ry e q;obtain⟨i,j,rfl,rfl,rfl⟩:=ho x y d e;exact⟨i,j,rx.int,ry.int,q _ H (aY.refl _) (hr _ _ _)⟩
def et{K:Frag}{C:Int->Int->Prop}{g:Int->Int->D} {o:pe} (hr:∀H i j,Va K H (g i j) (gv i j)) (ho:∀x y d,o x y=.ok d->∃i j,x=.int i/\y=.int j/\C i j/\d=g i j):zg K (rI C gv) o:=by
 intro A H x y d v u Q w rx ry e q;obtain⟨i,j,rfl,rfl,c,rfl⟩:=ho x y d e;exact⟨i,j,rx.int,ry.int,c,q _ H (aY.refl _) (hr _ _ _)⟩
def gX(ha:PE X a (tP X.K B f))(hb:PE X b (tP X.K B g)):PE X (.BinOp a .Sub b pos) (tI X.K B (e2 Nt f g)):=
 Wj bFv (yC (g:=λi j=>.int (i-j)) (λ_ _ _=>bM.mpr rfl) λx y d e=>by
  unfold Nt at e;split at e
  .cases e;exact⟨_,_,rfl,rfl,rfl⟩
  .cases e) ha hb
def Xp(ha:PE X a (tP X.K B f))(hb:PE X b (tP X.K B g)):PE X (.BinOp a .FloorDiv b pos) (tI X.K B (e2 zW f g)):=
 Wj ε (et (g:=λi j=>.int (i/j)) (λ_ _ _=>bM.mpr rfl) λx y d e=>by
  unfold zW at e;split at e
  .obtain⟨c,e⟩:=aJ e;cases e;exact⟨_,_,rfl,rfl,c,rfl⟩
  .cases e) ha hb
def rZ(ha:PE X a (tP X.K B f))(hb:PE X b (tP X.K B g)):PE X (.BinOp a .Mod b pos) (tI X.K B (e2 qU f g)):=
 Wj bFx (et (g:=λi j=>.int (i%j)) (λ_ _ _=>bM.mpr rfl) λx y d e=>by
  unfold qU at e;split at e
  .obtain⟨c,e⟩:=aJ e;cases e;exact⟨_,_,rfl,rfl,c,rfl⟩
  .cases e) ha hb
def iX(ha:PE X a (tP X.K B f))(hb:PE X b (tP X.K B g)):PE X (.BinOp a .Pow b pos) (tI X.K B (e2 xq f g)):=
 Wj bFy (et (g:=λi j=>.int (i^j.toNat)) (λ_ _ _=>bM.mpr rfl) λx y d e=>by
  unfold xq at e;split at e
  .obtain⟨c,e⟩:=aJ e;cases e;exact⟨_,_,rfl,rfl,c,rfl⟩
  .cases e) ha hb
def bL0(K:Frag):R2:=λx y H Q=>∃l b xs zs,x=.ref l/\y=.ref b/\jc K H l xs/\jc K H b zs/\xs.length+zs.length<=sizeLine/\∀p,H p=none->Q (.ref p) (Ua H p (.lst (xs++zs)))
def ϧ:Yc X (binaryOp .Add) (bL0 X.K):=by
 intro aa s σ H x y v u Q I rx ry h;obtain⟨l,b,xs,zs,rfl,rfl,hH,hB,hz,q⟩:=h;cases rx;cases ry;obtain⟨Ga,r,⟨⟨cls,dd,data,sl⟩,n,ho,hc,_,hd⟩,z⟩:=I.list hH;obtain⟨ig,r2,⟨⟨cls2,KH,data2,sl2⟩,n2,L0,jv,_,hd2⟩,z2⟩:=I.list hB;simp only at hc hd jv hd2;subst hc hd jv hd2;have l1:=r.length;have l2:=r2.length;refine concat_meets ⟨_,ho,rfl⟩ ⟨_,L0,rfl⟩ noFill_list_add seq_list_add PySem.F.slot_list_add PySem.F.entry_list_add (PySem.F.args_list_add_2 _ _) (list_addW l b Ga.toArray ig.toArray n n2 dd KH sl sl2 (by simp only[List.size_toArray];omega)) ⟨ho,L0,?_⟩
 have ea:Ga.toArray++ig.toArray=(Ga++ig).toArray:=by simp
 rw[ea];exact⟨.ref _,_,I.ap (t':=s.toks) (r.append r2) (by rw[we];omega),rfl,q _ I.fresh⟩
def Ϩ(x y:List Nat):(⟨x.toArray⟩:Str)++(⟨y.toArray⟩:Str)=⟨(x++y).toArray⟩:=by
 show Str.append _ _=_;unfold Str.append;simp
def str_len(x:List Nat):(⟨x.toArray⟩:Str).length=x.length:=by simp[Str.length]
def lim(h:n<=big):n<=sizeLine:=Zd (by rw[jH]at h;exact h:n<=10000000) (by decide)
def gG(ha:PE X a (tP X.K B f))(hb:PE X b (tP X.K B g)):PE X (.BinOp a .Add b pos) (tI X.K B (e2 gP f g)):=by
 refine Wj (bFu.or (d6.or ϧ)) ?_ ha hb;intro A H x y d v u Q w rx ry e q;cases x<;>cases y<;>first|(cases e;done)|skip
 .cases e;exact .inl ⟨_,_,rx.int,ry.int,q _ H (aY.refl _) (bM.mpr rfl)⟩
 .obtain⟨c,e⟩:=aJ e;cases e;exact .inr (.inl ⟨_,_,rx.str,ry.str,by rw[str_len,str_len];exact lim c,q _ H (aY.refl _) (eN.mpr (by rw[Ϩ]))⟩)
 .obtain⟨c,e⟩:=aJ e;cases e;obtain⟨l,xs,e1,h1,r1⟩:=rx.lst;obtain⟨m,ys,e2,h2,r2⟩:=ry.lst;have l1:=r1.length;have l2:=r2.length;refine .inr (.inr ⟨l,m,xs,ys,e1,e2,h1,h2,by rw[l1,l2];exact lim c,λp hp=>q _ _ (bT hp) ?_⟩)
  exact jF w hp (r1.append r2)
def bHl{K:Frag}:zg K (oh λi j=>.bl (decide (i<=j))) Oz:=yC (g:=λi j=>.bl (decide (i<=j))) (λ_ _ _=>cX.mpr rfl) λx y d e=>by
 unfold Oz at e;split at e
 .cases e;exact⟨_,_,rfl,rfl,rfl⟩
 .cases e
def jt{K:Frag}:zg K (oh λi j=>.bl (decide (j<i))) Xg:=yC (g:=λi j=>.bl (decide (j<i))) (λ_ _ _=>cX.mpr rfl) λx y d e=>by
 unfold Xg at e;split at e
 .cases e;exact⟨_,_,rfl,rfl,rfl⟩
 .cases e
def iy{K:Frag}:zg K (oh λi j=>.bl (decide (j<=i))) Il:=yC (g:=λi j=>.bl (decide (j<=i))) (λ_ _ _=>cX.mpr rfl) λx y d e=>by
 unfold Il at e;split at e
 .cases e;exact⟨_,_,rfl,rfl,rfl⟩
 .cases e
theorem lG.ref{K:Frag}{A:List Addr}{H:Hp}{d:D}{v:V}(h:lG K A H d v)(h1:d≠.Gb)(h2:∀b,d≠.bl b)(h3:∀i,d≠.int i)(h4:∀s,d≠.str s):∃a,v=V.ref a:=by
 rcases h with h|⟨a,_,_,_,_,_,e,_⟩
 .cases d with
  |Gb=>exact(h1 rfl).elim
  |bl b=>exact(h2 b rfl).elim
  |int i=>exact(h3 i rfl).elim
  |str s=>exact(h4 s rfl).elim
  |tup _=>obtain⟨a,_,e,_⟩:=iI h;exact⟨a,e⟩
  |lst _=>obtain⟨a,_,e,_⟩:=gK.mp h;exact⟨a,e⟩
  |jd _ _ _=>obtain⟨a,_,e,_⟩:=sW.mp h;exact⟨a,e⟩
  |ins _ _ _=>obtain⟨a,_,_,_,_,e,_⟩:=WD.mp h;exact⟨a,e⟩
  |Ei _ _ _=>obtain⟨a,_,_,e,_⟩:=Ϧ.mp h;exact⟨a,e⟩
  |fn _=>obtain⟨a,e,_⟩:=bHk.mp h;exact⟨a,e⟩
 .exact⟨a,e⟩
def XT{K:Frag} (h:lG K A H d v):decide (v=V.Gb)=Pl d:=by
 cases d with
 |Gb=>rw[h.Gb];rfl
 |bl _=>rw[h.bl];rfl
 |int _=>rw[h.int];rfl
 |str _=>rw[h.str];rfl
 |tup _=>obtain⟨a,vs,e,_⟩:=h.tup;rw[e];rfl
 |lst _=>obtain⟨a,vs,e,_⟩:=h.lst;rw[e];rfl
 |jd _ _ _=>obtain⟨a,e⟩:=h.ref (by intro z;cases z) (by intro _ z;cases z) (by intro _ z;cases z) (by intro _ z;cases z);rw[e];rfl
 |ins _ _ _=>obtain⟨a,e⟩:=h.ref (by intro z;cases z) (by intro _ z;cases z) (by intro _ z;cases z) (by intro _ z;cases z);rw[e];rfl
 |Ei _ _ _=>obtain⟨a,e⟩:=h.ref (by intro z;cases z) (by intro _ z;cases z) (by intro _ z;cases z) (by intro _ z;cases z);rw[e];rfl
 |fn _=>obtain⟨a,e⟩:=h.ref (by intro z;cases z) (by intro _ z;cases z) (by intro _ z;cases z) (by intro _ z;cases z);rw[e];rfl
def cx(n:Nat)(i:Int):L2.lc n i=Pu.lc n i:=rfl
theorem bC.Wb{K:Frag}{H:Hp}{ds:List D}{vs:List V}{i:Int}{d:D}(r:bC K H ds vs)(e:Pu.Wb ds i=some d):∃v,L2.Wb vs i=some v/\Va K H d v:=by
 unfold Pu.Wb at e;unfold L2.Wb;rw[r.length,cx];cases h:Pu.lc ds.length i with
 |none=>rw[h]at e;cases e
 |some j=>
  rw[h]at e;exact r.get e
def pX{o:Option α}{a:α}(h:Xc o=.ok a):o=some a:=by
 cases o with
 |none=>cases h
 |some b=>cases h;rfl
def bHm{K:Frag}{x:D}(hd:MX x=false)(A:List Addr)(H:Hp)(x' y d:D)(v u:V)(Q:VK)(w:Own A H)(rx:lG K A H x v)(ry:lG K A H y u)(e:Ta x y=.ok d)(q:∀w H',aY H H'->Va K (hide A H') d w->Q w H'):WJ K v u H Q:=by
 cases x<;>first|(cases hd;done)|skip
 all_goals cases y
 all_goals first|(cases e;done)|skip
 .rename_i s i;obtain⟨hz,e⟩:=aJ e;have e:=pX e;cases h:Pu.Wb s i with
  |none=>rw[h]at e;cases e
  |some c=>
   rw[h]at e;cases e;refine .inr (.inr ⟨_,i,c,rx.str,ry.int,by rw[str_len];exact lim hz,?_,q _ H (aY.refl _) (eN.mpr rfl)⟩)
   show L2.Wb s.toArray.toList i=some c;rw[FG];exact h
 .rename_i ds i;have h:=pX (show Xc (Pu.Wb ds i)=.ok d from e)
  obtain⟨l,xs,e1,h1,r1⟩:=rx.tup;obtain⟨z,h2,r2⟩:=r1.Wb h;exact .inr (.inl ⟨l,xs,i,z,e1,ry.int,h1,h2,q _ H (aY.refl _) r2⟩)
 .rename_i ds i;have h:=pX (show Xc (Pu.Wb ds i)=.ok d from e)
  obtain⟨l,xs,e1,h1,r1⟩:=rx.lst;obtain⟨z,h2,r2⟩:=r1.Wb h;exact .inl ⟨l,xs,i,z,e1,ry.int,h1,h2,q _ H (aY.refl _) r2⟩
def rm(h:PE X a (tI X.K B f)):PE X (.BoolOp .And [a] pos) (tI X.K B f):=TU h
def bL1(h:PE X a (tI X.K B f)):PE X (.BoolOp .Or [a] pos) (tI X.K B f):=TU h
def Mi{rest:List Expr}(ha:PE X a (tI X.K B f))(hb:PE X (.BoolOp .And (b::rest) pos) (tI X.K B g)):PE X (.BoolOp .And (a::b::rest) pos) (tI X.K B (xO f g)):=by
 refine cL (bFn ha hb) ?_
 rintro σ H Q ⟨A,st,d,rs,hd,q⟩;obtain⟨x,hx,h2⟩:=R.ja hd;obtain⟨k,rfl,h3⟩:=vH h2;refine⟨A,st,_,rs,hx,λv H1 s1 r1=>⟨k,cX.mp r1,?_⟩⟩
 cases k with
 |true=>exact⟨A,st,d,rs.mono s1,h3,λw H' s' r'=>q w H' (s1.trans s') r'⟩
 |false=>cases h3;exact q _ H1 s1 (cX.mpr rfl)
def bMy{rest:List Expr}(ha:PE X a (tI X.K B f))(hb:PE X (.BoolOp .Or (b::rest) pos) (tI X.K B g)):PE X (.BoolOp .Or (a::b::rest) pos) (tI X.K B (Jl f g)):=by
 refine cL (bJc ha hb) ?_
 rintro σ H Q ⟨A,st,d,rs,hd,q⟩;obtain⟨x,hx,h2⟩:=R.ja hd;obtain⟨k,rfl,h3⟩:=vH h2;refine⟨A,st,_,rs,hx,λv H1 s1 r1=>⟨k,cX.mp r1,?_⟩⟩
 cases k with
 |true=>cases h3;exact q _ H1 s1 (cX.mpr rfl)
 |false=>exact⟨A,st,d,rs.mono s1,h3,λw H' s' r'=>q w H' (s1.trans s') r'⟩
def bL2(ha:PE X a (tI X.K B f)):PE X (.UnaryOp .Not a pos) (tI X.K B (zN f)):=by
 refine cL (bFo ha) ?_
 rintro σ H Q ⟨A,st,d,rs,hd,q⟩;obtain⟨x,hx,h2⟩:=R.ja hd;obtain⟨k,rfl,h3⟩:=vH h2;cases h3;exact⟨A,st,_,rs,hx,λv H1 s1 r1=>⟨k,cX.mp r1,q _ H1 s1 (cX.mpr rfl)⟩⟩
def ME(h:PT X a (tT X.K B f)):PW X (.BoolOp .And [a] pos) (tT X.K B f):=Z' h
def kF(h:PT X a (tT X.K B f)):PW X (.BoolOp .Or [a] pos) (tT X.K B f):=bFk h
def sF{rest:List Expr}(ha:PT X a (tT X.K B f))(hb:PW X (.BoolOp .And (b::rest) pos) (tT X.K B g)):PW X (.BoolOp .And (a::b::rest) pos) (tT X.K B (xO f g)):=by
 refine WV (bFl ha hb) ?_
 rintro σ H Q ⟨A,st,d,rs,hd,q⟩;obtain⟨x,hx,h2⟩:=R.ja hd;obtain⟨k,rfl,h3⟩:=vH h2;refine⟨A,st,k,rs,hx,λH1 s1=>?_⟩
 cases k with
 |true=>exact⟨A,st,d,rs.mono s1,h3,λH' s'=>q H' (s1.trans s')⟩
 |false=>cases h3;exact q H1 s1
def RF{rest:List Expr}(ha:PT X a (tT X.K B f))(hb:PW X (.BoolOp .Or (b::rest) pos) (tT X.K B g)):PW X (.BoolOp .Or (a::b::rest) pos) (tT X.K B (Jl f g)):=by
 refine WV (bJ9 ha hb) ?_
 rintro σ H Q ⟨A,st,d,rs,hd,q⟩;obtain⟨x,hx,h2⟩:=R.ja hd;obtain⟨k,rfl,h3⟩:=vH h2;refine⟨A,st,k,rs,hx,λH1 s1=>?_⟩
 cases k with
 |true=>cases h3;exact q H1 s1
 |false=>exact⟨A,st,d,rs.mono s1,h3,λH' s'=>q H' (s1.trans s')⟩
def Ni(ha:PT X a (tT X.K B f)):PT X (.UnaryOp .Not a pos) (tT X.K B (zN f)):=by
 refine JE (bFm ha) ?_
 rintro σ H Q ⟨A,st,d,rs,hd,q⟩;obtain⟨x,hx,h2⟩:=R.ja hd;obtain⟨k,rfl,h3⟩:=vH h2;cases h3;exact⟨A,st,k,rs,hx,λH1 s1=>q H1 s1⟩
def Gy{c:Expr}{t:Ex}(hc:PT X c (tT X.K B t))(ha:PE X a (tI X.K B f))(hb:PE X b (tI X.K B g)):PE X (.IfExp c a b pos) (tI X.K B (yo t f g)):=by
 refine cL (i9 hc ha hb) ?_
 rintro σ H Q ⟨A,st,d,rs,hd,q⟩;obtain⟨x,hx,h2⟩:=R.ja hd;obtain⟨k,rfl,h3⟩:=vH h2;refine⟨A,st,k,rs,hx,λH1 s1=>?_⟩
 cases k with
 |true=>exact⟨A,st,d,rs.mono s1,h3,λw H' s' r'=>q w H' (s1.trans s') r'⟩
 |false=>exact⟨A,st,d,rs.mono s1,h3,λw H' s' r'=>q w H' (s1.trans s') r'⟩
def aM:PA X [] (tA X.K B aL):=YV fL (by
 rintro σ H Q ⟨A,st,d,rs,hd,q⟩;cases hd;exact q [] H (aY.refl _) .nil)
def aC{r:zd}(ha:PE X e (tI X.K B f))(hr:PA X es (tA X.K B r))(hs:starEach (e::es) X.env=(false,eval e X.env)::starEach es X.env:=by rfl):PA X (e::es) (tA X.K B (aA f r)):=by
 refine YV (cM ha hr hs) ?_
 rintro σ H Q ⟨A,st,ds,rs,hd,q⟩;obtain⟨x,hx,h2⟩:=R.ja hd;obtain⟨xs,Nl,h3⟩:=R.ja h2;cases h3;refine⟨A,st,x,rs,hx,λv H1 s1 r1=>⟨A,st,xs,rs.mono s1,Nl,λvs H2 s2 r2=>?_⟩⟩
 exact q _ H2 (s1.trans s2) (.cons (r1.mono (aY.hide s2)) r2)
def Tj{r:zd} (h:PA X es (tA X.K B r)):PE X (.Tuple es x1 pos) (tI X.K B (zY r)):=by
 refine cL (bG6 h) ?_
 rintro σ H Q ⟨A,st,d,rs,hd,q⟩;obtain⟨xs,hx,h2⟩:=R.ja hd;obtain⟨c,h3⟩:=aJ h2;cases h3;refine⟨A,st,xs,rs,hx,λvs H1 s1 r1=>⟨by rw[r1.length];exact lim c,λp hp=>q _ _ (s1.trans (bT hp)) ?_⟩⟩
 exact CN (rs.own.mono s1) hp r1
def pI{r:zd}(h:PA X es (tA X.K B r)):PE X (.List es pos) (tI X.K B (iR r)):=by
 refine cL (Ux h) ?_
 rintro σ H Q ⟨A,st,d,rs,hd,q⟩;obtain⟨xs,hx,h2⟩:=R.ja hd;obtain⟨c,h3⟩:=aJ h2;cases h3;refine⟨A,st,xs,rs,hx,λvs H1 s1 r1=>⟨by rw[r1.length];exact lim c,λp hp=>q _ _ (s1.trans (bT hp)) ?_⟩⟩
 exact jF (rs.own.mono s1) hp r1
def Sb(K:Frag)(np:Nat)(p:List D->R D):Sp:=λvs H Q _=>∃A ds d,Own A H/\bC K (hide A H) ds vs/\ds.length=np/\p ds=.ok d/\∀v H',aY H H'->Va K (hide A H') d v->Q v H'
def bHo{k:Nat} {r:zd} (F:Ja X.prog X.w X.K X.mg X.base yb k fa fd ps (Sb X.K np p)) (hr:Kb k X.A) (hm:X.mg x=some (.ref fa))
  (hk:keepIn X.K (.ref fa)=true) (hb:Binds X.K fd ps []) (hl:∀ds d,p ds=.ok d->ds.length=np) (ha:PA X (e::es) (tA X.K B r)) (hg:Gl X x:=by rfl) (Ig:(x==("__debug__":Str))=false:=by decide)
  (he:starEach (e::es) X.env=(false,eval e X.env)::starEach es X.env:=by rfl) (hpl:(backTo pos (starEach es X.env)).any (·.1)=false:=by rfl) :
  PE X (.Call (.Name x p0) (e::es) [] pos) (tI X.K B (aK p r)):=by
 refine cL (zS F hr hg hm hk hb .nil xt ha Ig he hpl) ?_
 rintro σ H Q ⟨A,st,d,rs,hd,q⟩;obtain⟨xs,hx,h2⟩:=R.ja hd;refine⟨A,st,xs,rs,hx,λvs H1 s1 r1=>?_⟩
 show Sb X.K np p (vs++[]) H1 Q E0;rw[Di];exact⟨A++B,xs,d,rs.own.mono s1,r1,hl _ _ h2,h2,λw H' s' r'=>q w H' (s1.trans s') r'⟩
end
def Ip(a b:gb):Sd (gQ a) (gQ b)=decide (a=b):=by
 cases a with
 |inl i=>
  cases b with
  |inl j=>unfold gQ Sd;rw[PU]
  |inr y=>unfold gQ Sd;rw[RU]
 |inr x=>
  cases b with
  |inl j=>unfold gQ Sd;rw[SU]
  |inr y=>
   unfold gQ Sd;rw[QU,Vq,Bh,Ff];constructor
   .intro h;cases x;cases y;congr 1;exact ext' h
   .rintro rfl;rfl
theorem LR:∀(a b:List gb),Xn (a.map gQ) (b.map gQ)=decide (a=b)
 |[],[]=>by unfold Xn;simp
 |[],_::_=>by unfold Xn;simp
 |_::_,[]=>by unfold Xn;simp
 |x::a,y::b=>by
  have ih:=LR a b;rw[wc,wc];unfold Xn;rw[Ip,ih,Vq,Hu,Ff,Ff,Ff,List.cons.injEq]
def MR(a b:List gb):Sd (.tup (a.map gQ)) (.tup (b.map gQ))=decide (a=b):=by
 rw[<-LR]
 conv=>lhs;unfold Sd
section
variable{κ:Type}[DecidableEq κ]{E:κ->D}(hE:∀a b,Sd (E a) (E b)=decide (a=b)){K:Frag}{H:Hp}
include hE
theorem XD(k:κ):∀(ma:List (κ×V)) (ds:List D),bC K H ds (ma.map (·.2))->(∀d,uK (ma.map λp=>E p.1) ds (E k)=some d->∃v,vD ma k=some v/\Va K H d v)/\(vD ma k).isSome=oH (ma.map λp=>E p.1) (E k)
 |[],ds,r=>⟨λd h=>by cases ds<;>simp[uK]at h,rfl⟩
 |(a,v)::ma,ds,r=>by
  cases ds with
  |nil=>have:=dD.mp r;simp at this
  |cons d ds=>
   obtain⟨v',r',e,h1,h2⟩:=bN.mp r;rw[wc]at e;injection e with e1 e2
   subst e1 e2;obtain⟨i1,i2⟩:=XD k ma ds h2
   by_cases ha:a=k
   .have hk:Sd (E a) (E k)=true:=by rw[hE,Ff];exact ha
    refine⟨λd' h=>?_,?_⟩
    .unfold uK at h;rw[wc,zu,CZ (by simpa using hk)]at h
     cases h;exact⟨v,zU ha,h1⟩
    .rw[zU ha];unfold oH;rw[wc,uo,hk];rfl
   .have hk:Sd (E a) (E k)=false:=by rw[hE,VY];exact ha
    refine⟨λd' h=>?_,?_⟩
    .rw[zV ha];refine i1 d' ?_
     unfold uK at h ⊢;rw[wc,zu,DZ (by simpa using hk)]at h
     exact h
    .rw[zV ha,i2];unfold oH;rw[wc,uo,hk];rfl
def NR(k:κ)(ma:List (κ×V)):(ma.any λkv=>decide (kv.1=k))=oH (ma.map λp=>E p.1) (E k):=by
 unfold oH;rw[br];congr 1;funext p;simp[hE]
def Kx(k:κ)(v:V)(d:D)(hd:Va K H d v)(ma:List (κ×V))(ds:List D)(r:bC K H ds (ma.map (·.2))) :
  (Vb ma k v).map (λp=>E p.1)=oJ (ma.map λp=>E p.1) (E k)/\bC K H (rR (ma.map λp=>E p.1) ds (E k) d) ((Vb ma k v).map (·.2)):=by
 unfold Vb oJ rR;rw[NR hE]
 by_cases hh:oH (ma.map λp=>E p.1) (E k)=true
 .rw[Na hh,Na hh,Na hh];constructor
  .rw[ug];refine Xi λp _=>?_
   simp only[Function.comp_apply];split<;>rfl
  .clear hh
   induction ma generalizing ds with
   |nil=>have:=r.length;cases ds with|nil=>exact .nil|cons _ _=>simp at this
   |cons p ma ih=>
    obtain⟨a,w⟩:=p;cases ds with
    |nil=>have:=dD.mp r;simp at this
    |cons d0 ds=>
     obtain⟨v',r',e,h1,h2⟩:=bN.mp r;rw[wc]at e;injection e with e1 e2
     subst e1 e2;rw[wc,wc,wc,zu,wc];refine .cons ?_ (ih ds h2)
     by_cases ha:a=k
     .have hk:Sd (E a) (E k)=true:=by rw[hE,Ff];exact ha
      rw[Na hk,Na ha];exact hd
     .have hk:Sd (E a) (E k)=false:=by rw[hE,VY];exact ha
      rw[La (by rw[hk];exact Ef),La ha]
      exact h1
 .rw[La hh,La hh,La hh];refine⟨by rw[Hf];rfl,?_⟩
  rw[Hf];exact r.append (.cons hd .nil)
end
def yD{K:Frag} (r:Va K H d v) (h:Fb false d=true):∃k:gb,d=gQ k/\v=kV k:=by
 cases d<;>first|(cases h;done)|skip
 .exact⟨.inl _,rfl,bM.mp r⟩
 .exact⟨.inr _,rfl,eN.mp r⟩
theorem MM{K:Frag}{H:Hp}:∀{ds:List D}{vs:List V},bC K H ds vs->ds.all Ot=true->∃ks:List gb,ds=ks.map gQ/\vs=ks.map kV
 |[],vs,r,_=>⟨[],rfl,dD.mp r⟩
 |d::ds,vs,r,h=>by
  obtain⟨v,r',rfl,h1,h2⟩:=bN.mp r;rw[all_cons,Hu]at h;obtain⟨ks,e1,e2⟩:=MM h2 h.2;obtain⟨k,e3,e4⟩:=yD h1 (by cases d<;>first|(cases h.1;done)|rfl)
  exact⟨k::ks,by rw[e1,e3];rfl,by rw[e2,e4];rfl⟩
def DN{K:Frag} (r:Va K H d v) (h:Fb true d=true):∃(ks:List gb)(b:Addr),d=.tup (ks.map gQ)/\v=.ref b/\H b=some (.tup (ks.map kV)):=by
 cases d<;>first|(cases h;done)|skip
 rename_i xs;obtain⟨b,vs,e,hb,rs⟩:=Xr.mp r;have h':xs.all Ot=true:=by
  unfold Fb at h;simpa using h
 obtain⟨ks,e1,e2⟩:=MM rs h';exact⟨ks,b,by rw[e1],e,by rw[<-e2];exact hb⟩
def Lx{K:Frag} {t:Bool} {ks:List D} {k:D} {u:V} (rx:lG K A H (.jd t ks ds) v) (ry:Va K H k u) (hk:Fb t k=true) :
  ∃a o,v=.ref a/\zM H a u o/\o.isSome=oH ks k/\∀d,uK ks ds k=some d->∃w,o=some w/\Va K (hide A H) d w:=by
 have key:∃a vs,v=V.ref a/\((t=false/\∃ma:List (gb×V),H a=some (.dK ma)/\ma.map (λp=>gQ p.1)=ks/\vs=ma.map (·.2))\/(t=true/\∃ma:List (List gb×V),H a=some (.dT ma)/\ma.map (λp=>D.tup (p.1.map gQ))=ks/\vs=ma.map (·.2)))/\bC K (hide A H) ds vs:=by
  rcases rx with h|⟨a,kk,o,Pz,vs,e,e2,h,ko,r⟩
  .obtain⟨a,vs,e,q,r⟩:=sW.mp h;refine⟨a,vs,e,?_,r⟩;rcases q with ⟨q0,ma,q1,q2⟩|⟨q0,ma,q1,q2⟩
   .exact .inl ⟨q0,ma,bA _ _ _ _ q1,q2⟩
   .exact .inr ⟨q0,ma,bA _ _ _ _ q1,q2⟩
  .cases kk<;>cases e;refine⟨a,vs,e2,?_,r⟩;rcases ko with ⟨q0,ma,q1,q2⟩|⟨q0,ma,q1,q2⟩
   .subst q1;exact .inl ⟨q0,ma,h,q2⟩
   .subst q1;exact .inr ⟨q0,ma,h,q2⟩
 obtain⟨a,vs,e,q,r⟩:=key;rcases q with ⟨rfl,ma,q1,rfl,rfl⟩|⟨rfl,ma,q1,rfl,rfl⟩
 .obtain⟨k',e1,e2⟩:=yD ry hk;subst e1 e2;obtain⟨i1,i2⟩:=XD Ip k' ma ds r;exact⟨a,_,e,zM.k q1,i2,λd hd=>let ⟨w,h1,h2⟩:=i1 d hd;⟨w,h1,h2⟩⟩
 .obtain⟨k',b,e1,e2,e3⟩:=DN ry hk;subst e1 e2;obtain⟨i1,i2⟩:=XD MR k' ma ds r;exact⟨a,_,e,zM.t q1 e3,i2,λd hd=>let ⟨w,h1,h2⟩:=i1 d hd;⟨w,h1,h2⟩⟩
section
variable{X:Cx}{B:List Addr}{a b e:Expr}{f g:Ex}{pos:Pos}
def TX:R2:=λx y H Q=>∃p v,x=.ref p/\zM H p y (some v)/\Q v H
def ϩ(hu:X.A.units+64<cLine):Oj X TX:=by
 intro value slice aa s σ H x y v u Q I rx ry h hs;obtain⟨p,z,rfl,g,q⟩:=h;cases rx;have hT:=J5 I g;unfold subscriptTail;refine Ca ?_
 rw[getitemInPython_of_ne hT.not_modules];refine Ca (SG hT PySem.F.slot_dict_getitem.lookup ?_);have h2:wpAny (model X.prog X.w) X.A (getItem (.ref p) u) (EP X aa σ Q) X.xe s:=P7 (by omega) I g ry λw' s3 I3 Te=>⟨z,H,I3,Te,q⟩
 have fin:wpAny (model X.prog X.w) X.A (subscripted slice false (.ref p) u) (λr s3=>wpAny (model X.prog X.w) X.A (letTemporaryGo value (.ref p) r >>= λ_=>pure r) (EP X aa σ Q) X.xe s3) X.xe s:=by
  rw[hs];exact wpAny_operating (Wh h2 (λr s3 h3=>Ca (wpAny_letTemporaryGo (kb h3))) λ_ _ x=>x)
 first
  |exact kb (Ca fin)
  |exact Ca (kb (Ca fin))
  |exact Ca fin
def Ϫ{K:Frag}:zg K (λx y H Q=>WJ K x y H Q\/TX x y H Q) Ta:=by
 intro A H x y d v u Q w rx ry e q
 by_cases hx:MX x=true
 .cases x<;>first|(cases hx;done)|skip
  rename_i t ks vs;have e':aV (Fb t y=true) (Xc (uK ks vs y))=.ok d:=by cases y<;>exact e
  obtain⟨hk,e2⟩:=aJ e';have ryr:Va K H y u:=by
   rcases ry with h|⟨a,kk,o,ds,vs',e1,_⟩
   .exact h.mono (bA _ _)
   .subst e1;cases kk<;>cases t<;>cases hk
  obtain⟨a,o,e3,g,_,g2⟩:=Lx rx ryr hk;obtain⟨z,e4,rz⟩:=g2 d (pX e2);subst e4;exact .inr ⟨a,z,e3,g,q _ H (aY.refl _) rz⟩
 .exact .inl (bHm (by simpa using hx) A H x y d v u Q w rx ry e q)
def dJ(hu:X.A.units+64<cLine)(ha:PE X a (tP X.K B f))(hb:PE X b (tP X.K B g))(hs:FD b:=by intro _ _;rfl):PE X (.Subscript a b pos) (tI X.K B (e2 Ta f g)):=
 cL (QW (WU.or (ϩ hu)) ha hb hs) λ_ _ _ h=>gy Ϫ h
def q8:mL X (.builtin "len") (λxs H Q=>∃a ma,xs=[V.ref a]/\H a=some (.dK ma)/\Q (.int ma.length) H):=by
 intro aa s σ H xs us Q I r h;obtain⟨a,ma,rfl,hk,q⟩:=h;obtain⟨u,rfl,ru⟩:=r.one;obtain rfl:u=Value.ref a:=ru;exact bJy I (.inl hk) λt s' I'=>⟨.int ma.length,H,I',⟨t,rfl⟩,q⟩
def ϫ{K:Frag} {ks:List D} (rx:lG K A H (.jd false ks ds) v):∃a ma,v=.ref a/\H a=some (.dK ma)/\ma.length=ks.length:=by
 rcases rx with h|⟨a,kk,o,Pz,vs,e,e2,h,ko,r⟩
 .obtain⟨a,vs,e,q,r⟩:=sW.mp h;rcases q with ⟨_,ma,q1,rfl,_⟩|⟨q0,_⟩
  .exact⟨a,ma,e,bA _ _ _ _ q1,by simp⟩
  .cases q0
 .cases kk<;>cases e;rcases ko with ⟨_,ma,rfl,rfl,_⟩|⟨q0,_⟩
  .exact⟨a,ma,e2,h,by simp⟩
  .cases q0
end
section
variable{K:Frag} {st:ya}
def Iw{k:OK} (h:(st.set i (some (.v d)))[j]?=some (some (.o k xs))):j≠i/\st[j]?=some (some (.o k xs)):=by
 rw[ve]at h
 by_cases e:i=j
 .subst e;rw[Na rfl]at h;split at h<;>simp at h
 .rw[La e]at h;exact⟨λz=>e z.symm,h⟩
def Le.app(l:Le A H A' H'):aY (hide (A++B) H) (hide (A'++B) H'):=λb u q=>by
 have q1:=bA _ _ _ _ q;have hb:b∉A++B:=λz=>by rw[cY z]at q;cases q
 have q2:hide A H b=some u:=by rw[bK λz=>hb (Dd _ z)];exact q1
 have q3:=l b u q2;have uf:b∉A':=λz=>by rw[cY z]at q3;cases q3
 rw[bK λz=>(Ed.mp z).elim uf λz=>hb (Zc _ z)]
 exact bA _ _ _ _ q3
theorem RS.set(r:RS K B A H st σ){d:D}{v:V}(i:Nat)(h:Va K (hide (A++B) H) d v):RS K B A H (st.set i (some (.v d))) (σ.set i (some v)) where
 len:=by rw[vg,vg,r.len]
 own:=r.own
 ye:=r.ye
 val:=λj d' e=>by
  rw[ve]at e
  by_cases Nd:i=j
  .subst Nd;rw[Na rfl]at e;split at e
   .rename_i hl;simp at e;subst e;exact⟨v,by rw[ve,Na rfl,Na (by rw[<-r.len];exact hl)],h⟩
   .cases e
  .rw[La Nd]at e;obtain⟨u,e1,q⟩:=r.val j d' e;exact⟨u,by rw[ve,La Nd];exact e1,q⟩
 lst:=λj kk xs e=>by
  obtain⟨hj,e'⟩:=Iw e;obtain⟨a,o,vs,e1,m,h1,ko,q,u⟩:=r.lst j kk xs e';refine⟨a,o,vs,by rw[ve,La λz=>hj z.symm];exact e1,m,h1,ko,q,λk k' ys ek Kf=>?_⟩
  obtain⟨hk,ek'⟩:=Iw ek;rw[ve,La λz=>hk z.symm]at Kf
  exact u k k' ys ek' Kf
def Ϭ{p:Addr} (n:nT o=true) (w:Own (A++B) H):Own ((p::A)++B) (Ua H p o):=λa ha=>by
 by_cases e:a=p
 .subst e;rw[bL];exact n
 .rw[bF e];exact w a ((Nb.mp ha).resolve_left e)
def gx{p:Addr} (hp:H p=none):aY (hide (A++B) H) (hide ((p::A)++B) (Ua H p o)):=λb u q=>by
 have q1:=bA _ _ _ _ q;have hb:b∉A++B:=λz=>by rw[cY z]at q;cases q
 have ne:b≠p:=bB q1 hp;rw[bK (show b∉(p::A)++B from λz=>(Nb.mp z).elim ne hb),bF ne]
 exact q1
def Yp{p:Addr} (hp:H p=none):Le A H (p::A) (Ua H p o):=λb u q=>by
 have q1:=bA _ _ _ _ q;have hb:b∉A:=λz=>by rw[cY z]at q;cases q
 have ne:b≠p:=bB q1 hp;rw[bK λz=>(Nb.mp z).elim ne hb,bF ne]
 exact q1
def RS.Cj(r:RS K B A H st σ){p:Addr}{kk:OK} (i:Nat) (hp:H p=none) (ko:om K kk p o vs) (h:bC K (hide (A++B) H) ds vs) :
  RS K B (p::A) (Ua H p o) (st.set i (some (.o kk ds))) (σ.set i (some (.ref p))) where
 len:=by rw[vg,vg,r.len]
 own:=Ϭ ko.nt r.own
 ye:=λa ha hb=>by
  rcases Nb.mp ha with rfl|ha
  .exact r.own.free hp (Zc _ hb)
  .exact r.ye a ha hb
 val:=λj d' e=>by
  rw[ve]at e
  by_cases Nd:i=j
  .subst Nd;rw[Na rfl]at e;split at e<;>simp at e
  .rw[La Nd]at e;obtain⟨u,e1,q⟩:=r.val j d' e;exact⟨u,by rw[ve,La Nd];exact e1,q.mono (gx hp)⟩
 lst:=λj k0 xs e=>by
  rw[ve]at e
  by_cases Nd:i=j
  .subst Nd;rw[Na rfl]at e;split at e
   .rename_i hl;simp at e;obtain⟨e0,e⟩:=e;subst e0 e;refine⟨p,o,vs,by rw[ve,Na rfl,Na (by rw[<-r.len];exact hl)],xb,bL,ko,h.mono (gx hp),λk k' ys ek Kf=>?_⟩
    by_cases hk:i=k
    .exact hk.symm
    .rw[ve,La hk]at ek Kf;obtain⟨a,o',vs',e1,m,h1,_⟩:=r.lst k k' ys ek;rw[e1]at Kf;cases Kf;rw[hp]at h1;cases h1
   .cases e
  .rw[La Nd]at e;obtain⟨a,o',vs',e1,m,h1,tJ,q,u⟩:=r.lst j k0 xs e;have ne:a≠p:=bB h1 hp;refine⟨a,o',vs',by rw[ve,La Nd];exact e1,Bb _ m,by rw[bF ne];exact h1,tJ,q.mono (gx hp),λk k' ys ek Kf=>?_⟩
   by_cases hk:i=k
   .subst hk;rw[ve,Na rfl]at Kf;split at Kf
    .simp at Kf;exact absurd Kf.symm ne
    .cases Kf
   .rw[ve,La hk]at ek Kf;exact u k k' ys ek Kf
def RS.write(r:RS K B A H st σ) {k0 k1:OK} {o':HO} {vs':List V} (hi:st[i]?=some (some (.o k0 xs))) (hs:σ[i]?=some (some (.ref a))) (ko:om K k1 a o' vs') (h:bC K (hide (A++B) H) ds vs') :
  RS K B A (Ua H a o') (st.set i (some (.o k1 ds))) σ/\Le A H A (Ua H a o'):=by
 obtain⟨a',o,vs,e1,m,h1,_,q,u⟩:=r.lst i k0 xs hi;rw[hs]at e1;cases e1;have hh:hide (A++B) (Ua H a o')=hide (A++B) H:=oV (Dd _ m);refine⟨⟨by rw[vg,r.len],λb hb=>?_,r.ye,λj d e=>?_,λj kj ys e=>?_⟩,?_⟩
 .by_cases e:b=a
  .subst e;rw[bL];exact ko.nt
  .rw[bF e];exact r.own b hb
 .rw[hh];rw[ve]at e
  by_cases Nd:i=j
  .subst Nd;rw[Na rfl]at e;split at e<;>simp at e
  .rw[La Nd]at e;exact r.val j d e
 .rw[hh];have ne:∀{k:Nat}{kz:OK}{zs:List D},(st.set i (some (.o k1 ds)))[k]?=some (some (.o kz zs))->∃kw ws,st[k]?=some (some (.o kw ws)):=λ{k kz zs} ek=>by
   rw[ve]at ek
   by_cases hk:i=k
   .subst hk;exact⟨_,_,hi⟩
   .rw[La hk]at ek;exact⟨_,_,ek⟩
  rw[ve]at e
  by_cases Nd:i=j
  .subst Nd;rw[Na rfl]at e;split at e
   .simp at e;obtain⟨e0,e⟩:=e;subst e0 e;exact⟨a,o',vs',hs,m,bL,ko,h,λk kz zs ek Kf=>let ⟨kw,ws,ew⟩:=ne ek;u k kw ws ew Kf⟩
   .cases e
  .rw[La Nd]at e;obtain⟨c,oc,ws,c1,cm,ch,kc,cq,cu⟩:=r.lst j kj ys e;have TH:c≠a:=λz=>by subst z;exact Nd (u j kj ys e c1).symm
   exact⟨c,oc,ws,c1,cm,by rw[bF TH];exact ch,kc,cq,λk kz zs ek Kf=>let ⟨kw,ws,ew⟩:=ne ek;cu k kw ws ew Kf⟩
 .unfold Le;rw[oV m];exact aY.refl _
theorem RS.Qm(r:RS K B A H st σ)(i:Nat):∃A',RS K B A' H (Pu.Qm st i) σ/\Le A H A' H:=by
 unfold Pu.Qm;split
 .rename_i kk xs e;obtain⟨a,o,vs,e1,m,h1,ko,q,u⟩:=r.lst i kk xs e;have Rb:∀b∈A.filter (λc=>decide (c≠a)),b∈A:=λb hb=>(je.mp hb).1
  have Ym:∀b∈A.filter (λc=>decide (c≠a))++B,b∈A++B:=λb hb=>(Ed.mp hb).elim (λz=>Dd _ (Rb b z)) (Zc _)
  have sm:aY (hide (A++B) H) (hide (A.filter (λc=>decide (c≠a))++B) H):=fW Ym
  have FI:a∉A.filter (λc=>decide (c≠a))++B:=λz=>(Ed.mp z).elim (λz=>Zj (je.mp z).2 rfl) (r.ye a m)
  refine⟨A.filter λc=>decide (c≠a),⟨by rw[vg,r.len],λb hb=>r.own b (Ym b hb),λb hb=>r.ye b (Rb b hb),λj d ej=>?_,λj kj ys ej=>?_⟩,fW Rb⟩
  .rw[ve]at ej
   by_cases Nd:i=j
   .subst Nd;rw[Na rfl]at ej;split at ej
    .simp at ej;subst ej;exact⟨_,e1,ko.rep (by rw[bK FI];exact h1) (q.mono sm)⟩
    .cases ej
   .rw[La Nd]at ej;obtain⟨v,e2,q2⟩:=r.val j d ej;exact⟨v,e2,q2.mono sm⟩
  .obtain⟨hj,j0⟩:=Iw ej;obtain⟨c,oc,ws,c1,cm,ch,kc,cq,cu⟩:=r.lst j kj ys j0;have TH:c≠a:=λz=>by subst z;exact hj (u j kj ys j0 c1)
   exact⟨c,oc,ws,c1,je.mpr ⟨cm,Ld TH⟩,ch,kc,cq.mono sm,λk kz zs ek Kf=>cu k kz zs (Iw ek).2 Kf⟩
 .exact⟨A,r,Le.refl⟩
def RS.fz(is:List Nat):∀{A:List Addr}{st:ya},RS K B A H st σ->∃A',RS K B A' H (is.foldl Pu.Qm st) σ/\Le A H A' H:=by
 induction is with
 |nil=>exact λr=>⟨_,r,Le.refl⟩
 |cons i is ih=>
  intro A st r;obtain⟨A1,r1,l1⟩:=r.Qm i;obtain⟨A2,r2,l2⟩:=ih r1;exact⟨A2,r2,l1.trans l2⟩
end
section
variable{X:Cx}{B:List Addr}{a b e:Expr}{f g:Ex}{pos:Pos}{bd ck:Bd}{sm:Stmt}{rest:List Stmt}
def jG:Dc X [] (tS X.K B eQ):=xZ γ (by
 rintro Dn σ H ⟨A,st,r,rs,hr,p⟩;cases hr;exact p A σ H Le.refl rs)
def aQ(h1:PS X sm (tS X.K B bd))(h2:Dc X rest (tS X.K B ck)):Dc X (sm::rest) (tS X.K B (bG bd ck)):=by
 refine xZ (zT h1 h2) ?_
 rintro Dn σ H ⟨A,st,r,rs,hr,p⟩;obtain⟨x,hx,h3⟩:=R.ja hr;refine⟨A,st,x,rs,hx,?_⟩;cases x with
 |nx s1=>exact λA' jb H' l Of=>⟨A',s1,r,Of,h3,p.mono l⟩
 |rt d=>cases h3;exact p
 |bk s1=>cases h3;exact p
 |ct s1=>cases h3;exact p
def aZ(h1:PS X sm (tS X.K B bd)):Dc X [sm] (tS X.K B bd):=wx h1
def Vk(is:List Nat)(h:PS X sm (tS X.K B bd)):PS X sm (tS X.K B (Yg is bd)):=iY h (by
 rintro Dn σ H ⟨A,st,r,rs,hr,p⟩;obtain⟨A',Of,l⟩:=RS.fz is rs;exact⟨A',_,r,Of,hr,p.mono l⟩)
def cF(h:PE X e (tI X.K B f)):PS X (.Return (some e) pos) (tS X.K B (cZ f)):=iY (mE h) (by
 rintro Dn σ H ⟨A,st,r,rs,hr,p⟩;obtain⟨d,hd,h3⟩:=R.ja hr;cases h3;exact⟨A,st,d,rs,hd,λv H' s q=>p A v H' (Le.of s) q⟩)
def bL4(h:PE X e (tI X.K B f))(hs:swapsWith e none pos.line X.env=pure false:=by rfl):PS X (.Expr e pos) (tS X.K B (Ry f)):=iY (Dp h hs) (by
 rintro Dn σ H ⟨A,st,r,rs,hr,p⟩;obtain⟨d,hd,h3⟩:=R.ja hr;cases h3;exact⟨A,st,d,rs,hd,λv H' s q=>p A σ H' (Le.of s) (rs.mono s)⟩)
def cN(i:Nat) (he:PE X e (tI X.K B f)) (hN:X.N.Nodup) (hi:X.N[i]?=some x:=by rfl) (hx:Loc X.env.scope x:=by first|exact Or.inl rfl|exact Or.inr rfl) (hs:swapsWith e (some (.Name x pos')) pos.line X.env=pure false:=by rfl)
  (hf:X.fn x=true\/X.env.scope.names.lookup x=some .local:=by first|exact .inl rfl|exact .inr rfl|assumption):PS X (.Assign [.Name x pos'] e pos) (tS X.K B (dH i f)):=iY (Gn hN hi hx he hs hf) (by
 rintro Dn σ H ⟨A,st,r,rs,hr,p⟩;obtain⟨d,hd,h3⟩:=R.ja hr;cases h3;exact⟨A,st,d,rs,hd,λv H' s q=>p A _ H' (Le.of s) ((rs.mono s).set i q)⟩)
def tF(K:Frag)(B:List Addr)(f:Ex):TE:=λσ H Q=>∃A st ds,RS K B A H st σ/\f st=.ok (.lst ds)/\∀p vs H',aY H H'->H' p=none->bC K (hide (A++B) H') ds vs->Q (.ref p) (Ua H' p (.lst vs))
def xm{r:zd}(h:PA X es (tA X.K B r)):PE X (.List es pos) (tF X.K B (iR r)):=by
 refine cL (Ux h) ?_
 rintro σ H Q ⟨A,st,d,rs,hd,q⟩;obtain⟨xs,hx,h2⟩:=R.ja hd;obtain⟨c,h3⟩:=aJ h2;cases h3;exact⟨A,st,_,rs,hx,λvs H1 s1 r1=>⟨by rw[r1.length];exact lim c,λp hp=>q p vs H1 s1 hp r1⟩⟩
def vP(i:Nat) (he:PE X e (tF X.K B f)) (hN:X.N.Nodup) (hi:X.N[i]?=some x:=by rfl) (hx:Loc X.env.scope x:=by first|exact Or.inl rfl|exact Or.inr rfl) (hs:swapsWith e (some (.Name x pos')) pos.line X.env=pure false:=by rfl)
  (hf:X.fn x=true\/X.env.scope.names.lookup x=some .local:=by first|exact .inl rfl|exact .inr rfl|assumption):PS X (.Assign [.Name x pos'] e pos) (tS X.K B (qW i f)):=iY (Gn hN hi hx he hs hf) (by
 rintro Dn σ H ⟨A,st,r,rs,hr,p⟩;obtain⟨d,hd,h3⟩:=R.ja hr;cases d<;>first|(cases h3;done)|skip
 cases h3;exact⟨A,st,_,rs,hd,λa vs H' s hn q=>p (a::A) _ _ ((Le.of s).trans (Yp hn)) ((rs.mono s).Cj (kk:=.l) i hn rfl q)⟩)
def pG{c:Expr}{t:Ex}{x y:List Stmt}(hc:PT X c (tT X.K B t))(ha:Dc X x (tS X.K B bd))(hb:Dc X y (tS X.K B ck)):PS X (.If c x y pos) (tS X.K B (gd t bd ck)):=iY (bJf hc ha hb) (by
 rintro Dn σ H ⟨A,st,r,rs,hr,p⟩;obtain⟨d,hd,h3⟩:=R.ja hr;obtain⟨k,rfl,h4⟩:=vH h3;refine⟨A,st,k,rs,hd,λH1 s1=>?_⟩
 cases k with
 |true=>exact⟨A,st,r,rs.mono s1,h4,p.mono (Le.of s1)⟩
 |false=>exact⟨A,st,r,rs.mono s1,h4,p.mono (Le.of s1)⟩)
def cV(i:Nat) (hN:X.N.Nodup) (hi:X.N[i]?=some x:=by rfl) (hx:Loc X.env.scope x:=by first|exact Or.inl rfl|exact Or.inr rfl)
  (hf:X.fn x=true\/X.env.scope.names.lookup x=some .local:=by first|exact .inl rfl|exact .inr rfl|assumption):PG X (.Name x pos) (tG X.K B (ib i)):=AW (xS hN hi hx hf) (by
 rintro v σ H Q ⟨A,st,d,s1,rs,hr,hg,q⟩;cases hg;exact q _ (rs.set i hr))
def GA(K:Frag)(B:List Addr)(is:List Nat):Li:=λvs σ H Q=>∃A st ds s1,RS K B A H st σ/\bC K (hide (A++B) H) ds vs/\Ts is ds st=.ok s1/\∀jb,RS K B A H s1 jb->Q jb H
def YT{t t':Li}(h:Ki X es t)(m:∀v σ H Q,t' v σ H Q->t v σ H Q):Ki X es t':=λaa s σ H v u Q I r q=>h aa s σ H v u Q I r (m v σ H Q q)
def jy:Ki X [] (GA X.K B []):=YT δ (by
 rintro v σ H Q ⟨A,st,ds,s1,rs,hr,hg,q⟩;cases ds with
 |nil=>cases hg;exact⟨dD.mp hr,q σ rs⟩
 |cons _ _=>exact nomatch hg)
def uW(i:Nat){is:List Nat} (h2:Ki X es (GA X.K B is)) (hN:X.N.Nodup) (hi:X.N[i]?=some x:=by rfl) (hx:Loc X.env.scope x:=by first|exact Or.inl rfl|exact Or.inr rfl)
  (hf:X.fn x=true\/X.env.scope.names.lookup x=some .local:=by first|exact .inl rfl|exact .inr rfl|assumption)
  (hs:(assignEach (.Name x pos::es) X.env).map (·.2)=assign (.Name x pos) X.env::(assignEach es X.env).map (·.2):=by rfl):Ki X (.Name x pos::es) (GA X.K B (i::is)):=YT (j9 (cV i (pos:=pos) hN hi hx hf) h2 hs) (by
 rintro v σ H Q ⟨A,st,ds,s1,rs,hr,hg,q⟩;cases ds with
 |nil=>exact nomatch hg
 |cons d ds=>
  obtain⟨u,r,e,r1,r2⟩:=bN.mp hr;exact⟨u,r,e,A,st,d,st.set i (some (.v d)),rs,r1,rfl,λjb Of=>⟨A,_,ds,s1,Of,r2,hg,q⟩⟩)
def EO{l it:Addr} (hl:h.IsList l items) (s:Heap.SameBut it h h') (Ee:l≠it):h'.IsList l items:=by
 obtain⟨o,e,r⟩:=hl;exact⟨o,(s.2 l Ee).trans e,r⟩
theorem kQ{M:Program}{w:World}{A:Around}{E:Value->Shared->Prop}{it t:Addr}{items:Array Value}(Ee:t≠it):∀(n i:Nat)(s:Shared)(Q:List Value->Shared->Prop),s.heap.IsListIter it t i->s.heap.IsList t items->i+n<=items.size->
  (∀h',h'.IsListIter it t (i+n)->Heap.SameBut it s.heap h'->Q ((items.toList.drop i).take n) {s with heap:=h'})->wpAny (model M w) A (draw (.ref it) n) Q E s
 |0,i,s,Q,hit,_,_,hQ=>by
  show wpAny _ _ (pure []) Q E s;exact kb (by simpa using hQ s.heap hit (Heap.SameBut.refl ..))
 |n+1,i,s,Q,hit,ht,hle,hQ=>by
  have Qb:i<items.size:=by omega
  show wpAny _ _ (pyNext (.ref it) >>= _) Q E s;refine Ca (wpAny_pyNext_list_item hit ht (x:=items[i]) (by simp[Qb]) λh1 lj dg=>?_)
  refine Ca (Ah (kQ Ee n (i+1) _ _ lj (EO ht dg Ee) (by omega) λh2 Mo Ud=>kb ?_))
  have hd:items.toList.drop i=items[i] :: items.toList.drop (i+1):=by simp[drop_eq_getElem_cons,Qb]
  have:=hQ h2 (by rw[show i+(n+1)=i+1+n by omega];exact Mo) (dg.trans Ud)
  rw[hd,List.take_succ_cons]at this;exact this
def Y3{M:Program} {A:Around} {s:Shared} {pos:Pos} {t:Addr} {Q:Unit->Shared->Prop} (hh:A.handled=none) (ht:s.heap.IsList t items)
  (hn:(assignEach ai env).length=items.size) (Hv:(assignEach ai env).findIdx? (·.1)=none)
  (h:∀h',Heap.ExtBut s.heap.objs.size s.heap h'->wpAny (model M w) A (assignInOrder ((assignEach ai env).map (·.2)) items.toList) Q E {s with heap:=h'}) :
  wpAny (model M w) A (assign (.Tuple ai x1 pos) env (.ref t)) Q E s:=by
 have Qb:t≠s.heap.objs.size:=by obtain⟨o,ho,_⟩:=ht;exact Hd (dc ho)
 rw[assign_Tuple];refine Ca (Gm ?_);unfold unpack;rw[hn,Hv];refine Ca (Ah ?_);unfold unpackItems;refine Ca ?_
 unfold notIterableAtAll;refine Ca (SG ht.typeIs PySem.F.slot_list_iter.lookup ?_);refine kb ?_
 simp only[Bool.false_eq_true,if_false];refine Ca (Ah (Az ht ?_));have U0:(s.heap.push {cls:=.type "list_iterator",data:=.fields #[.ref t,rawInt 0]}).IsList t items:=by
  obtain⟨o,ho,r⟩:=ht;exact⟨o,Tb _ ho,r⟩
 refine Ca (Ah (kQ Qb items.size 0 _ _ ⟨_,Pd _ rfl,rfl,rfl⟩ U0 (by omega) λh1 lj dg=>?_))
 have ij:List.take items.size (List.drop 0 items.toList)=items.toList:=by
  rw[drop_zero];exact Oq (by simp)
 rw[ij];rw[La (by simp)]
 refine Ca (Ah (wpAny_pyNext_list_end hh lj (EO U0 dg Qb) (by simp) λh2 he2=>?_))
 simp only[Option.isSome_none,Bool.false_eq_true,if_false];refine kb (h h2 λb o hb e=>he2 b o hb (dg.extBut b o hb (Tb _ e)))
def bMz(K:Frag)(n:Nat)(t:Li):TG:=λv σ H Q=>∃a xs,v=.ref a/\(af K H a xs\/jc K H a xs)/\xs.length=n/\t xs σ H Q
def bHp{k:Nat}{t:Li} (hc:X.calm=true) (h:Ki X es t)
  (hn:(assignEach es X.env).length=n:=by rfl) (wg:(assignEach es X.env).findIdx? (·.1)=none:=by rfl):PG X (.Tuple es k pos) (bMz X.K n t):=by
 intro aa s σ H v u Q I r hw;obtain⟨a,xs,e1,hq,hl,hw⟩:=hw;rcases hq with hq|hq
 .exact bFr hc h hn wg aa s σ H v u Q I r ⟨a,xs,e1,hq,hl,hw⟩
 .subst e1;cases r;obtain⟨Ga,rv,ht,hz⟩:=I.list hq;refine Y3 (I.ok.hd hc) ht.isList (by simp[hn,<-hl,rv.length]) wg λh' hx=>?_
  have I1:xa X aa σ H {s with heap:=h'}:=I.kept (t':=s.toks) λb o e=>hx b o (Hd (dc e)) e
  exact h aa _ σ H xs _ Q I1 (by simpa using rv) hw
def FO:∀(is:List Nat)(ds:List D)(st:ya),Ts is ds st=.ok s1->ds.length=is.length:=by
 intro is
 induction is with
 |nil=>intro ds st h;cases ds with|nil=>rfl|cons _ _=>exact nomatch h
 |cons i is ih=>intro ds st h;cases ds with|nil=>exact nomatch h|cons _ ds=>exact congrArg (· + 1) (ih ds _ h)
def Hy{is:List Nat} {k:Nat} (hc:X.calm=true) (h:Ki X es (GA X.K B is)) (hn:(assignEach es X.env).length=is.length:=by rfl) (wg:(assignEach es X.env).findIdx? (·.1)=none:=by rfl):PG X (.Tuple es k pos) (tG X.K B (Nr is)):=AW (bHp hc h hn wg) (by
 rintro v σ H Q ⟨A,st,d,s1,rs,hr,hg,q⟩;cases d<;>first|(cases hg;done)|skip
 .rename_i ds;obtain⟨a,vs,e,h1,h2⟩:=iI hr;exact⟨a,vs,e,.inl (Wr (bA _ _) h1),by rw[h2.length];exact FO is ds st hg,A,st,ds,s1,rs,h2,hg,q⟩
 .rename_i ds;obtain⟨a,vs,e,h1,h2⟩:=gK.mp hr;exact⟨a,vs,e,.inr ((bA _ _).seq h1),by rw[h2.length];exact FO is ds st hg,A,st,ds,s1,rs,h2,hg,q⟩)
def FF{t:Tg}(he:PE X e (tI X.K B f))(hg:PG X tg (tG X.K B t))(hs:swapsWithSole [tg] e pos.line X.env=pure false:=by rfl)(hw:swappedStores [tg] e X.env=pure none:=by rfl)
  (h1:(assignEach [tg] X.env).map (·.2)=[assign tg X.env]:=by rfl):PS X (.Assign [tg] e pos) (tS X.K B (Py t f)):=iY (Qs he hg hs hw h1) (by
 rintro Dn σ H ⟨A,st,r,rs,hr,p⟩;obtain⟨d,hd,h3⟩:=R.ja hr;obtain⟨s1,dg,h4⟩:=R.ja h3;cases h4;exact⟨A,st,d,rs,hd,λv H' s q=>⟨A,st,d,s1,rs.mono s,q,dg,λjb Of=>p A jb H' (Le.of s) Of⟩⟩)
def sH{iter:Expr} {t:Tg} (hi:L2.PI X tg iter (Oh X.K B it)) (hg:PG X tg (tG X.K B t)) (hb:Dc X body (tS X.K B bd)) (hp:PassesOwn (model X.prog X.w) X.A X.env X.xe) (hc:X.calm=true)
  (hs:∀x,foldedSetIterable iter X.env x=pure x:=by intro _;rfl):PS X (.For tg iter body [] pos) (tS X.K B (xP t it bd)):=iY (UU hp hc hi hg hb hs) (by
 rintro Dn σ H ⟨A,st,r,rs,hr,p⟩;obtain⟨ds,hd,h3⟩:=R.ja hr;refine⟨A,st,ds,rs,hd,λJ H1 s1 Yo=>?_⟩
 refine⟨λi m jb H'=>∃A' st',m=ds.length-i/\i<=ds.length/\RS X.K B A' H' st' jb/\Lb t bd (ds.drop i) st'=.ok r/\Le A H1 A' H',⟨ds.length,A,st,by simp,zero_le _,rs.mono s1,by rw[drop_zero];exact h3,Le.refl⟩,?_⟩
 rintro i m jb H' ⟨A',st',rfl,hle,Of,hf,l⟩;obtain⟨i1,i2⟩:=Yo A' H' l Of.own i
 by_cases Qb:i<ds.length
 .have fi:ds[i]?=some ds[i]:=Pc Qb;obtain⟨go,yl⟩:=i1 _ fi;rw[ju Qb]at hf;obtain⟨s2,Ud,h5⟩:=R.ja hf;obtain⟨fl,Tc,h6⟩:=R.ja h5;refine .inr ⟨go,λzk H2=>∃A2 fe,i+1<=ds.length/\RS X.K B A2 H2 fe zk/\Lb t bd (ds.drop (i+1)) fe=.ok r/\Le A H1 A2 H2,?_,λx H2 y=>?_⟩
  .rintro zk H2 ⟨A2,fe,Oo,ni,Ko,l2⟩;exact⟨ds.length-(i+1),by omega,A2,fe,rfl,Oo,ni,Ko,l2⟩
  .obtain⟨sm,rx⟩:=yl x H2 y;have l5:Le A H1 A' H2:=l.trans (Le.of sm);refine⟨A',st',ds[i],s2,Of.mono sm,rx,Ud,λIi Wl=>⟨A',s2,fl,Wl,Tc,?_⟩⟩
   cases fl with
   |nx s4=>exact λA4 QA H4 l4 yp=>⟨A4,s4,Qb,yp,h6,l5.trans l4⟩
   |ct s4=>exact λA4 QA H4 l4 yp=>⟨A4,s4,Qb,yp,h6,l5.trans l4⟩
   |bk s4=>cases h6;exact p.mono ((Le.of s1).trans l5)
   |rt d=>cases h6;exact p.mono ((Le.of s1).trans l5)
 .have e:i=ds.length:=by omega
  subst e;rw[Mz]at hf;cases hf;exact .inl ⟨i2 (Cb _),p A' jb H' ((Le.of s1).trans l) Of⟩)
def Ks(n:Nat){c:Expr}{t:Ex} (hc:PT X c (tT X.K B t)) (hb:Dc X body (tS X.K B bd)) (hp:PassesOwn (model X.prog X.w) X.A X.env X.xe):PS X (.While c body [] pos) (tS X.K B (Kn n t bd)):=iY (n9 hp hc hb) (by
 rintro Dn σ H ⟨A,st,r,rs,hr,p⟩;refine⟨λm jb H'=>∃A' st',RS X.K B A' H' st' jb/\jU t bd m st'=.ok r/\Le A H A' H',⟨n,A,st,rs,hr,Le.refl⟩,?_⟩
 rintro m jb H' ⟨A',st',Of,hw,l⟩;cases m with
 |zero=>exact nomatch hw
 |succ m=>
  obtain⟨d,hd,h3⟩:=R.ja hw;obtain⟨k,rfl,h4⟩:=vH h3;refine⟨A',st',k,Of,hd,λH1 s1=>?_⟩
  cases k with
  |false=>
   cases h4;exact p A' jb H1 (l.trans (Le.of s1)) (Of.mono s1)
  |true=>
   obtain⟨fl,Tc,h6⟩:=R.ja h4;refine⟨λzk H2=>∃A2 fe,RS X.K B A2 H2 fe zk/\jU t bd m fe=.ok r/\Le A H A2 H2,?_,A',st',fl,Of.mono s1,Tc,?_⟩
   .rintro zk H2 ⟨A2,fe,ni,Ko,l2⟩;exact⟨m,Sq m,A2,fe,ni,Ko,l2⟩
   .cases fl with
    |nx s4=>exact λA4 QA H4 l4 yp=>⟨A4,s4,yp,h6,l.trans ((Le.of s1).trans l4)⟩
    |ct s4=>exact λA4 QA H4 l4 yp=>⟨A4,s4,yp,h6,l.trans ((Le.of s1).trans l4)⟩
    |bk s4=>cases h6;exact p.mono (l.trans (Le.of s1))
    |rt d=>cases h6;exact p.mono (l.trans (Le.of s1)))
def bHq{K:Frag} {l:Addr} (hq:jc K (hide (A++B) H) l vs) (r:bC K (hide (A++B) H) ds vs):Bq K B A H (SA K l) ds:=by
 intro A' H' le own i;have sd:jc K H' l vs:=(bA _ _).seq ((Le.app le).seq hq);refine⟨λd hd=>?_,λhl=>⟨vs,sd,by rw[r.length];exact hl⟩⟩
 obtain⟨v,hv,rv⟩:=r.get hd;refine⟨⟨vs,v,sd,hv⟩,λx H3 y=>⟨by rw[y.1];exact aY.refl _,?_⟩⟩
 have hx:=y.2 vs sd;rw[y.1];rw[hv]at hx;cases hx;exact rv.mono (Le.app le)
def bHr{K:Frag} {l:Addr} (hq:af K (hide (A++B) H) l vs) (r:bC K (hide (A++B) H) ds vs):Bq K B A H (UA K l) ds:=by
 intro A' H' le own i;have sd:af K H' l vs:=Wr (bA _ _) (Wr (Le.app le) hq);refine⟨λd hd=>?_,λhl=>⟨vs,sd,by rw[r.length];exact hl⟩⟩
 obtain⟨v,hv,rv⟩:=r.get hd;refine⟨⟨vs,v,sd,hv⟩,λx H3 y=>⟨by rw[y.1];exact aY.refl _,?_⟩⟩
 have hx:=y.2 vs sd;rw[y.1];rw[hv]at hx;cases hx;exact rv.mono (Le.app le)
def bHs{K:Frag} {lo:Int}:Bq K B A H (Cw lo n) (iC lo n):=by
 intro A' H' le own i;have hl:(iC lo n).length=n:=by simp[iC]
 refine⟨λd hd=>?_,λh=>by rw[hl]at h;exact h⟩
 have hi:i<n:=by
  have:=(Kd.mp hd).1;rw[hl]at this;exact this
 have e:d=.int (lo+(i:Int)):=by
  unfold iC at hd;rw[Vg,uz hi]at hd;exact(Zi hd).symm
 subst e;exact⟨hi,λx H3 y=>⟨by rw[y.1];exact aY.refl _,bM.mpr y.2⟩⟩
def Dw(z:List Nat):It:=⟨λi _=>i<z.length,λi H x H'=>H'=H/\∃c,z[i]?=some c/\x=.str ⟨#[c]⟩,λi _=>z.length<=i⟩
def z_{K:Frag} {it:Addr} {n:String} {t:Tok} (hn:n="str_ascii_iterator"\/n="str_iterator"):Turn P w K tg (Dw z) [it] it (λi h=>h.IsStrIter it n ⟨z.toArray⟩ t i) where
 mem:=by simp
 obj:=λi h st b hb=>by
  have e:b=it:=by simpa using hb
  subst e;obtain⟨o,e,c,d⟩:=st;exact⟨o,e,λv z=>by rw[d]at z;cases z⟩
 keep:=λi h h' st k=>let ⟨o,e,r⟩:=st;⟨o,k it (by simp) o e,r⟩
 item:=by
  intro X hP hw hK hc i aa s σ H E I hf st hg;subst hP hw hK;obtain⟨f0,f1,f2,f3,f4,f5⟩:=hf it (by simp)
  have fin:∀v h' tk,SignAt ⟨z.toArray⟩ i v->Heap.IsStrIter h' it n ⟨z.toArray⟩ t (i+1)->(∀b o,b∉[it]->s.heap.get? b=some o->h'.get? b=some o)->
    ∃u,some v=some u/\wpAny (model X.prog X.w) X.A (letOwnedTupleGo tg (.ref it) u) (λ_ s2=>∃x H',xa X aa σ H' s2/\RelV x u/\(Dw z).Qr i H x H'/\Heap.IsStrIter s2.heap it n ⟨z.toArray⟩ t (i+1)/\∀b∈[it],H' b=none) E {s with heap:=h',toks:=tk}:=by
   intro v h' tk hv st' kk;obtain⟨c,u,hcu,rfl⟩:=hv;have I1:xa X aa σ H {s with heap:=h',toks:=tk}:=I.turned (λb o hb e=>kk b o (by simpa using hb) e) f0 f1 f3 f4 f5
   obtain⟨o,e,c',d⟩:=id st';refine⟨_,rfl,uy (s:={s with heap:=h',toks:=tk}) e c' d (by rcases hn with rfl|rfl<;>decide) ⟨.str ⟨#[c]⟩,H,I1,⟨u,rfl⟩,⟨rfl,c,?_,rfl⟩,st',λb hb=>(hf b hb).1⟩⟩
   simpa using hcu
  have cg:i<z.length:=hg;have gh:i<(⟨z.toArray⟩:Str).cps.size:=by simpa using cg
  rcases hn with rfl|rfl
  .exact(Walks.strAscii (prog:=X.prog) (w:=X.w) (I.ok.hd hc) it ⟨z.toArray⟩ t).item i s _ _ gh st λv h' tk hv st' kk=>fin v h' tk hv st' kk
  .exact(Walks.strWide (prog:=X.prog) (w:=X.w) (I.ok.hd hc) it ⟨z.toArray⟩ t).item i s _ _ gh st λv h' tk hv st' kk=>fin v h' tk hv st' kk
 done:=by
  intro X hP hw hK hc i aa s σ H E I hf st hg;subst hP hw hK;obtain⟨f0,f1,f2,f3,f4,f5⟩:=hf it (by simp)
  have cg:z.length<=i:=hg;rcases hn with rfl|rfl
  .exact wpAny_pyNext_ascii_end (I.ok.hd hc) st (by simpa using cg) λh' eb=>⟨rfl,I.turned (t':=s.toks) (λb o hb e=>eb b o hb e) f0 f1 f3 f4 f5⟩
  .exact wpAny_pyNext_wide_end (I.ok.hd hc) st (by simpa using cg) λh' eb=>⟨rfl,I.turned (t':=s.toks) (λb o hb e=>eb b o hb e) f0 f1 f3 f4 f5⟩
 self:=λ_ _ _ _ _ st h=>by
  rcases hn with rfl|rfl
  .exact wpAny_pyIter_striter_ascii st h
  .exact wpAny_pyIter_striter_wide st h
def bHt{K:Frag}:Bq K B A H (Dw z) (z.map λc=>.str [c]):=by
 intro A' H' le own i;refine⟨λd hd=>?_,λh=>(by simpa using h:z.length<=i)⟩
 rw[Vg]at hd;cases hz:z[i]? with
 |none=>rw[hz]at hd;cases hd
 |some c=>
  rw[hz]at hd;cases hd;refine⟨(Kd.mp hz).1,λx H3 y=>⟨by rw[y.1];exact aY.refl _,?_⟩⟩
  obtain⟨c',Gg,rfl⟩:=y.2;rw[hz]at Gg;cases Gg;exact eN.mpr rfl
def bN0(K:Frag)(tl:TE):TI:=λσ H R=>tl σ H λx H1=>(∃a,x=.ref a/\(((∃xs,jc K H1 a xs)/\R (SA K a) H1)\/((∃xs,af K H1 a xs)/\R (UA K a) H1)))\/∃z:List Nat,x=.str ⟨z.toArray⟩/\R (Dw z) H1
def bHu{l:Expr}{tl:TE}(hl:PE X l tl):L2.PI X tg l (bN0 X.K tl):=by
 intro aa s σ H R I h;refine Ib (hl aa s σ H _ I h) λv s1 ⟨x,H1,I1,r1,q1⟩=>?_
 rcases q1 with ⟨a,e,q⟩|⟨z,rfl,q⟩
 rotate_left
 .obtain⟨t,rfl⟩:=r1;refine wpAny_pyIter_strU ?_
  refine⟨s1.heap.objs.size,[s1.heap.objs.size],_,_,H1,rfl,I1.kept (t':=s1.toks) λb o e=>Tb _ e,z_ (z:=z) (n:=strIterType ⟨z.toArray⟩) (t:=t) (by unfold strIterType;split<;>simp),⟨_,Pd _ rfl,rfl,rfl⟩,λb hb=>?_,q⟩
  have e:b=s1.heap.objs.size:=by simpa using hb
  subst e;exact I1.dj (Cb _) (I1.Ra.fresh (Cb _))
 subst e;cases r1;rcases q with ⟨⟨xs,hq⟩,q⟩|⟨⟨xs,hq⟩,q⟩
 .obtain⟨Ga,rv,p,hz⟩:=I1.list hq;refine Az p.isList ?_
  refine⟨s1.heap.objs.size,[s1.heap.objs.size],_,_,H1,rfl,I1.kept (t':=s1.toks) λb o e=>Tb _ e,B7 a _,⟨_,Pd _ rfl,rfl,rfl⟩,λb hb=>?_,q⟩
  have e:b=s1.heap.objs.size:=by simpa using hb
  subst e;exact I1.dj (Cb _) (I1.Ra.fresh (Cb _))
 .obtain⟨Ga,rv,p,hz⟩:=I1.tuple hq;refine wpAny_pyIter_tuple (show s1.heap.IsTuple a Ga.toArray from p) ?_
  refine⟨s1.heap.objs.size,[s1.heap.objs.size],_,_,H1,rfl,I1.kept (t':=s1.toks) λb o e=>Tb _ e,Y5 a _,⟨_,Pd _ rfl,rfl,rfl⟩,λb hb=>?_,q⟩
  have e:b=s1.heap.objs.size:=by simpa using hb
  subst e;exact I1.dj (Cb _) (I1.Ra.fresh (Cb _))
def oW{l:Expr}(hl:PE X l (tI X.K B f)):L2.PI X tg l (Oh X.K B (Fc f)):=BW (bHu hl) (by
 rintro σ H Rq ⟨A,st,ds,rs,hd,q⟩;obtain⟨x,hx,h2⟩:=R.ja hd;refine⟨A,st,x,rs,hx,λv H1 s1 r1=>?_⟩
 cases x<;>first|(cases h2;done)|skip
 .obtain⟨_,h2⟩:=aJ h2;cases h2;exact .inr ⟨_,eN.mp r1,q _ H1 s1 bHt⟩
 .cases h2;obtain⟨a,vs,e,h3,r3⟩:=iI r1;exact .inl ⟨a,e,.inr ⟨⟨vs,Wr (bA _ _) h3⟩,q _ H1 s1 (bHr h3 r3)⟩⟩
 .cases h2;obtain⟨a,vs,e,h3,r3⟩:=gK.mp r1;exact .inl ⟨a,e,.inl ⟨⟨vs,(bA _ _).seq h3⟩,q _ H1 s1 (bHq h3 r3)⟩⟩)
def Kk{p:Pos}(hm:X.mg "range"=none)(ha:PE X a (tP X.K B f))(hg:Gl X "range":=by rfl)(hs:starEach [a] X.env=[(false,eval a X.env)]:=by rfl):L2.PI X tg (.Call (.Name "range" p) [a] [] pos) (Oh X.K B (uL f)):=BW (C7 hg hm (cM ha fL hs) hs) (by
 rintro σ H Rq ⟨A,st,ds,rs,hd,q⟩;obtain⟨x,hx,h2⟩:=R.ja hd;obtain⟨j,rfl,h3⟩:=tM h2;obtain⟨c,h4⟩:=aJ h3;rw[jH]at c;cases h4;exact⟨A,st,_,rs,hx,λv H1 s1 r1=>⟨j,by rw[r1.int],by omega,by omega,q _ H1 s1 bHs⟩⟩)
end
def YC{K:Frag} (w:Own B H) (r:bC K (hide B H) ds vs):RS K B [] H (ds.map (λd=>some (Sl.v d))++List.replicate (N.length-ds.length) none) (L2.start N vs):=by
 have hl:=r.length;have Hr:∀(i:Nat)(s:Sl),(ds.map (λd=>some (Sl.v d))++List.replicate (N.length-ds.length) none)[i]?=some (some s)->∃d,ds[i]?=some d/\s=.v d:=λi s e=>by
  by_cases hi:i<ds.length
  .rw[Vi (by simpa using hi),List.getElem?_map,List.getElem?_eq_getElem hi]at e
   simp at e;exact⟨ds[i],Pc hi,e.symm⟩
  .rw[bu (by simpa using hi),List.getElem?_replicate]at e
   split at e<;>simp at e
 refine⟨by unfold L2.start;simp[hl],by rw[Gu];exact w,λa ha=>absurd ha (by simp),λi d e=>?_,λi kk xs e=>?_⟩
 .obtain⟨d',e1,e2⟩:=Hr i _ e;cases e2;obtain⟨v,hv,rv⟩:=r.get e1;refine⟨v,?_,by rw[Gu];exact rv⟩
  unfold L2.start;have hi:i<vs.length:=(Kd.mp hv).1;rw[Vi (by simpa using hi),List.getElem?_map,hv]
  rfl
 .obtain⟨d',e1,e2⟩:=Hr i _ e;cases e2
def ix(ds:List D)(d:D)(h:cQ np n bd ds=.ok d):ds.length=np:=(aJ h).1
structure Ha(P:Program)(w:World)(K:Frag)(mg:Str->Option Value)(base:Heap)(x:Str)(k np:Nat)(p:List D->R D):Prop where
 ex:∃(fa:Addr)(fd:FuncData)(ps:List Str),Ja P w K mg base yb k fa fd ps (Sb K np p)/\mg x=some (.ref fa)/\keepIn K (.ref fa)=true/\Binds K fd ps []
 len:∀ds d,p ds=.ok d->ds.length=np
def Ha.of{K:Frag} {k:Nat} (h:Ja P w K mg base yb k fa fd ps (Sb K np p)) (m:mg x=some (.ref fa))
  (kp:keepIn K (.ref fa)=true) (b:Binds K fd ps []) (l:∀ds d,p ds=.ok d->ds.length=np):Ha P w K mg base x k np p:=⟨⟨fa,fd,ps,h,m,kp,b⟩,l⟩
section
variable{X:Cx}{B:List Addr}{a b e:Expr}{f g:Ex}{pos:Pos}
def mF{k:Nat} {r:zd} (h:Ha X.prog X.w X.K X.mg X.base x k np p) (hr:Kb j X.A) (hk:k<=j) (ha:PA X (e::es) (tA X.K B r)) (hg:Gl X x:=by rfl) (Ig:(x==("__debug__":Str))=false:=by decide)
  (he:starEach (e::es) X.env=(false,eval e X.env)::starEach es X.env:=by rfl) (hpl:(backTo pos (starEach es X.env)).any (·.1)=false:=by rfl):PE X (.Call (.Name x p0) (e::es) [] pos) (tI X.K B (aK p r)):=by
 obtain⟨fa,fd,ps,F,m,kp,bd⟩:=h.ex;exact bHo F (hr.mono hk) m kp bd h.len ha hg Ig he hpl
def Q6{K:Frag} {a:Addr} (hS:jc K H a (ns.map V.int)):bC K H [.lst (ns.map D.int)] [.ref a]:=by
 refine .cons (XC.mpr ⟨a,_,rfl,hS,?_,λz=>by cases ns<;>cases z⟩) .nil
 clear hS
 induction ns with
 |nil=>exact .nil
 |cons n ns ih=>exact .cons (bM.mpr rfl) ih
def bHv{K:Frag} {a:Addr} {E:XK} (hS:jc K H a (ns.map V.int)) (h:p [.lst (ns.map D.int)]=.ok (.bl true)):Sb K 1 p [.ref a] H (λv _=>v=.bl true) E:=
 ⟨[],[.lst (ns.map D.int)],.bl true,λb hb=>absurd hb (by simp),by rw[wW];exact Q6 hS,rfl,h,λv H' _ r=>cX.mp r⟩
def gO(hm:X.mg "len"=none)(ha:PE X a (tP X.K B f))(hg:Gl X "len":=by rfl)(hs:starEach [a] X.env=(false,eval a X.env)::starEach [] X.env:=by rfl):PE X (.Call (.Name "len" p0) [a] [] pos) (tI X.K B (e1 fU f)):=by
 refine cL (qR (n5.or (o5.or q8)) hg hm PySem.boot_len (cM ha fL hs) (he:=hs)) ?_
 rintro σ H Q ⟨A,st,d,rs,hd,q⟩;obtain⟨x,hx,h2⟩:=R.ja hd;refine⟨A,st,x,rs,hx,λv H1 s1 r1=>?_⟩
 cases x<;>first|(cases h2;done)|skip
 .obtain⟨c,h3⟩:=aJ h2;cases h3;exact .inr (.inl ⟨_,by rw[r1.str],by rw[str_len];exact lim c,by rw[str_len];exact q _ H1 s1 (bM.mpr rfl)⟩)
 .cases h2;obtain⟨l,vs,e,h3,r3⟩:=r1.tup;exact .inl ⟨l,vs,by rw[e],.inr h3,by rw[r3.length];exact q _ H1 s1 (bM.mpr rfl)⟩
 .cases h2;obtain⟨l,vs,e,h3,r3⟩:=r1.lst;exact .inl ⟨l,vs,by rw[e],.inl h3,by rw[r3.length];exact q _ H1 s1 (bM.mpr rfl)⟩
 .rename_i t ks ds;cases t<;>first|(cases h2;done)|skip
  cases h2;obtain⟨a,ma,e,h3,h4⟩:=ϫ r1;exact .inr (.inr ⟨a,ma,by rw[e],h3,by rw[h4];exact q _ H1 s1 (bM.mpr rfl)⟩)
def NE:PO X none (tO X.K B aq):=ZV ρ (by
 rintro σ H Q ⟨A,st,o,rs,ho,q⟩;cases ho;exact q H (aY.refl _))
def Mn(h:PE X e (tP X.K B f)):PO X (some e) (tO X.K B (uM f)):=ZV (ς h) (by
 rintro σ H Q ⟨A,st,o,rs,ho,q⟩;obtain⟨x,hx,h2⟩:=R.ja ho;obtain⟨i,rfl,h3⟩:=tM h2;cases h3;exact⟨A,st,_,rs,hx,λv H1 s1 r1=>⟨i,r1.int,q H1 s1⟩⟩)
theorem OR{α:Type}(x:List α):∀(k a:Nat),((List.range k).map (a + ·)).filterMap (x[·]?)=(x.drop a).take k
 |0,a=>by simp
 |k+1,a=>by
  rw[EZ,wc,pz,ug];have e:((λb=>a+b) ∘ Nat.succ)=λb=>(a+1)+b:=by funext b;simp only[Function.comp_apply];omega
  rw[e];have ih:=OR x k (a+1);rw[ih]
  by_cases h:a<x.length
  .rw[Dl,Pc h];simp only[drop_eq_getElem_cons h,List.take_succ_cons]
  .rw[Dl,iz (by omega)]
   simp only[List.drop_eq_nil_of_le (by omega:x.length<=a),List.drop_eq_nil_of_le (by omega:x.length<=a+1),List.take_nil]
def ZT(n d:Nat)(o:Option Int):(match o with|none=>(d:Int)|some i=>if (1:Int)>0 then max 0 (min (if i<0 then i+(n:Int) else i) (n:Int)) else max (-1) (min (if i<0 then i+(n:Int) else i) ((n:Int)-1)))=((Kc n d o:Nat):Int):=by
 cases o with
 |none=>rfl
 |some i=>
  show (if (1:Int)>0 then _ else _)=(((if i<0 then (i+(n:Int)).toNat else min i.toNat n):Nat):Int)
  rw[Na (by decide)]
  by_cases h:i<0
  .rw[Na h,Na h];omega
  .rw[La h,La h];omega
def A_(lo hi:Option Int)(n:Nat):Builtin.Str.strSliceIndices lo hi 1 n=(List.range (Kc n n hi-Kc n 0 lo)).map (Kc n 0 lo + ·):=by
 unfold Builtin.Str.strSliceIndices;simp only[show (1:Int)>0 by decide,if_true]
 have e1:=ZT n 0 lo;have e2:=ZT n n hi;simp only[show (1:Int)>0 by decide,if_true]at e1 e2
 rw[show ((0:Nat):Int)=0 from rfl]at e1
 refine Eq.trans (congrArg (λz=>sliceRange z _ 1) (show _=((Kc n 0 lo:Nat):Int) from e1)) (Eq.trans (congrArg (λz=>sliceRange _ z 1) (show _=((Kc n n hi:Nat):Int) from e2)) ?_)
 unfold sliceRange;simp only[show (1:Int)>0 by decide,if_true]
 have hc:(if ((Kc n 0 lo:Nat):Int)<((Kc n n hi:Nat):Int) then (((Kc n n hi:Nat):Int)-((Kc n 0 lo:Nat):Int)+1-1)/1 else 0).toNat=Kc n n hi-Kc n 0 lo:=by
  by_cases h:((Kc n 0 lo:Nat):Int)<((Kc n n hi:Nat):Int)
  .rw[Na h,Int.ediv_one];omega
  .rw[La h];omega
 rw[hc];refine Xi λk _=>?_
 omega
def ϭ(n d:Nat)(hd:d<=n)(o:Option Int):Kc n d o<=n:=by
 cases o with
 |none=>exact hd
 |some v=>
  show (if v<0 then (v+(n:Int)).toNat else min v.toNat n)<=n
  by_cases hv:v<0
  .rw[Na hv];omega
  .rw[La hv];omega
def s8(x:List Nat)(lo hi:Option Int):Txt.slice ⟨x.toArray⟩ lo hi=⟨(cut x lo hi).toArray⟩:=by
 unfold Txt.slice cut;rw[str_len,A_,uc,Im];have h1:=ϭ x.length x.length (Cb _) hi
 by_cases h:Kc x.length x.length hi-Kc x.length 0 lo=x.length
 .have e0:Kc x.length 0 lo=0\/x.length=0:=by omega
  rw[Na (by simp[h]),h]
  rcases e0 with e0|e0
  .rw[e0,drop_zero,OG]
  .rw[jl.mp e0];simp
 .rw[La (by simp[h])]
  have e:(λ(i:Nat)=>(⟨x.toArray⟩:Str).cps[i]?)=λi=>x[i]?:=by funext i;simp
  rw[e,OR]
def bN1:V->Option Int->Option Int->Hp->VK->Prop:=λx lo hi H Q=>∃z:List Nat,x=.str ⟨z.toArray⟩/\z.length<=sizeLine/\Q (.str ⟨(cut z lo hi).toArray⟩) H
def bHw:Fn X bN1:=by
 intro aa s σ H x v vl vu lo hi sl Q I rx hs pl pu h;obtain⟨z,rfl,hz,q⟩:=h;obtain⟨t,rfl⟩:=rx;refine⟨"str",_,PySem.F.slot_str_getitem.lookup,typeIs_str _ _ _,?_⟩;have hl:(Txt.slice ⟨z.toArray⟩ lo hi).length<=sizeLine:=Zd (Txt.slice_le _ _ _) (by rw[str_len];exact hz)
 have fin:∀t' k,EP X aa σ Q (.str (Txt.slice ⟨z.toArray⟩ lo hi) t') {s with toks:=k}:=λt' k=>⟨.str ⟨(cut z lo hi).toArray⟩,H,I.tok k,⟨t',by rw[s8]⟩,q⟩
 cases pl with
 |none=>
  cases pu with
  |none=>exact bz (l:=none) (u:=none) (st:=none) hs rfl (Gz ⟨hl,fin⟩)
  |int j uj=>exact bz (l:=none) (u:=some (j,uj)) (st:=none) hs rfl (Gz ⟨hl,fin⟩)
 |int i ui=>
  cases pu with
  |none=>exact bz (l:=some (i,ui)) (u:=none) (st:=none) hs rfl (Gz ⟨hl,fin⟩)
  |int j uj=>exact bz (l:=some (i,ui)) (u:=some (j,uj)) (st:=none) hs rfl (Gz ⟨hl,fin⟩)
def PR{K:Frag} (lo hi:Option Int) (r:bC K H ds vs):bC K H (cut ds lo hi) (wq vs lo hi):=by
 unfold cut wq;rw[r.length];exact(r.drop _).take _
def Vy{lo hi:Option Expr}{l u:yn} (ha:PE X a (tP X.K B f)) (hl:PO X lo (tO X.K B l)) (hu:PO X hi (tO X.K B u)):PE X (.Subscript a (.Slice lo hi none p2) pos) (tI X.K B (bj f l u)):=by
 refine cL (KQ (CS.or bHw) ha hl hu) ?_
 rintro σ H Q ⟨A,st,d,rs,hd,q⟩;obtain⟨x,hx,h2⟩:=R.ja hd;obtain⟨l',Ar,h3⟩:=R.ja h2;obtain⟨u',Cc,h4⟩:=R.ja h3;refine⟨A,st,x,rs,hx,λv H1 s1 r1=>⟨A,st,l',rs.mono s1,Ar,λH2 s2=>⟨A,st,u',rs.mono (s1.trans s2),Cc,λH3 s3=>?_⟩⟩⟩
 have r3:=r1.mono (s2.trans s3);cases x<;>first|(cases h4;done)|skip
 .obtain⟨c,h5⟩:=aJ h4;cases h5;exact .inr ⟨_,r3.str,lim c,q _ H3 (s1.trans (s2.trans s3)) (eN.mpr rfl)⟩
 .cases h4;obtain⟨p,vs,e,h6,r6⟩:=r3.lst;refine .inl ⟨p,vs,e,h6,λn hn=>q _ _ (s1.trans (s2.trans (s3.trans (bT hn)))) ?_⟩
  exact jF (rs.own.mono (s1.trans (s2.trans s3))) hn (PR _ _ r6)
end
def bh(cells:List (Str×Addr)):List (Str×NameKind)->List (Str×Addr)->List (Str×Addr)
 |[],qa=>qa
 |(n,k)::r,qa=>if k == .free then bh cells r ((n,(cells.lookup n).getD 0)::qa) else bh cells r qa
theorem OB{env:Env}:∀(names:List (Str×NameKind)) (qa:List (Str×Addr)),(∀y∈names,y.2=.free->∃c,env.cells.lookup y.1=some c)->
  (forIn names qa λx cs=>if x.2 == .free then (do let c <- cellOf env x.1;pure (ForInStep.yield ((x.1,c)::cs))) else pure (ForInStep.yield cs):Sem (List (Str×Addr)))=pure (bh env.cells names qa)
 |[],qa,_=>by rw[forIn_nil];rfl
 |(n,k)::r,qa,h=>by
  rw[forIn_cons];unfold bh
  by_cases hk:k=.free
  .subst hk;obtain⟨c,e⟩:=h (n,.free) xb rfl;have e2:cellOf env n=pure c:=by unfold cellOf;rw[e]
   simp only[beq_self_eq_true,if_true,e2,e,getD_some];show (forIn r ((n,c)::qa) _:Sem (List (Str×Addr)))=_;exact OB r _ λy hy=>h y (Bb _ hy)
  .have hb:(k==NameKind.free)=false:=by simpa using hk
   simp only[hb,Bool.false_eq_true,if_false];show (forIn r qa _:Sem (List (Str×Addr)))=_;exact OB r _ λy hy=>h y (Bb _ hy)
def R4{scope:Scope} (h:∀y∈scope.names,y.2=.free->∃c,env.cells.lookup y.1=some c):closureFor scope env=pure (bh env.cells scope.names []):=by
 have q:=OB (env:=env) scope.names [] h;unfold closureFor;rw[<-q];simp only[pure_bind,bind_pure]
theorem YD{cells:List (Str×Addr)}:∀(names:List (Str×NameKind)) (qa:List (Str×Addr)) (x:Str) (c:Addr),(∀y∈names,y.2=.free->∃c,cells.lookup y.1=some c)->(x,c)∈bh cells names qa->((x,NameKind.free)∈names/\cells.lookup x=some c)\/(x,c)∈qa
 |[],qa,x,c,_,h=>.inr h
 |(n,k)::r,qa,x,c,hn,h=>by
  unfold bh at h;have hr:∀y∈r,y.2=.free->∃c,cells.lookup y.1=some c:=λy hy=>hn y (Bb _ hy)
  by_cases hk:k=.free
  .subst hk;rw[Na (by simp)]at h
   obtain⟨c',e⟩:=hn (n,.free) xb rfl;rcases YD r _ x c hr h with ⟨h1,h2⟩|h1
   .exact .inl ⟨Bb _ h1,h2⟩
   .rcases Nb.mp h1 with h1|h1
    .cases h1;refine .inl ⟨xb,?_⟩;have e':cells.lookup n=some c':=e;rw[e'];rfl
    .exact .inr h1
  .rw[La (by simpa using hk)]at h
   rcases YD r _ x c hr h with ⟨h1,h2⟩|h1
   .exact .inl ⟨Bb _ h1,h2⟩
   .exact .inr h1
theorem ZD{cells:List (Str×Addr)}:∀(names:List (Str×NameKind)) (qa:List (Str×Addr)) (x:Str),((x,NameKind.free)∈names\/∃c,(x,c)∈qa)->∃c,(x,c)∈bh cells names qa
 |[],qa,x,h=>by
  rcases h with h|h
  .cases h
  .exact h
 |(n,k)::r,qa,x,h=>by
  unfold bh
  by_cases hk:k=.free
  .subst hk;rw[Na (by simp)]
   refine ZD r _ x ?_
   rcases h with h|⟨c,h⟩
   .rcases Nb.mp h with h|h
    .cases h;exact .inr ⟨_,xb⟩
    .exact .inl h
   .exact .inr ⟨c,Bb _ h⟩
  .rw[La (by simpa using hk)]
   refine ZD r _ x ?_
   rcases h with h|h
   .rcases Nb.mp h with h|h
    .cases h;exact absurd rfl hk
    .exact .inl h
   .exact .inr h
theorem vQ{α:Type}:∀{l:List (Str×α)} {x:Str} {c:α},(x,c)∈l->∃c',l.lookup x=some c'
 |(n,v)::r,x,c,h=>by
  rw[Wg];cases hb:x==n with
  |true=>exact⟨v,rfl⟩
  |false=>
   rcases Nb.mp h with h|h
   .cases h;simp at hb
   .exact vQ h
theorem oX{env:Env}:∀(names:List (Str×NameKind)) (x:Str),(names.map λ(n,k)=>if (k==NameKind.free&&env.scope.kind == .function&&env.kindOf n==some .cell) then (n,NameKind.cell) else (n,k)).lookup x =
  (names.lookup x).map λk=>if (k==NameKind.free&&env.scope.kind == .function&&env.kindOf x==some .cell) then NameKind.cell else k
 |[],_=>rfl
 |(n,k)::r,x=>by
  have ih:=@oX env r x;rw[wc,Wg];show List.lookup x ((if (k==NameKind.free&&env.scope.kind == .function&&env.kindOf n==some .cell)=true then (n,NameKind.cell) else (n,k))::_)=_
  cases hx:x==n with
  |true=>
   have e:x=n:=Bh.mp hx;subst e
   by_cases hc:(k==NameKind.free&&env.scope.kind == .function&&env.kindOf x==some .cell)=true
   .rw[Na hc,Wg,Wg,hx];simp only[map_some];rw[Na hc]
   .rw[La hc,Wg,Wg,hx];simp only[map_some];rw[La hc]
  |false=>
   by_cases hc:(k==NameKind.free&&env.scope.kind == .function&&env.kindOf n==some .cell)=true
   .rw[Na hc,Wg,Wg,hx];exact ih
   .rw[La hc,Wg,Wg,hx];exact ih
theorem qJ:∀(names:List (Str×NameKind)) (n:Nat) (qa:List (Str×Addr)),cellsFrom n names qa=cellsFrom n names []++qa
 |[],_,_=>rfl
 |(x,k)::r,n,qa=>by
  unfold cellsFrom;split
  .rw[qJ r (n+1) ((x,n)::qa),qJ r (n+1) [(x,n)],wl];rfl
  .exact qJ r n qa
theorem yE:∀(names:List (Str×NameKind)) (n:Nat) (qa:List (Str×Addr)) (x:Str) (c:Addr),(x,c)∈cellsFrom n names qa->(x,c)∈qa\/(x,NameKind.cell)∈names
 |[],_,_,_,_,h=>.inl h
 |(y,k)::r,n,qa,x,c,h=>by
  unfold cellsFrom at h;split at h
  .rename_i hk;rcases yE r _ _ x c h with z|z
   .rcases Nb.mp z with z|z
    .cases z;exact .inr (by rw[show k=NameKind.cell from by simpa using hk];exact xb)
    .exact .inl z
   .exact .inr (Bb _ z)
  .rcases yE r _ _ x c h with z|z
   .exact .inl z
   .exact .inr (Bb _ z)
theorem qK:∀(names:List (Str×NameKind)) (n:Nat) (qa:List (Str×Addr)) (x:Str),((x,NameKind.cell)∈names\/∃c,(x,c)∈qa)->∃c,(x,c)∈cellsFrom n names qa
 |[],_,_,x,h=>h.elim (λz=>nomatch z) id
 |(y,k)::r,n,qa,x,h=>by
  unfold cellsFrom;split
  .refine qK r _ _ x ?_
   rcases h with h|⟨c,h⟩
   .rcases Nb.mp h with h|h
    .cases h;exact .inr ⟨n,xb⟩
    .exact .inl h
   .exact .inr ⟨c,Bb _ h⟩
  .rename_i hk;refine qK r _ _ x ?_
   rcases h with h|h
   .rcases Nb.mp h with h|h
    .cases h;exact absurd rfl hk
    .exact .inl h
   .exact .inr h
theorem GO{α:Type}(x:Str):∀(l r:List (Str×α)),(l++r).lookup x=(l.lookup x).or (r.lookup x)
 |[],r=>by simp
 |(y,v)::l,r=>by
  rw[List.cons_append,Wg,Wg];cases hb:x==y with
  |true=>rfl
  |false=>exact GO x l r
theorem qL{α:Type}:∀{l:List (Str×α)} {x:Str} {v:α},(l.map (·.1)).Nodup->(x,v)∈l->l.lookup x=some v
 |(y,w)::l,x,v,nd,h=>by
  rw[wc,Gf]at nd;rw[Wg];rcases Nb.mp h with h|h
  .cases h;simp
  .have Ee:(x==y)=false:=by
    rw[Yj];intro z;exact nd.1 (Rc.mpr ⟨(x,v),h,z⟩)
   rw[Ee];exact qL nd.2 h
def t8{A:Around} {s:Shared} {scope:Scope} {gl:Addr} {cl:List (Str×Addr)} {Q:Env->Shared->Prop}
  (hQ:∀h',h'.Ns s.heap.objs.size (λ_=>none)->(∀b o,s.heap.get? b=some o->h'.get? b=some o)->CellsOk h' (s.heap.objs.size+1) (cellsFrom (s.heap.objs.size+1) scope.names [])->
   Q {scope:=scope,locals:=s.heap.objs.size,globals:=gl,cells:=cellsFrom (s.heap.objs.size+1) scope.names cl,qual:=qual,func:=none,code:=env.code,frame:=env.frame,builtins:=env.builtins} {s with heap:=h'}) :
  wpAny M A (newFunctionEnv scope gl cl [] qual none .none (some env)) Q E s:=by
 simp only[newFunctionEnv,Option.isSome_some,if_true];refine Ca (wpAny_alloc (Ca (wpAny_layCells _ (λname kind cells=>by cases hkc:kind==NameKind.cell<;>simp[hkc]) _ _ _ _ ?_)))
 rw[forIn_nil];refine Ca (kb (kb ?_));have ok:=cellsFrom_ok scope.names (s.heap.push {cls:=.type "dict",data:=.dict #[]}) (s.heap.objs.size+1) [] ⟨λ_ _ hm=>(nomatch hm),List.Pairwise.nil⟩ (by rw[qg];exact Cb _)
 rw[qg]at ok;have e:({s with heap:=s.heap.push {cls:=.type "dict",data:=.dict #[]} }:Shared).heap.objs.size=s.heap.objs.size+1:=qg ..
 rw[e];exact hQ _ ((Heap.Ns.new s.heap (.type "dict")).keeps (pushCells_keeps _ _)) (λb o q=>pushCells_keeps _ _ b o (Tb _ q)) ok
structure Jb(X:Cx)(scope:Scope)(is:List Nat):Prop where
 kind:scope.kind=.function
 nd:(scope.names.map (·.1)).Nodup
 free:∀x∈scope.names,x.2=.free->X.env.kindOf x.1=some .cell\/X.env.kindOf x.1=some .free
 own:∀(i:Nat) x,X.N[i]?=some x->(scope.names.lookup x=some .local\/scope.names.lookup x=some .cell)->i∈is
section
variable{X:Cx}{scope:Scope}{is:List Nat}
theorem Jb.names(S:Jb X scope is):∀x∈scope.names,x.2=.local->scope.names.lookup x.1=some .local:=λx hx e=>qL S.nd (by rw[<-e];exact hx)
def cC(X:Cx)(scope:Scope)(C:Addr)(ua:Shared)(za:Hp)(fp:List Addr):Cx:=
 {X with ua:=ua,za:=za,env:=compEnvC scope (cellsFrom (C+1) scope.names (bh X.env.cells scope.names [])) C X.env,outer:=X.stack,stack:=X.stack,ex:=fp,fn:=λx=>scope.names.lookup x==some .cell,pn:=[],xe:=λ_ _=>False,calm:=true}
theorem Jb.cells(S:Jb X scope is)(ok:X.Ok):∀y∈scope.names,y.2=.free->∃c,X.env.cells.lookup y.1=some c:=λy hy hf=>ok.has y.1 (S.free y hy hf)
def Jb.lk(S:Jb X scope is)(ok:X.Ok){n:Nat}{x:Str}{c:Addr}(h:(cellsFrom n scope.names (bh X.env.cells scope.names [])).lookup x=some c) :
  ((cellsFrom n scope.names []).lookup x=some c/\scope.names.lookup x=some .cell)\/(scope.names.lookup x=some .free/\X.env.cells.lookup x=some c):=by
 rw[qJ,GO]at h;cases e:(cellsFrom n scope.names []).lookup x with
 |some c'=>
  rw[e]at h;cases h;rcases yE _ _ _ _ _ (Vh e) with z|z
  .cases z
  .exact .inl ⟨rfl,qL S.nd z⟩
 |none=>
  rw[e]at h;have h:(bh X.env.cells scope.names []).lookup x=some c:=h;rcases YD scope.names [] x c (S.cells ok) (Vh h) with ⟨h1,h2⟩|h2
  .exact .inr ⟨qL S.nd h1,h2⟩
  .cases h2
def Bm(is:List Nat)(σ:Df):Df:=is.foldl (λτ i=>τ.set i none) σ
def QR(is:List Nat):∀σ:Df,(Bm is σ).length=σ.length:=by
 induction is with
 |nil=>exact λ_=>rfl
 |cons i is ih=>intro σ;show (Bm is (σ.set i none)).length=_;rw[ih,vg]
def B_(is:List Nat):∀(σ:Df)(j:Nat)(v:V),(Bm is σ)[j]?=some (some v)->σ[j]?=some (some v)/\j∉is:=by
 induction is with
 |nil=>exact λσ j v h=>⟨h,by simp⟩
 |cons i is ih=>
  intro σ j v h;obtain⟨h1,h2⟩:=ih (σ.set i none) j v h;rw[ve]at h1
  by_cases e:i=j
  .subst e;rw[Na rfl]at h1;split at h1<;>cases h1
  .rw[La e]at h1;exact⟨h1,λz=>(Nb.mp z).elim (λz=>e z.symm) h2⟩
def R6{s:Shared}{fp:List Addr} (S:Jb X scope is) (hc:X.calm=true) (I:xa X aa σ H s) (hf:∀b∈fp,vh X aa H b) (Qb:∀b∈fp,b<s.heap.objs.size)
  (hn:h'.Ns s.heap.objs.size λ_=>none) (hk:∀b o,s.heap.get? b=some o->h'.get? b=some o) (Fi:CellsOk h' (s.heap.objs.size+1) (cellsFrom (s.heap.objs.size+1) scope.names [])) :
  xa (cC X scope s.heap.objs.size s H fp) [] (Bm is σ) H {s with heap:=h',toks:=t'}:=by
 have lk:=@Jb.lk X scope is S I.ok (s.heap.objs.size+1);have nf:∀b∈fp,b≠s.heap.objs.size:=λb hb=>Hd (Qb b hb)
 have aj:∀x c,X.env.cells.lookup x=some c->c<s.heap.objs.size:=λx c e=>by
  obtain⟨v,q⟩:=I.cell x c e;exact q.lt
 have Qg:∀x c,(cellsFrom (s.heap.objs.size+1) scope.names []).lookup x=some c->s.heap.objs.size+1<=c:=λx c e=>(Fi.empty x c (Vh e)).2
 have has:∀x k,(k=.cell\/k=.free)->scope.names.lookup x=some k->∃c,(cellsFrom (s.heap.objs.size+1) scope.names (bh X.env.cells scope.names [])).lookup x=some c:=λx k hk e=>by
  have hm:=Vh e;rcases hk with rfl|rfl
  .obtain⟨c,q⟩:=qK scope.names (s.heap.objs.size+1) (bh X.env.cells scope.names []) x (.inl hm);exact vQ q
  .obtain⟨c,q⟩:=qK scope.names (s.heap.objs.size+1) (bh X.env.cells scope.names []) x (.inr (ZD (cells:=X.env.cells) scope.names [] x (.inl hm)));exact vQ q
 have knd:∀x,(relabel scope X.env).names.lookup x=some .cell\/(relabel scope X.env).names.lookup x=some .free->scope.names.lookup x=some .cell\/scope.names.lookup x=some .free:=λx hx=>by
  unfold relabel at hx;rw[oX]at hx;cases e:scope.names.lookup x with
  |none=>rw[e]at hx;rcases hx with hx|hx<;>cases hx
  |some k=>
   rw[e]at hx;simp only[map_some]at hx
   by_cases hc:(k==NameKind.free&&X.env.scope.kind == .function&&X.env.kindOf x==some .cell)=true
   .simp only[and_eq_true,beq_iff_eq]at hc;exact .inr (by rw[hc.1.1])
   .rw[La hc]at hx;exact hx
 refine⟨⟨I.ok.mod,?_,I.ok.glob,I.ok.blt,Cb _,λx y c h1 h2=>?_,λx hx=>?_,λx c Lo e=>?_,λ_=>I.ok.hd hc,I.ok.frames,.inl rfl,λb hb=>⟨nf b hb,λx c e z=>?_⟩,I.bs,?_,λb o e hb=>?_,λb hb z=>?_,I.stack,I.Nh⟩,
  rfl,I.bare,Un.kept hk,⟨_,hn,λi x v e1 e2 e3=>?_⟩,λx c e=>?_,I.Ra.fresh (Cb _),λx c e=>?_,(λp hp=>absurd (show p∈([]:List (Addr×Obj)) from hp) (by simp)),I.Ra.kept hk,by rw[QR];exact I.len⟩
 .show (relabel scope X.env).kind=.function;exact S.kind
 .rcases lk h1 with ⟨a1,_⟩|⟨_,a1⟩ <;> rcases lk h2 with ⟨a2,_⟩|⟨_,a2⟩
  .exact name_of_addr Fi.apart (Vh a1) (Vh a2)
  .exact absurd (ue (aj y c a2) (LG (Qg x c a1))) (Cg _)
  .exact absurd (ue (aj x c a1) (LG (Qg y c a2))) (Cg _)
  .exact I.ok.inj x y c a1 a2
 .rcases knd x hx with e|e
  .exact has x _ (.inl rfl) e
  .exact has x _ (.inr rfl) e
 .have Lo:scope.names.lookup x=some .cell:=Bh.mp Lo;rcases lk e with ⟨a1,_⟩|⟨a1,_⟩
  .have:=Qg x c a1;show s.heap.objs.size<=c;omega
  .rw[Lo]at a1;cases a1
 .rcases lk e with ⟨a1,_⟩|⟨_,a1⟩
  .have h2:=Qb b hb;rw[<-z]at h2;exact absurd (ue h2 (LG (Qg x c a1))) (Cg _)
  .exact(hf b hb).2.2.2.2.1 x c a1 z
 .exact Zd I.ok.El I.sz
 .rcases (hf b hb).2.2.2.1 with z|z
  .exact I.ok.zj b o e z
  .exact absurd (ue (dc e) (Zd I.ok.El z)) (Cg _)
 .rcases Nb.mp (I.rh b z) with z|z
  .exact(hf b hb).2.1 z
  .exact(hf b hb).2.2.1 z
 .obtain⟨e2,J0⟩:=B_ is σ i v e2;have e3:(relabel scope X.env).names.lookup x=some .local\/(relabel scope X.env).names.lookup x=some .cell\/(relabel scope X.env).names.lookup x=some .free:=e3;have Wm:scope.names.lookup x=some .free:=by
   have e4:=e3;unfold relabel at e4;rw[oX]at e4;cases e:scope.names.lookup x with
   |none=>rw[e]at e4;rcases e4 with e4|e4|e4<;>cases e4
   |some k=>
    rw[e]at e4;simp only[map_some]at e4
    by_cases hc:(k==NameKind.free&&X.env.scope.kind == .function&&X.env.kindOf x==some .cell)=true
    .simp only[and_eq_true,beq_iff_eq]at hc;rw[hc.1.1]
    .rw[La hc]at e4;rcases e4 with e4|e4|e4
     .exact absurd (S.own i x e1 (.inl (by rw[e,e4]))) J0
     .exact absurd (S.own i x e1 (.inr (by rw[e,e4]))) J0
     .exact e4
  have KI:(relabel scope X.env).names.lookup x=some .cell\/(relabel scope X.env).names.lookup x=some .free:=by
   rcases e3 with e3|e3|e3
   .unfold relabel at e3;rw[oX,Wm]at e3;simp only[map_some]at e3;split at e3<;>cases e3
   .exact .inl e3
   .exact .inr e3
  have Lv:=S.free _ (Vh Wm) rfl;obtain⟨m,hm,hl⟩:=I.loc;obtain⟨u,ru,lu⟩:=hl i x v e1 e2 (.inr Lv);refine⟨u,ru,.inr ⟨KI,?_⟩⟩;rcases lu with ⟨k1,_⟩|⟨_,c,ec,zc⟩
  .have k1:X.env.kindOf x=some .local:=k1;rcases Lv with q|q<;>rw[k1]at q<;>cases q
  .obtain⟨c2,e5⟩:=has x _ (.inr rfl) Wm;rcases lk e5 with ⟨_,a1⟩|⟨_,a1⟩
   .rw[Wm]at a1;cases a1
   .rw[ec]at a1;cases a1;exact⟨c,e5,zc.keeps hk⟩
 .rcases lk e with ⟨a1,_⟩|⟨_,a1⟩
  .exact⟨_,(Fi.empty x c (Vh a1)).1⟩
  .obtain⟨v,q⟩:=I.cell x c a1;exact⟨v,q.keeps hk⟩
 .rcases lk e with ⟨a1,_⟩|⟨_,a1⟩
  .exact I.Ra.fresh (by have:=Qg x c a1;omega)
  .exact I.Td x c a1
end
def B4(elt target iter c:Expr)(scope:Scope)(pos:Pos)(it qa:Value)(env:Env) :
  compTurn (.ListComp elt [⟨target,iter,[c],0⟩] scope pos) 0 it qa env=(standAt iter.pos >>= λ_=>pyNext it >>= λr=>match r with
   |none=>pure (.done .next)
   |some v=>letOwnedTupleGo target it v >>= λ_=>assign target env v >>= λ_=>isTrue c env (eval c env) >>= λok=>
    if ok=true then (eval elt env >>= λx=>call (.builtin "list.append") [qa,x] >>= λ_=>again (.compLoop (.ListComp elt [⟨target,iter,[c],0⟩] scope pos) 0 it qa env))
    else again (.compLoop (.ListComp elt [⟨target,iter,[c],0⟩] scope pos) 0 it qa env)):=by
 unfold compTurn;simp[forIn_cons,forIn_nil];rfl
def t4(elt target iter:Expr)(scope:Scope)(pos:Pos)(it qa:Value)(env:Env) :
  compTurn (.ListComp elt [⟨target,iter,[],0⟩] scope pos) 0 it qa env=(standAt iter.pos >>= λ_=>pyNext it >>= λr=>match r with
   |none=>pure (.done .next)
   |some v=>letOwnedTupleGo target it v >>= λ_=>assign target env v >>= λ_=>
    (eval elt env >>= λx=>call (.builtin "list.append") [qa,x] >>= λ_=>again (.compLoop (.ListComp elt [⟨target,iter,[],0⟩] scope pos) 0 it qa env))):=by
 unfold compTurn;simp[forIn_nil];rfl
section
variable{X:Cx}{scope:Scope}{is:List Nat}{elt tg iter:Expr}{pos:Pos}{wi:TI}{g:TG}{te:TE}{tt:TT}
def HK(is:List Nat)(wi:TI)(g:TG)(tt:TT)(te:TE):TE:=λσ H Q=>wi σ H λJ H1=>∀p,H1 p=none->∃W:Nat->Nat->Df->List V->Hp->Prop,(∃m,W 0 m (Bm is σ) [] (Ua H1 p (.lst [])))/\
 ∀i m τ vs H,W i m τ vs H->H p=some (.lst vs)/\((J.stop i H/\Q (.ref p) H)\/(J.go i H/\∀x H',J.Qr i H x H'->g x τ H' λJj H2=>tt Jj H2 λk H3=>
  if k=true then te Jj H3 λy H4=>H4 p=some (.lst vs)/\vs.length<sizeLine/\∃m',m' < m/\W (i+1) m' Jj (vs++[y]) (Ua H4 p (.lst (vs++[y]))) else ∃m',m' < m/\W (i+1) m' Jj vs H3))
def Mx{σ5:Df}{H5:Hp}{s5:Shared}{fp:List Addr} (I:xa X aa σ H s) (hf:∀b∈fp,vh X aa H b) (hC:s.heap.objs.size<=C) (J:xa (cC X scope C s H fp) [] σ5 H5 s5)
  (hs:Heap.SameBut C s5.heap h'):xa X aa σ H5 {s5 with heap:=h'}:=by
 have Jg:H5 C=none:=J.free;have ne:∀b o,s.heap.get? b=some o->b≠C:=λb o e z=>by
  have:=dc e;subst z;exact absurd (ue this hC) (Cg _)
 have u:Un (bi X.stack) fp H H5 s.heap h':=⟨λb o e n hb hx=>hs.extBut b o (ne b o e) (J.base.keep b o e n hb hx),λb o e n hb hx=>by
   obtain⟨sl,q⟩:=J.base.slot b o e n hb hx;exact⟨sl,hs.extBut b _ (ne b o e) q⟩,J.base.free,λb o e hx=>by
   obtain⟨o',q⟩:=J.base.there b o e hx;exact⟨o',hs.extBut b _ (ne b o e) q⟩,J.base.ng,J.base.Af,J.base.lg⟩
 have Ra:Od X.prog X.w H5 h':=λb o e=>by
  refine(J.Ra b o e).Ae (λc v hc q=>hs.extBut c v ?_ q) (λ_ q=>q) λ_ _ q=>q
  rintro rfl;rcases hc with z|z
  .subst z;rw[Jg]at e;cases e
  .rw[Jg]at z;cases z
 obtain⟨hh,gg,dd,tt,os⟩:=s5;have hos:os=s.os:=J.os;subst hos;have fin:=I.call (h':=h') (g':=gg) (d':=dd) (t':=tt) (ch:=fp) u Ra J.bare λb hb=>⟨(hf b hb).2.2.2.1,(hf b hb).2.1,(hf b hb).2.2.2.2.1,(hf b hb).2.2.2.2.2⟩
 exact fin
def oQ{Y:Cx} {p:Addr} {k:Sem α} {Q:α->Shared->Prop} (he:PE Y elt te) (hx:∀e s',Y.xe e s'->E e s') (I:xa Y aa τ H s) (hw:te τ H λy H4=>H4 p=some (.lst vs)/\vs.length<sizeLine/\∀s',xa Y aa τ (Ua H4 p (.lst (vs++[y]))) s'->wpAny (model Y.prog Y.w) Y.A k Q E s') :
  wpAny (model Y.prog Y.w) Y.A (eval elt Y.env >>= λx=>call (.builtin "list.append") [.ref p,x] >>= λ_=>k) Q E s:=by
 refine Ca (Wh (he aa s τ H _ I hw) (λu s1 ⟨y,H4,I4,r4,hp,hz,q⟩=>?_) hx)
 obtain⟨z,Ga,n,r,hl,e⟩:=I4.mh hp;refine Ca (Nm cz ⟨_,e,rfl⟩ PySem.F.entry_list_append (SY _ _) (PySem.list_append p Ga.toArray n u (by rw[De];omega)) ⟨e,?_⟩)
 refine q _ (I4.xj (its':=Ga++[u]) (t':=s1.toks) hp e (by simp) (r.append (.cons r4 .nil)) ?_)
 rw[we,Ci];omega
end
def v8{Y:Cx} {env:Env} {g:TG} {it p:Addr} {fp:List Addr} {tn:Nat->Heap->Prop} {J:It} {R:Result->Shared->Prop} {iterPos:Pos} {rest:Sem Fin}
  (T:Turn Y.prog Y.w Y.K tg J fp it tn) (hc:Y.calm=true) (hE:Y.xe=λ_ _=>False) (hg:PG Y tg g) (hq:(Code.compLoop e 0 (.ref it) (.ref p) Y.env).quiet=true)
  (Io:∀(s:Shared)(Q:Fin->Shared->Prop),wpAny (model Y.prog Y.w) Y.A (pyNext (.ref it) >>= λr=>match r with
    |none=>pure (.done .next)
    |some v=>letOwnedTupleGo tg (.ref it) v >>= λ_=>assign tg Y.env v >>= λ_=>rest) Q (λ_ _=>False) s->
   wpAny (model Y.prog Y.w) (Y.A.under (.compLoop e 0 (.ref it) (.ref p) Y.env)) ((model Y.prog Y.w).den (.compLoop e 0 (.ref it) (.ref p) Y.env)) Q (λ_ _=>False) s)
  (pj:∀(τ:Df)(H:Hp)(s:Shared) (aa:List (Addr×Obj)) (vs:List V) (N:Hp->List V->Prop) (Q:Fin->Shared->Prop),xa Y aa τ H s->
   (tt τ H λk H3=>if k=true then te τ H3 λy H4=>H4 p=some (.lst vs)/\vs.length<sizeLine/\N (Ua H4 p (.lst (vs++[y]))) (vs++[y]) else N H3 vs)->
   (∀s' H' ws,xa Y aa τ H' s'->N H' ws->Q (.again (.compLoop e 0 (.ref it) (.ref p) Y.env)) s')->wpAny (model Y.prog Y.w) Y.A rest Q (λ_ _=>False) s)
  (W:Nat->Nat->Df->List V->Hp->Prop) {Qe:Hp->Prop}
  (step:∀i m τ vs H,W i m τ vs H->H p=some (.lst vs)/\((J.stop i H/\Qe H)\/(J.go i H/\∀x H',J.Qr i H x H'->g x τ H' λJj H2=>tt Jj H2 λk H3=>
   if k=true then te Jj H3 λy H4=>H4 p=some (.lst vs)/\vs.length<sizeLine/\∃m',m' < m/\W (i+1) m' Jj (vs++[y]) (Ua H4 p (.lst (vs++[y]))) else ∃m',m' < m/\W (i+1) m' Jj vs H3)))
  (hR:∀τ H s,xa Y [] τ H s->Qe H->R (.ok .next) s) (I:xa Y [] τ H s) (st:tn i s.heap) (fr:∀b∈fp,vh Y [] H b) (w:W i m τ vs H) :
  codeAny (model Y.prog Y.w) Y.A (.compLoop e 0 (.ref it) (.ref p) Y.env) R s:=by
 have qh:∀{H':Hp},(∀b∈fp,H' b=none)->∀b∈fp,vh Y [] H' b:=λhn b hb=>⟨hn b hb,(fr b hb).2⟩
 refine codeAny_loop hq (λn s'=>∃i F2 vs' H',xa Y [] F2 H' s'/\tn i s'.heap/\(∀b∈fp,H' b=none)/\W i n F2 vs' H') (λn s3 hI=>?_) m ⟨i,τ,vs,H,I,st,λb hb=>(fr b hb).1,w⟩
 obtain⟨i,Aw,B2,H3,I3,cw,Vu,w3⟩:=hI;refine Wh (Io s3 _ ?_) (λ_ _ q=>q) (λ_ _ q=>q.elim)
 obtain⟨hp,hs⟩:=step i n Aw B2 H3 w3;rcases hs with ⟨stop,qe⟩|⟨go,hs⟩
 .refine Ca (Ib (T.done Y rfl rfl rfl hc i [] s3 Aw H3 (λ_ _=>False) I3 (qh Vu) cw stop) λr s4 ⟨hr,I4⟩=>?_)
  subst hr;exact kb (hR Aw H3 s4 I4 qe)
 .refine Ca (Ib (T.item Y rfl rfl rfl hc i [] s3 Aw H3 (λ_ _=>False) I3 (qh Vu) cw go) λr s4 ⟨u,hr,h4⟩=>?_)
  subst hr;refine Ca (Ib h4 λ_ s5 ⟨x,H5,I5,r5,y5,st5,fr5⟩=>?_)
  have Rr:=I5.pinned (qh fr5) (T.obj _ _ st5);have gh:=hg _ s5 Aw H5 x u _ Rr r5 (hs x H5 y5);rw[hE]at gh;refine Ca (Ib gh λ_ s6 ⟨τ6,H6,I6,q6⟩=>?_)
  refine pj τ6 H6 s6 _ B2 (λH' ws=>∃m',m' < n/\W (i+1) m' τ6 ws H') _ I6 q6 λs7 H7 ws I7 ⟨m',hm,w7⟩=>?_
  refine⟨rfl,m',hm,i+1,τ6,ws,H7,I7.ie,T.keep _ _ _ st5 λb hb o e=>(I7.pin (b,o) (Zc _ (Zc _ (xN hb e)))).1,λb hb=>?_,w7⟩
  obtain⟨o,e,d⟩:=T.obj _ _ st5 b hb;exact(I7.pin (b,o) (Zc _ (Zc _ (xN hb e)))).2.1
section
variable{X:Cx}{scope:Scope}{is:List Nat}{elt tg iter c:Expr}{pos:Pos}{wi:TI}{g:TG}{te:TE}{tt:TT}
def pY{use:Option (Value->Sem Unit)} {TJ:Pos} {aa:List (Addr×Obj)} {s:Shared} {H:Hp} {Q:VK} {ifs:List Expr} {rest:Env->Value->Value->Sem Fin} (S:Jb X scope is) (hc:X.calm=true) (hi:L2.PI X tg iter wi) (hg:∀C ua za fp,PG (cC X scope C ua za fp) tg g)
  (To:∀it qa env,(Code.compLoop (.ListComp elt [⟨tg,iter,ifs,0⟩] scope pos) 0 it qa env).quiet=true)
  (Io:∀C ua za fp it p (s:Shared) (Q:Fin->Shared->Prop),wpAny (model X.prog X.w) X.A (pyNext (.ref it) >>= λr=>match r with
    |none=>pure (.done .next)
    |some v=>letOwnedTupleGo tg (.ref it) v >>= λ_=>assign tg (cC X scope C ua za fp).env v >>= λ_=>rest (cC X scope C ua za fp).env (.ref it) (.ref p)) Q (λ_ _=>False) s->
   wpAny (model X.prog X.w) (X.A.under (.compLoop (.ListComp elt [⟨tg,iter,ifs,0⟩] scope pos) 0 (.ref it) (.ref p) (cC X scope C ua za fp).env)) ((model X.prog X.w).den (.compLoop (.ListComp elt [⟨tg,iter,ifs,0⟩] scope pos) 0 (.ref it) (.ref p) (cC X scope C ua za fp).env)) Q (λ_ _=>False) s)
  (pj:∀C ua za fp it p (τ:Df) (H:Hp) (s:Shared) (aa:List (Addr×Obj)) (vs:List V) (N:Hp->List V->Prop) (Q:Fin->Shared->Prop),xa (cC X scope C ua za fp) aa τ H s->
   (tt τ H λk H3=>if k=true then te τ H3 λy H4=>H4 p=some (.lst vs)/\vs.length<sizeLine/\N (Ua H4 p (.lst (vs++[y]))) (vs++[y]) else N H3 vs)->
   (∀s' H' ws,xa (cC X scope C ua za fp) aa τ H' s'->N H' ws->Q (.again (.compLoop (.ListComp elt [⟨tg,iter,ifs,0⟩] scope pos) 0 (.ref it) (.ref p) (cC X scope C ua za fp).env)) s')->
   wpAny (model X.prog X.w) X.A (rest (cC X scope C ua za fp).env (.ref it) (.ref p)) Q (λ_ _=>False) s)
  (hs:∀x,foldedSetIterable iter X.env x=pure x) (I:xa X aa σ H s) (h:HK is wi g tt te σ H Q)
  (aI:∀C p H5 s5 m5 s3 H3 fp τ,s3.heap.objs.size<=C->xa X aa σ H3 s3->(∀b∈fp,vh X aa H3 b)->xa (cC X scope C s3 H3 fp) [] τ H5 s5->s5.heap.Ns C m5->Q (.ref p) H5->compPost (model X.prog X.w) X.A X.xe use Qf (.ref p) C (.ok .next) s5) :
  wpAny (model X.prog X.w) X.A (comprehension (.ListComp elt [⟨tg,iter,ifs,0⟩] scope pos) scope X.env TJ (newList []) false (eval iter X.env) use) Qf X.xe s:=by
 refine wpAny_comprehension_free (use:=use) rfl hs (R4 (S.cells I.ok)) S.kind S.names ?_
 refine Ib (hi aa s σ H _ I h) λv s1 h1=>Ib h1 λVI s2 h2=>?_
 obtain⟨it,fp,tn,J,H2,e,I2,T,fe,f2,hW⟩:=h2;subst e;refine Pq (t8 λYd Qo hkp Ho=>?_)
 have I3:xa X aa σ (Ua H2 s2.heap.objs.size (.lst [])) {s2 with heap:=s2.heap.push {cls:=.type "list",data:=.seq ([]:List Value).toArray} }:=I2.ap (t':=s2.toks) .nil (Dg _)
 obtain⟨W,⟨m,w0⟩,step⟩:=hW s2.heap.objs.size I2.fresh;have M0:∀b∈fp,b<s2.heap.objs.size:=λb hb=>let ⟨o,e,_⟩:=T.obj 0 _ fe b hb;dc e
 have bg:∀b∈fp,vh X aa (Ua H2 s2.heap.objs.size (.lst [])) b:=λb hb=>⟨by rw[bF (Hd (M0 b hb))];exact(f2 b hb).1,(f2 b hb).2⟩
 have hk:∀b o,(s2.heap.push {cls:=.type "list",data:=.seq ([]:List Value).toArray}).get? b=some o->Yd.get? b=some o:=hkp;have Ic:=R6 (t':=s2.toks) S hc I3 bg (λb hb=>ue (M0 b hb) (by rw[qg];exact Om _)) Qo hk Ho
 have xk:tn 0 Yd:=T.keep 0 _ _ fe λb _ o e=>hk b o (Tb _ e)
 have fr4:∀b∈fp,vh (cC X scope _ _ _ fp) [] (Ua H2 s2.heap.objs.size (.lst [])) b:=λb hb=>⟨(bg b hb).1,(Ic.ok.Rz b hb).1,Ic.ok.cj b hb,.inl hb,λx c e=>(Ic.ok.Rz b hb).2 x c e,λp hp=>absurd (show p∈([]:List (Addr×Obj)) from hp) (by simp)⟩
 have loop:=v8 (Y:=cC X scope _ _ _ fp) (e:=.ListComp elt [⟨tg,iter,ifs,0⟩] scope pos) (env:=X.env) (iterPos:=pos) T rfl rfl (hg _ _ _ fp) (To _ _ _) (Io _ _ _ fp it s2.heap.objs.size) (pj _ _ _ fp it s2.heap.objs.size) W step
  (R:=compPost (model X.prog X.w) X.A X.xe use Qf (.ref s2.heap.objs.size) (s2.heap.push {cls:=.type "list",data:=.seq ([]:List Value).toArray}).objs.size) (λτ H5 s5 I5 q5=>by
   obtain⟨m5,Lg,_⟩:=I5.loc;exact aI _ _ H5 s5 m5 _ _ fp τ (Cb _) I3 bg I5 Lg q5) Ic xk fr4 w0
 exact codeAny_compStart_list loop (T.self _ 0 _ _ _ xk loop)
def nQ{it qa:Value}:(Code.compLoop e 0 it qa env).quiet=true:=rfl
def Zt {Y : Cx} {it p : Addr}  {Q : Fin -> Shared -> Prop} (h : wpAny (model X.prog X.w) X.A (pyNext (.ref it) >>= fun r => match r with
        |none=>pure (.done .next)
        |some v=>letOwnedTupleGo tg (.ref it) v >>= λ_=>assign tg Y.env v >>= λ_=>(eval elt Y.env >>= λx=>call (.builtin "list.append") [.ref p,x] >>= λ_=>again (.compLoop (.ListComp elt [⟨tg,iter,[],0⟩] scope pos) 0 (.ref it) (.ref p) Y.env))) Q (λ_ _=>False) s) :
      wpAny (model X.prog X.w) (X.A.under (.compLoop (.ListComp elt [⟨tg,iter,[],0⟩] scope pos) 0 (.ref it) (.ref p) Y.env)) ((model X.prog X.w).den (.compLoop (.ListComp elt [⟨tg,iter,[],0⟩] scope pos) 0 (.ref it) (.ref p) Y.env)) Q (λ_ _=>False) s:=by
 show wpAny _ _ ((compTurn (.ListComp elt [⟨tg,iter,[],0⟩] scope pos) 0 (.ref it) (.ref p) Y.env).onRaise (λx=>do noteFrame x Y.env;theTreesLotGoes x)) _ _ s
 refine wpAny_noted ?_
 rw[t4];exact Ca (Gm (Wh h (λ_ _ q=>q) λ_ _ q=>q.elim))
def UX {Y : Cx} {it p : Addr}  {Q : Fin -> Shared -> Prop} (h : wpAny (model X.prog X.w) X.A (pyNext (.ref it) >>= fun r => match r with
        |none=>pure (.done .next)
        |some v=>letOwnedTupleGo tg (.ref it) v >>= λ_=>assign tg Y.env v >>= λ_=>(isTrue c Y.env (eval c Y.env) >>= λok=>if ok=true then (eval elt Y.env >>= λx=>call (.builtin "list.append") [.ref p,x] >>= λ_=>again (.compLoop (.ListComp elt [⟨tg,iter,[c],0⟩] scope pos) 0 (.ref it) (.ref p) Y.env))
          else again (.compLoop (.ListComp elt [⟨tg,iter,[c],0⟩] scope pos) 0 (.ref it) (.ref p) Y.env))) Q (λ_ _=>False) s) :
      wpAny (model X.prog X.w) (X.A.under (.compLoop (.ListComp elt [⟨tg,iter,[c],0⟩] scope pos) 0 (.ref it) (.ref p) Y.env)) ((model X.prog X.w).den (.compLoop (.ListComp elt [⟨tg,iter,[c],0⟩] scope pos) 0 (.ref it) (.ref p) Y.env)) Q (λ_ _=>False) s:=by
 show wpAny _ _ ((compTurn (.ListComp elt [⟨tg,iter,[c],0⟩] scope pos) 0 (.ref it) (.ref p) Y.env).onRaise (λx=>do noteFrame x Y.env;theTreesLotGoes x)) _ _ s
 refine wpAny_noted ?_
 rw[B4];exact Ca (Gm (Wh h (λ_ _ q=>q) λ_ _ q=>q.elim))
def uX:TT:=λ_ H Q=>Q true H
def Ft{Y:Cx}(hY:Y.xe=λ_ _=>False)(he:PE Y elt te){it p:Addr}(τ:Df)(H:Hp)(s:Shared)(aa:List (Addr×Obj))(vs:List V)(N:Hp->List V->Prop)(Q:Fin->Shared->Prop)(I:xa Y aa τ H s)
  (h:uX τ H λk H3=>if k=true then te τ H3 λy H4=>H4 p=some (.lst vs)/\vs.length<sizeLine/\N (Ua H4 p (.lst (vs++[y]))) (vs++[y]) else N H3 vs)
  (mono:∀(Q Q':VK),(∀v H',Q v H'->Q' v H')->te τ H Q->te τ H Q')
  (q:∀s' H' ws,xa Y aa τ H' s'->N H' ws->Q (.again (.compLoop (.ListComp elt [⟨tg,iter,[],0⟩] scope pos) 0 (.ref it) (.ref p) Y.env)) s') :
  wpAny (model Y.prog Y.w) Y.A (eval elt Y.env >>= λx=>call (.builtin "list.append") [.ref p,x] >>= λ_=>again (.compLoop (.ListComp elt [⟨tg,iter,[],0⟩] scope pos) 0 (.ref it) (.ref p) Y.env)) Q (λ_ _=>False) s:=by
 have h':te τ H λy H4=>H4 p=some (.lst vs)/\vs.length<sizeLine/\N (Ua H4 p (.lst (vs++[y]))) (vs++[y]):=h
 exact oQ he (by rw[hY];exact λ_ _ z=>z) I (mono _ _ (λy H4 ⟨a,b,n⟩=>⟨a,b,λs' I'=>kb (q s' _ _ I' n)⟩) h')
end
section
variable{K:Frag} {st:ya}
def Ϯ(is:List Nat):∀st:ya,(ae is st).length=st.length:=by
 induction is with
 |nil=>exact λ_=>rfl
 |cons i is ih=>intro st;show (ae is (st.set i none)).length=_;rw[ih,vg]
def Ls(is:List Nat):∀(st:ya)(j:Nat)(x:Sl),(ae is st)[j]?=some (some x)->st[j]?=some (some x)/\j∉is:=by
 induction is with
 |nil=>exact λσ j v h=>⟨h,by simp⟩
 |cons i is ih=>
  intro σ j v h;obtain⟨h1,h2⟩:=ih (σ.set i none) j v h;rw[ve]at h1
  by_cases e:i=j
  .subst e;rw[Na rfl]at h1;split at h1<;>cases h1
  .rw[La e]at h1;exact⟨h1,λz=>(Nb.mp z).elim (λz=>e z.symm) h2⟩
def ZC(is:List Nat):∀(σ:Df)(j:Nat),j∉is->(Bm is σ)[j]?=σ[j]?:=by
 induction is with
 |nil=>exact λσ j _=>rfl
 |cons i is ih=>
  intro σ j h;show (Bm is (σ.set i none))[j]?=_;rw[ih _ j λz=>h (Bb _ z),ve,La (show ¬ i=j from λz=>h (z ▸ xb))]
theorem RS.ae(is:List Nat)(r:RS K B A H st σ):RS K B A H (Pu.ae is st) (Bm is σ) where
 len:=by rw[Ϯ,QR,r.len]
 own:=r.own
 ye:=r.ye
 val:=λi d e=>by
  obtain⟨e1,h⟩:=Ls is st i _ e;rw[ZC is σ i h];exact r.val i d e1
 lst:=λi kk xs e=>by
  obtain⟨e1,h⟩:=Ls is st i _ e;obtain⟨a,o,vs,e2,m,h1,ko,q,u⟩:=r.lst i kk xs e1;refine⟨a,o,vs,by rw[ZC is σ i h];exact e2,m,h1,ko,q,λj k' ys ej Qz=>?_⟩
  obtain⟨e3,h3⟩:=Ls is st j _ ej;rw[ZC is σ j h3]at Qz;exact u j k' ys e3 Qz
def RS.weaken(r:RS K B A H st σ)(hl:st'.length=st.length)(h:∀(j:Nat)(x:Sl),st'[j]?=some (some x)->st[j]?=some (some x)):RS K B A H st' σ where
 len:=hl.trans r.len
 own:=r.own
 ye:=r.ye
 val:=λi d e=>r.val i d (h i _ e)
 lst:=λi kk xs e=>by
  obtain⟨a,o,vs,e2,m,h1,ko,q,u⟩:=r.lst i kk xs (h i _ e);exact⟨a,o,vs,e2,m,h1,ko,q,λj k' ys ej Qz=>u j k' ys (h j _ ej) Qz⟩
def mem_mid{p b:Addr}:b∈A++p::B↔b=p\/b∈A++B:=by
 simp only[List.mem_append,mem_cons];constructor
 .rintro(h|h|h)
  .exact .inr (.inl h)
  .exact .inl h
  .exact .inr (.inr h)
 .rintro(h|h|h)
  .exact .inr (.inl h)
  .exact .inl h
  .exact .inr (.inr h)
def RR{p:Addr} (hp:H p=none):aY (hide (A++B) H) (hide (A++p::B) (Ua H p o)):=λb u q=>by
 have q1:=bA _ _ _ _ q;have hb:b∉A++B:=λz=>by rw[cY z]at q;cases q
 have ne:b≠p:=bB q1 hp;rw[bK (show b∉A++p::B from λz=>(mem_mid.mp z).elim ne hb),bF ne]
 exact q1
def RS.grow(r:RS K B A H st σ){p:Addr} (hp:H p=none):RS K (p::B) A (Ua H p (.lst vs)) st σ where
 len:=r.len
 own:=λa ha=>by
  by_cases e:a=p
  .subst e;rw[bL];rfl
  .rw[bF e];exact r.own a ((mem_mid.mp ha).resolve_left e)
 ye:=λa ha hb=>by
  rcases Nb.mp hb with rfl|hb
  .exact r.own.free hp (Dd _ ha)
  .exact r.ye a ha hb
 val:=λj d' e=>let ⟨u,e1,q⟩:=r.val j d' e;⟨u,e1,q.mono (RR hp)⟩
 lst:=λj kk xs e=>by
  obtain⟨a,o,vs',e1,m,h1,ko,q,u⟩:=r.lst j kk xs e;exact⟨a,o,vs',e1,m,by rw[bF (bB h1 hp)];exact h1,ko,q.mono (RR hp),u⟩
def RS.put{p:Addr}(r:RS K (p::B) A H st σ):RS K (p::B) A (Ua H p (.lst vs)) st σ:=by
 have hh:hide (A++p::B) (Ua H p (.lst vs))=hide (A++p::B) H:=oV (mem_mid.mpr (.inl rfl));refine⟨r.len,λb hb=>?_,r.ye,λj d e=>by rw[hh];exact r.val j d e,λj kk xs e=>?_⟩
 .by_cases e:b=p
  .subst e;rw[bL];rfl
  .rw[bF e];exact r.own b hb
 .obtain⟨a,o,vs',e1,m,h1,ko,q,u⟩:=r.lst j kk xs e;refine⟨a,o,vs',e1,m,?_,ko,by rw[hh];exact q,u⟩
  have:a≠p:=λz=>r.ye a m (z ▸ xb)
  rw[bF this];exact h1
end
def Uj(is:List Nat)(t:Tg):Prop:=∀d st s2,t d st=.ok s2->s2.length=st.length/\∀(j:Nat),j∉is->s2[j]?=st[j]?
def nD:Uj [i] (ib i):=λd st s2 h=>by
 cases h;refine⟨vg,λj hj=>?_⟩
 rw[ve,La λz=>hj (by simp[z])]
def xA:List Str->Bool
 |[]=>true
 |x::r=>!r.contains x&&xA r
theorem kX:∀{l:List Str},xA l=true->l.Nodup
 |[],_=>.nil
 |x::r,h=>by
  unfold xA at h;simp only[and_eq_true,Bool.not_eq_true']at h;exact Gf.mpr ⟨λz=>by rw[List.contains_iff_mem.mpr z]at h;exact Bool.noConfusion h.1,kX h.2⟩
def VX(scope:Scope)(outer:List (Str×NameKind))(N:List Str)(is:List Nat):Bool:=
 scope.kind == .function&&xA (scope.names.map (·.1))&&scope.names.all (λx=>x.2 !=.free||outer.lookup x.1==some .cell||outer.lookup x.1==some .free) &&
  (List.range N.length).all λi=>(scope.names.lookup (N.getD i "") !=some .local&&scope.names.lookup (N.getD i "") !=some .cell)||is.contains i
def Jb.of{is:List Nat}(h:VX scope X.env.scope.names X.N is=true):Jb X scope is:=by
 unfold VX at h;simp only[and_eq_true,List.all_eq_true]at h;obtain⟨⟨⟨h1,h0⟩,h2⟩,h3⟩:=h;refine⟨by simpa using h1,kX h0,λx hx hf=>?_,λi x e hl=>?_⟩
 .have:=h2 x hx;simp only[or_eq_true,bne_iff_ne,ne_eq,beq_iff_eq]at this;rcases this with (z|z)|z
  .exact absurd hf z
  .exact .inl z
  .exact .inr z
 .have hi:i<X.N.length:=(Kd.mp e).1;have:=h3 i (Qc.mpr hi);rw[xf,e]at this;simp only[getD_some,or_eq_true,and_eq_true,bne_iff_ne,ne_eq]at this;rcases this with ⟨z1,z2⟩|z
  .rcases hl with hl|hl
   .exact absurd hl z1
   .exact absurd hl z2
  .simpa using z
def ϯ{K:Frag} (Q Q':VK) (m:∀v H',Q v H'->Q' v H') (h:tI K B f τ H Q):tI K B f τ H Q':=
 let ⟨A,st,d,rs,hd,q⟩:=h;⟨A,st,d,rs,hd,λv H' s r=>m v H' (q v H' s r)⟩
def yk(K:Frag)(f:Ex):TE:=λτ H Q=>∃B,tI K B f τ H Q
def HA(K:Frag)(f:Ex):TT:=λτ H Q=>∃B,tT K B f τ H Q
def GK(K:Frag)(t:Tg):TG:=λv τ H Q=>∃B,tG K B t v τ H Q
def Cq(h:∀B,PE X e (tI X.K B f)):PE X e (yk X.K f):=λaa s σ H Q I ⟨B,q⟩=>h B aa s σ H Q I q
def WX(h:∀B,PT X e (tT X.K B f)):PT X e (HA X.K f):=λaa s σ H Q I ⟨B,q⟩=>h B aa s σ H Q I q
def ao{t:Tg}(h:∀B,PG X e (tG X.K B t)):PG X e (GK X.K t):=λaa s σ H v u Q I r ⟨B,q⟩=>h B aa s σ H v u Q I r q
def wX{K:Frag} (Q Q':VK) (m:∀v H',Q v H'->Q' v H') (h:yk K f τ H Q):yk K f τ H Q':=let ⟨B,q⟩:=h;⟨B,ϯ Q Q' m q⟩
def vq{K:Frag} {is:List Nat} {t:Tg} {c:Ex} {H:Hp} (Rb:Uj is t)
  (htt:∀τ H Q,HA K c τ H Q->tt τ H Q) {st:ya} (rs:RS K B A H st σ) (hx:it st=.ok xs) (hl:xs.length<=big) (hy:iQ t c f (ae is st) xs=.ok ys) {Q:VK}
  (q:∀p vs H1 H',aY H H1->H1 p=none->aY H1 H'->H' p=some (.lst vs)->bC K (hide (A++p::B) H') ys vs->Q (.ref p) H'):HK is (Oh K B it) (GK K t) tt (yk K f) σ H Q:=by
 refine⟨A,st,xs,rs,hx,λJ H1 s1 Yo p hp=>?_⟩
 have vn:=rs.mono s1;refine⟨λi m τ vs H'=>m=xs.length-i/\i<=xs.length/\vs.length<=i/\H' p=some (.lst vs)/\aY H1 H'/\RS K (p::B) A H' (ae is st) τ/\
   ∃ds rest,bC K (hide (A++p::B) H') ds vs/\iQ t c f (ae is st) (xs.drop i)=.ok rest/\ds++rest=ys,⟨xs.length,by simp,Dg _,Dg _,bL,bT hp,(vn.ae is).grow hp,[],ys,.nil,by rw[drop_zero];exact hy,rfl⟩,?_⟩
 rintro i m τ vs H' ⟨rfl,hi,V0,jk,s2,ni,ds,rest,ph,hr,ag⟩;refine⟨jk,?_⟩;have mv:∀a,a∈(p::A)++B↔a∈A++p::B:=λa=>by
  rw[mem_mid];exact Nb
 have le:Le A H1 (p::A) H':=λb u z=>by
  have z1:=bA _ _ _ _ z;have hb:b∉A:=λw=>by rw[cY w]at z;cases z
  have ne:b≠p:=bB z1 hp;rw[bK (show b∉p::A from λw=>(Nb.mp w).elim ne hb)]
  exact s2 b u z1
 obtain⟨i1,i2⟩:=Yo (p::A) H' le (λa ha=>ni.own a ((mv a).mp ha)) i
 by_cases Qb:i<xs.length
 .have fi:xs[i]?=some xs[i]:=Pc Qb;obtain⟨go,yl⟩:=i1 _ fi;rw[ju Qb]at hr;obtain⟨fe,rj,h5⟩:=R.ja hr;obtain⟨cb,hcb,h6⟩:=R.ja h5;obtain⟨k,rfl,h7⟩:=vH h6;refine .inr ⟨go,λx H2 y=>?_⟩
  obtain⟨oi,rx⟩:=yl x H2 y;have jk:=oi _ _ jk;have s2:=s2.trans oi;have ni:=ni.mono oi;have ph:=ph.mono (aY.hide oi);have bw:Va K (hide (A++p::B) H2) xs[i] x:=rx.mono (fW λa ha=>(mv a).mpr ha)
  obtain⟨sl,sg⟩:=Rb _ _ _ rj;have back:∀(j:Nat)(z:Sl),(ae is st)[j]?=some (some z)->fe[j]?=some (some z):=λj z ez=>by rw[sg j (Ls is st j z ez).2];exact ez
  refine⟨p::B,A,ae is st,xs[i],fe,ni,bw,rj,λJj Wl=>htt _ _ _ ⟨p::B,A,fe,k,Wl,hcb,λH3 s3=>?_⟩⟩
  cases k with
  |true=>
   obtain⟨y',Ol,h8⟩:=R.ja h7;obtain⟨Bj,jh,h9⟩:=R.ja h8;cases h9;refine⟨p::B,A,fe,y',Wl.mono s3,Ol,λv H4 s4 r4=>⟨s4 _ _ (s3 _ _ jk),?_,xs.length-(i+1),by omega,rfl,Qb,by rw[we,Ci];omega,bL,?_,?_,ds++[y'],Bj,?_,jh,by rw[wl];exact ag⟩⟩
   .have:sizeLine=16777216:=by decide
    have hbg:=jH;omega
   .exact λb u z=>by rw[bF (bB z hp)];exact s4 _ _ (s3 _ _ (s2 b u z))
   .exact(((Wl.mono s3).mono s4).weaken (by rw[sl]) back).put
   .rw[oV (mem_mid.mpr (.inl rfl))];exact(ph.mono (aY.hide (s3.trans s4))).append (.cons r4 .nil)
  |false=>exact⟨xs.length-(i+1),by omega,rfl,Qb,by omega,s3 _ _ jk,s2.trans s3,(Wl.mono s3).weaken (by rw[sl]) back,ds,rest,ph.mono (aY.hide s3),h7,ag⟩
 .have e:i=xs.length:=by omega
  subst e;rw[Mz]at hr;cases hr;rw[Di]at ag;subst ag;exact .inl ⟨i2 (Cb _),q p vs H1 H' s1 hp s2 jk ph⟩
section
variable {iter c:Expr} {t:Tg} {u:Ex}
def nX{Y:Cx} (hY:Y.xe=λ_ _=>False) (he:PE Y elt te) (ht:PT Y c tt) {it p:Addr} (τ:Df) (H:Hp) (s:Shared) (aa:List (Addr×Obj)) (vs:List V) (N:Hp->List V->Prop) (Q:Fin->Shared->Prop) (I:xa Y aa τ H s)
  (h:tt τ H λk H3=>if k=true then te τ H3 λy H4=>H4 p=some (.lst vs)/\vs.length<sizeLine/\N (Ua H4 p (.lst (vs++[y]))) (vs++[y]) else N H3 vs)
  (mono:∀H (Q Q':VK),(∀v H',Q v H'->Q' v H')->te τ H Q->te τ H Q')
  (q:∀s' H' ws,xa Y aa τ H' s'->N H' ws->Q (.again (.compLoop (.ListComp elt [⟨tg,iter,[c],0⟩] scope pos) 0 (.ref it) (.ref p) Y.env)) s') :
  wpAny (model Y.prog Y.w) Y.A (isTrue c Y.env (eval c Y.env) >>= fun ok => if ok = true then (eval elt Y.env >>= fun x => call (.builtin "list.append") [.ref p, x] >>= fun _ => again (.compLoop (.ListComp elt [⟨tg, iter, [c], 0⟩] scope pos) 0 (.ref it) (.ref p) Y.env))
        else again (.compLoop (.ListComp elt [⟨tg,iter,[c],0⟩] scope pos) 0 (.ref it) (.ref p) Y.env)) Q (λ_ _=>False) s:=by
 have S0:=ht aa s τ H _ I h;rw[hY]at S0;refine Ca (Ib S0 λk s1 ⟨H1,I1,q1⟩=>?_)
 cases k with
 |true=>
  rw[Na rfl];have q1:te τ H1 λy H4=>H4 p=some (.lst vs)/\vs.length<sizeLine/\N (Ua H4 p (.lst (vs++[y]))) (vs++[y]):=q1
  exact oQ he (by rw[hY];exact λ_ _ z=>z) I1 (mono _ _ _ (λy H4 ⟨a,b,n⟩=>⟨a,b,λs' I'=>kb (q s' _ _ I' n)⟩) q1)
 |false=>
  rw[La Ef];exact kb (q s1 H1 vs I1 q1)
def ky{Q:VK}{st:ya} {p:Addr} {H':Hp} (rs:RS X.K B A H st σ) (q:∀v H',aY H H'->Va X.K (hide (A++B) H') (.lst ys) v->Q v H') (s1:aY H H1) (hp:H1 p=none) (s2:aY H1 H')
  (hv:H' p=some (.lst vs)) (r:bC X.K (hide (A++p::B) H') ys vs):Q (.ref p) H':=
 q _ H' (s1.trans s2) (gK.mpr ⟨p,vs,rfl,(by rw[bK ((rs.own.mono s1).free hp)];exact hv),r.mono (fW λa ha=>mem_mid.mpr (.inr ha))⟩)
def uA(is:List Nat)(Rb:Uj is t)(S:Jb X scope is)(hi:L2.PI X tg iter (Oh X.K B it))(hg:∀(B:List Addr)(C:Addr)(ua:Shared)(za:Hp)(fp:List Addr),PG (cC X scope C ua za fp) tg (tG X.K B t))
  (he:∀(B:List Addr)(C:Addr)(ua:Shared)(za:Hp)(fp:List Addr),PE (cC X scope C ua za fp) elt (tI X.K B f)) (hc:X.calm=true) (hs:∀x,foldedSetIterable iter X.env x=pure x:=by intro _;rfl) :
  PE X (.ListComp elt [⟨tg,iter,[],0⟩] scope pos) (tI X.K B (dI is t it cH f)):=by
 intro aa s σ H Q I h;obtain⟨A,st,d,rs,hd,q⟩:=h;obtain⟨xs,hx,h2⟩:=R.ja hd;obtain⟨hl,h3⟩:=aJ h2;obtain⟨ys,hy,h4⟩:=R.ja h3;cases h4;rw[eval_ListComp];refine pY (use:=none) (Qf:=EP X aa σ Q) (Q:=Q) (tt:=uX) (te:=yk X.K f) (rest:=λenv it p=>eval elt env >>= λx=>call (.builtin "list.append") [p,x] >>= λ_=>again (.compLoop (.ListComp elt [⟨tg,iter,[],0⟩] scope pos) 0 it p env)) S hc hi (λC ua za fp=>ao λB=>hg B C ua za fp) (λ_ _ _=>nQ)
  (λC ua za fp it p s Q h=>Zt (Y:=cC X scope C ua za fp) h) (λC ua za fp it p τ H s aa vs N Q I h q=>Ft (Y:=cC X scope C ua za fp) rfl (Cq λB=>he B C ua za fp) τ H s aa vs N Q I h (λQ Q' m h=>wX Q Q' m h) q) hs I
  (vq Rb (λτ H Q ⟨B,A,st,k,rs,hk,q⟩=>?_) rs hx hl hy λp vs H1 H' s1 hp s2 hv r=>ky rs q s1 hp s2 hv r) λC p H5 s5 m5 s3 H3 fp τ hC I3 bg I5 Lg q5=>⟨m5,Lg,λh' Vo=>⟨.ref p,H5,Mx I3 bg hC I5 Vo,rfl,q5⟩⟩
 cases hk;exact q H (aY.refl _)
def jx(is:List Nat)(Rb:Uj is t)(S:Jb X scope is)(hi:L2.PI X tg iter (Oh X.K B it))(hg:∀(B:List Addr)(C:Addr)(ua:Shared)(za:Hp)(fp:List Addr),PG (cC X scope C ua za fp) tg (tG X.K B t))
  (ht:∀(B:List Addr)(C:Addr)(ua:Shared)(za:Hp)(fp:List Addr),PT (cC X scope C ua za fp) c (tT X.K B u))
  (he:∀(B:List Addr)(C:Addr)(ua:Shared)(za:Hp)(fp:List Addr),PE (cC X scope C ua za fp) elt (tI X.K B f)) (hc:X.calm=true) (hs:∀x,foldedSetIterable iter X.env x=pure x:=by intro _;rfl) :
  PE X (.ListComp elt [⟨tg,iter,[c],0⟩] scope pos) (tI X.K B (dI is t it u f)):=by
 intro aa s σ H Q I h;obtain⟨A,st,d,rs,hd,q⟩:=h;obtain⟨xs,hx,h2⟩:=R.ja hd;obtain⟨hl,h3⟩:=aJ h2;obtain⟨ys,hy,h4⟩:=R.ja h3;cases h4;rw[eval_ListComp];exact pY (use:=none) (Qf:=EP X aa σ Q) (Q:=Q) (tt:=HA X.K u) (te:=yk X.K f) (rest:=λenv it p=>isTrue c env (eval c env) >>= λok=>if ok=true then (eval elt env >>= λx=>call (.builtin "list.append") [p,x] >>= λ_=>again (.compLoop (.ListComp elt [⟨tg,iter,[c],0⟩] scope pos) 0 it p env)) else again (.compLoop (.ListComp elt [⟨tg,iter,[c],0⟩] scope pos) 0 it p env)) S hc hi (λC ua za fp=>ao λB=>hg B C ua za fp) (λ_ _ _=>nQ)
  (λC ua za fp it p s Q h=>UX (Y:=cC X scope C ua za fp) h) (λC ua za fp it p τ H s aa vs N Q I h q=>nX (Y:=cC X scope C ua za fp) rfl (Cq λB=>he B C ua za fp) (WX λB=>ht B C ua za fp) τ H s aa vs N Q I h (λ_ Q Q' m h=>wX Q Q' m h) q) hs I
  (vq Rb (λτ H Q h=>h) rs hx hl hy λp vs H1 H' s1 hp s2 hv r=>ky rs q s1 hp s2 hv r) λC p H5 s5 m5 s3 H3 fp τ hC I3 bg I5 Lg q5=>⟨m5,Lg,λh' Vo=>⟨.ref p,H5,Mx I3 bg hC I5 Vo,rfl,q5⟩⟩
end
end Pu
namespace Pu
open PySem PySem.Spec PyProof.Rows L2 PySem.SeqAt
section
variable{X:Cx}{aa:List (Addr×Obj)}{σ:Df}{H:Hp}{s:Shared}
def hU(I:xa X aa σ H s) {xs ys:List V} (h1:jc X.K H a xs) (h2:af X.K H a ys):False:=by
 obtain⟨Ga,_,⟨o,n,e,hc,_⟩,_⟩:=I.list h1;obtain⟨ig,_,⟨o2,e2,jv,_⟩,_⟩:=I.tuple h2;rw[e]at e2;cases e2;rw[hc]at jv;simp at jv
mutual
theorem Va.inj(I:xa X aa σ H s):∀{x y:D}{v:V},plain x=true->plain y=true->Va X.K H x v->Va X.K H y v->x=y
 |x,y,v,px,py,h,h'=>by
  cases x<;>first|(simp at px;done)|skip
  all_goals cases y<;>first|(simp at py;done)|skip
  case tup.tup=>
   obtain⟨a,vs,e,hq,hr⟩:=iI h;obtain⟨a',vs',e',sd,Pe⟩:=iI h';subst e;cases e';cases I.Pf hq sd;rw[bC.inj I (by simpa using px) (by simpa using py) hr Pe]
  case lst.lst=>
   obtain⟨a,vs,e,hq,hr⟩:=gK.mp h;obtain⟨a',vs',e',sd,Pe⟩:=gK.mp h';subst e;cases e';cases I.qf hq sd;rw[bC.inj I (by simpa using px) (by simpa using py) hr Pe]
  case tup.lst=>
   obtain⟨a,vs,e,hq,hr⟩:=iI h;obtain⟨a',vs',e',sd,Pe⟩:=gK.mp h';subst e;cases e';exact(hU I sd hq).elim
  case lst.tup=>
   obtain⟨a,vs,e,hq,hr⟩:=gK.mp h;obtain⟨a',vs',e',sd,Pe⟩:=iI h';subst e;cases e';exact(hU I hq sd).elim
  all_goals simp only[sV,cX,bM,eN,Xr,gK]at h h'
  all_goals first|(obtain⟨_,_,h',_⟩:=h';subst h';cases h;done)|(obtain⟨_,_,h,_⟩:=h;subst h;cases h';done)|(subst h;cases h';first|rfl|done)|(subst h;injection h' with h';injection h' with h';rw[show _=_ by simpa using congrArg Array.toList h'])
theorem bC.inj(I:xa X aa σ H s):∀{xs ys:List D}{vs:List V},eV xs=true->eV ys=true->bC X.K H xs vs->bC X.K H ys vs->xs=ys
 |[],ys,vs,px,py,h,h'=>by
  have e:=dD.mp h;subst e;cases ys with
  |nil=>rfl
  |cons y ys=>obtain⟨_,_,h',_⟩:=bN.mp h';cases h'
 |x::xs,ys,vs,px,py,h,h'=>by
  obtain⟨v,r,e,h1,h2⟩:=bN.mp h;subst e;cases ys with
  |nil=>exact nomatch dD.mp h'
  |cons y ys=>
   obtain⟨v',r',e',Wz,OH⟩:=bN.mp h';cases e';simp only[qX,and_eq_true]at px py;rw[Va.inj I px.1 py.1 h1 Wz,bC.inj I px.2 py.2 h2 OH]
end
mutual
theorem SR:∀x:D,plain x=true->bc x x=true
 |.Gb,_=>by unfold bc;rfl
 |.bl b,_=>by unfold bc;simp
 |.int i,_=>by unfold bc;simp
 |.str x,_=>by unfold bc;simp
 |.tup x,h=>by unfold bc;exact CC x (by simpa using h)
 |.lst x,h=>by unfold bc;exact CC x (by simpa using h)
 |.jd _ _ _,h=>by simp at h
 |.ins _ _ _,h=>by simp at h
 |.Ei _ _ _,h=>by simp at h
 |.fn _,h=>by simp at h
theorem CC:∀x:List D,eV x=true->jT x x=true
 |[],_=>by unfold jT;rfl
 |a::x,h=>by
  simp only[qX,and_eq_true]at h;unfold jT;rw[SR a h.1,CC x h.2];rfl
end
def pairE(xs ys:List D)(j:Nat):Bool:=bc (xs.getD j .Gb) (ys.getD j .Gb)
theorem kx:∀xs ys:List D,((List.range (min xs.length ys.length)).all (pairE xs ys)&&xs.length==ys.length)=jT xs ys
 |[],[]=>by unfold jT;rfl
 |[],_::_=>by unfold jT;simp
 |_::_,[]=>by unfold jT;simp
 |x::xs,y::ys=>by
  have ih:=kx xs ys;have e:jT (x::xs) (y::ys)=(bc x y&&jT xs ys):=by conv=>lhs;unfold jT
  rw[e,<-ih];have hm:min (x::xs).length (y::ys).length=min xs.length ys.length+1:=by simp only[length_cons];omega
  rw[hm,EZ,all_cons,List.all_map];have e1:pairE (x::xs) (y::ys) 0=bc x y:=rfl;have e2:(pairE (x::xs) (y::ys) ∘ Nat.succ)=pairE xs ys:=rfl;rw[e1,e2,Bool.and_assoc];congr 1;simp
def S6(h:xs.length≠ys.length):jT xs ys=false:=by
 rw[<-kx];simp[h]
inductive Vw (X:Cx) (H:Hp) (s:Shared):D->Value->Prop
 |Gb:Vw X H s .Gb .none
 |bl (b:Bool):Vw X H s (.bl b) (.bool b)
 |int (i:Int) (t:Tok):Vw X H s (.int i) (.int i t)
 |str (x:List Nat) (t:Tok):Vw X H s (.str x) (.str ⟨x.toArray⟩ t)
 |tup {x:List D} {ws:List V} {Ga:List Value} {l:Addr} (hq:s.heap.IsTuple l Ga.toArray) (hr:bC X.K H x ws) (hv:Ea ws Ga):Vw X H s (.tup x) (.ref l)
 |lst {x:List D} {ws:List V} {Ga:List Value} {l:Addr} (hq:s.heap.IsList l Ga.toArray) (hr:bC X.K H x ws) (hv:Ea ws Ga):Vw X H s (.lst x) (.ref l)
def Vw.of(I:xa X aa σ H s){x:D} {a:Value} (h:Va X.K H x v) (r:RelV v a) (p:plain x=true):Vw X H s x a:=by
 cases x with
 |Gb=>have e:=sV.mp h;subst e;have e:a=Value.none:=r;subst e;exact .Gb
 |bl b=>have e:=cX.mp h;subst e;have e:a=Value.bool b:=r;subst e;exact .bl b
 |int i=>have e:=bM.mp h;subst e;obtain⟨t,e⟩:∃t,a=Value.int i t:=r;subst e;exact .int i t
 |str x=>have e:=eN.mp h;subst e;obtain⟨t,e⟩:∃t,a=Value.str ⟨x.toArray⟩ t:=r;subst e;exact .str x t
 |tup x=>obtain⟨l,ws,e,hq,hr⟩:=iI h;subst e;have e:a=Value.ref l:=r;subst e;obtain⟨Ga,rv,pl,_⟩:=I.tuple hq;exact .tup pl hr rv
 |lst x=>obtain⟨l,ws,e,hq,hr⟩:=gK.mp h;subst e;have e:a=Value.ref l:=r;subst e;obtain⟨Ga,rv,pl,_⟩:=I.list hq;exact .lst pl.isList hr rv
 |_=>simp at p
def ϰ{A:Around}{x:D}{a b:Value}{k:Bool}(wa:Vw X H s x a)(wb:Vw X H s y b)(h:RcAt A s a b k)(hs:a=b->k=true):EqAt A s a b k:=λprog w E Q hq=>by
 unfold eqBool;refine Ah (ak (λe=>?_) λ_=>?_)
 .rw[hs (eq_of_beq e)]at hq;exact Ca (ir (kb hq))
 .cases wa<;>cases wb<;>exact Ca (h prog w E _ (Nq hq))
def C_{u:V}{a:Value}(h:RelV v a)(h':RelV u a):v=u:=by
 cases v<;>(first|subst h|(obtain⟨_,h⟩:=h;subst h)) <;> cases u<;>first|(cases h';done)|(cases h';rfl)|(obtain⟨_,h'⟩:=h';cases h';done)|(obtain⟨_,h'⟩:=h';cases h';rfl)
def TR(x y:List Nat):bc (.str x) (.str y)=((⟨x.toArray⟩:Str)==⟨y.toArray⟩):=by rw[<-str_beq];unfold bc;simp
def bL8{A:Around}{a b:Value}{k k':Bool}(h:RcAt A s a b k)(e:k=k'):RcAt A s a b k':=e ▸ h
def bL9{A:Around}{a b:Value}{k k':Bool}(h:RcNeAt A s a b k)(e:k=k'):RcNeAt A s a b k':=e ▸ h
def UR(I:xa X aa σ H s){x:D}{A:Around}{u:V}{a b:Value}(ra:Va X.K H x v)(rb:Va X.K H y u)(va:RelV v a)(vb:RelV u b)(px:plain x=true)(py:plain y=true)(h:RcAt A s a b (bc x y)):EqAt A s a b (bc x y):=
 ϰ (Vw.of I ra va px) (Vw.of I rb vb py) h λe=>by rw[Va.inj I px py ra (C_ (e ▸ va) vb ▸ rb)];exact SR y py
mutual
theorem ly(I:xa X aa σ H s)(x y:D)(A:Around)(v u:V)(a b:Value)(ra:Va X.K H x v)(rb:Va X.K H y u)(va:RelV v a)(vb:RelV u b)(hu:A.units+de x<cLine)(px:plain x=true)(py:plain y=true):RcAt A s a b (bc x y)/\RcNeAt A s a b (!bc x y):=by
 have Cc:A.units<cLine:=Nat.lt_of_le_of_lt (Nat.le_add_right _ _) hu;have wa:=Vw.of I ra va px;have wb:=Vw.of I rb vb py;clear ra rb va vb;cases wa<;>cases wb
 case tup.tup x _ i1 _ hq hr hv y _ i2 _ sd Pe Ml=>
  have hd:de (.tup x)=jX x+1:=by conv=>lhs;unfold de
  have:=DC I x y A.in1 _ _ _ _ hr Pe hv Ml (by show A.units+1+jX x<cLine;omega) (by simpa using px) (by simpa using py)
  have e:bc (.tup x) (.tup y)=jT x y:=by conv=>lhs;unfold bc
  rw[e,<-kx,<-hr.length,<-Pe.length,hv.length,Ml.length,<-De,<-De];exact⟨RcAt.tuples hq sd Cc λj j1 j2=>by simpa using this j (by simpa using j1) (by simpa using j2),RcNeAt.tuples hq sd Cc λj j1 j2=>by simpa using this j (by simpa using j1) (by simpa using j2)⟩
 case lst.lst x _ i1 _ hq hr hv y _ i2 _ sd Pe Ml=>
  have hd:de (.lst x)=jX x+1:=by conv=>lhs;unfold de
  have:=DC I x y A.in1 _ _ _ _ hr Pe hv Ml (by show A.units+1+jX x<cLine;omega) (by simpa using px) (by simpa using py)
  have e:bc (.lst x) (.lst y)=jT x y:=by conv=>lhs;unfold bc
  have n1:i1.length=x.length:=by rw[<-hv.length,hr.length]
  have n2:i2.length=y.length:=by rw[<-Ml.length,Pe.length]
  rw[e]
  by_cases hz:i1.length=i2.length
  .rw[show jT x y=(List.range i1.toArray.size).all (pairE x y) by rw[<-kx,De,n1];simp[show x.length=y.length by omega]]
   exact⟨RcAt.lists hq sd (by simpa using hz) Cc λj j1 j2=>by simpa using this j (by simpa using j1) (by simpa using j2),RcNeAt.lists hq sd (by simpa using hz) Cc λj j1 j2=>by simpa using this j (by simpa using j1) (by simpa using j2)⟩
  .rw[S6 (by omega)]
   exact⟨RcAt.lists_lengths hq sd (by simpa using hz) Cc,RcNeAt.lists_lengths hq sd (by simpa using hz) Cc⟩
 all_goals
  constructor
  .apply bL8
   .with_reducible first|exact RcAt.none_none|exact RcAt.none_bool _|exact RcAt.none_int _ _|exact RcAt.none_str _ _|exact RcAt.none_tuple ‹_› Cc|exact RcAt.none_list ‹_› Cc|exact RcAt.bool_none _|exact RcAt.bool_bool _ _|exact RcAt.bool_int _ _ _|exact RcAt.bool_str _ _ _|exact RcAt.bool_tuple _ ‹_› Cc|exact RcAt.bool_list _ ‹_› Cc|exact RcAt.int_none _ _|exact RcAt.int_bool _ _ _|exact RcAt.int_int _ _ _ _|exact RcAt.int_str _ _ _ _|exact RcAt.int_tuple _ _ ‹_› Cc|exact RcAt.int_list _ _ ‹_› Cc|exact RcAt.str_none _ _|exact RcAt.str_bool _ _ _|exact RcAt.str_int _ _ _ _|exact RcAt.str_str _ _ _ _|exact RcAt.str_tuple _ _ ‹_› Cc|exact RcAt.str_list _ _ ‹_› Cc|exact RcAt.tuple_none ‹_› Cc|exact RcAt.tuple_bool _ ‹_› Cc|exact RcAt.tuple_int _ _ ‹_› Cc|exact RcAt.tuple_str _ _ ‹_› Cc|exact RcAt.tuple_list ‹_› ‹_› Cc|exact RcAt.list_none ‹_› Cc|exact RcAt.list_bool _ ‹_› Cc|exact RcAt.list_int _ _ ‹_› Cc|exact RcAt.list_str _ _ ‹_› Cc|exact RcAt.list_tuple ‹_› ‹_› Cc
   .first|exact(TR _ _).symm|(unfold bc;rfl)
  .apply bL9
   .with_reducible first|exact RcNeAt.none_none|exact RcNeAt.none_bool _|exact RcNeAt.none_int _ _|exact RcNeAt.none_str _ _|exact RcNeAt.none_tuple ‹_› Cc|exact RcNeAt.none_list ‹_› Cc|exact RcNeAt.bool_none _|exact RcNeAt.bool_bool _ _|exact RcNeAt.bool_int _ _ _|exact RcNeAt.bool_str _ _ _|exact RcNeAt.bool_tuple _ ‹_› Cc|exact RcNeAt.bool_list _ ‹_› Cc|exact RcNeAt.int_none _ _|exact RcNeAt.int_bool _ _ _|exact RcNeAt.int_int _ _ _ _|exact RcNeAt.int_str _ _ _ _|exact RcNeAt.int_tuple _ _ ‹_› Cc|exact RcNeAt.int_list _ _ ‹_› Cc|exact RcNeAt.str_none _ _|exact RcNeAt.str_bool _ _ _|exact RcNeAt.str_int _ _ _ _|exact RcNeAt.str_str _ _ _ _|exact RcNeAt.str_tuple _ _ ‹_› Cc|exact RcNeAt.str_list _ _ ‹_› Cc|exact RcNeAt.tuple_none ‹_› Cc|exact RcNeAt.tuple_bool _ ‹_› Cc|exact RcNeAt.tuple_int _ _ ‹_› Cc|exact RcNeAt.tuple_str _ _ ‹_› Cc|exact RcNeAt.tuple_list ‹_› ‹_› Cc|exact RcNeAt.list_none ‹_› Cc|exact RcNeAt.list_bool _ ‹_› Cc|exact RcNeAt.list_int _ _ ‹_› Cc|exact RcNeAt.list_str _ _ ‹_› Cc|exact RcNeAt.list_tuple ‹_› ‹_› Cc
   .first|exact congrArg _ (TR _ _).symm|(unfold bc;rfl)
theorem DC(I:xa X aa σ H s):∀(xs ys:List D)(A:Around)(vs us:List V)(as bs:List Value),bC X.K H xs vs->bC X.K H ys us->Ea vs as->Ea us bs->A.units+jX xs<cLine->eV xs=true->eV ys=true->∀(j:Nat)(h1:j<as.length)(h2:j<bs.length),EqAt A s as[j] bs[j] (pairE xs ys j)
 |[],_,A,vs,us,as,bs,ra,rb,va,vb,hu,px,py,j,h1,h2=>by
  have e:=dD.mp ra;subst e;cases va;exact absurd h1 (Iu _)
 |x::xs,[],A,vs,us,as,bs,ra,rb,va,vb,hu,px,py,j,h1,h2=>by
  have e:=dD.mp rb;subst e;cases vb;exact absurd h2 (Iu _)
 |x::xs,y::ys,A,vs,us,as,bs,ra,rb,va,vb,hu,px,py,j,h1,h2=>by
  obtain⟨v,r,e,p1,p2⟩:=bN.mp ra;subst e;obtain⟨u,r',e,q1,q2⟩:=bN.mp rb;subst e;have hd:jX (x::xs)=max (de x) (jX xs):=by conv=>lhs;unfold jX
  rw[hd]at hu;simp only[qX,and_eq_true]at px py;cases va with
  |cons va vas=>
   cases vb with
   |cons vb vbs=>
    cases j with
    |zero=>exact UR I p1 q1 va vb px.1 py.1 (ly I x y A v u _ _ p1 q1 va vb (by omega) px.1 py.1).1
    |succ j=>exact DC I xs ys A r r' _ _ p2 q2 vas vbs (by omega) px.2 py.2 j (FZ h1) (FZ h2)
end
def D_(I:xa X aa σ H s)(x y:D)(A:Around)(v u:V)(a b:Value)(ra:Va X.K H x v)(rb:Va X.K H y u)(va:RelV v a)(vb:RelV u b)(hu:A.units+de x<cLine)(px:plain x=true)(py:plain y=true):EqAt A s a b (bc x y):=
 UR I ra rb va vb px py (ly I x y A v u _ _ ra rb va vb hu px py).1
def E_(I:xa X aa σ H s)(x y:D)(A:Around)(v u:V)(a b:Value)(ra:Va X.K H x v)(rb:Va X.K H y u)(va:RelV v a)(vb:RelV u b)(hu:A.units+de x<cLine)(px:plain x=true)(py:plain y=true):RcAt A s a b (bc x y):=(ly I x y A v u a b ra rb va vb hu px py).1
def F_(I:xa X aa σ H s)(x y:D)(A:Around)(v u:V)(a b:Value)(ra:Va X.K H x v)(rb:Va X.K H y u)(va:RelV v a)(vb:RelV u b)(hu:A.units+de x<cLine)(px:plain x=true)(py:plain y=true):RcNeAt A s a b (!bc x y):=(ly I x y A v u a b ra rb va vb hu px py).2
end
end Pu
namespace Pu
open PySem PySem.Spec PyProof.Rows L2
section
variable{X:Cx}{B:List Addr}{a b e:Expr}{f g:Ex}{pos:Pos}
theorem lG.rep{K:Frag}{A:List Addr}{H:Hp}{d:D}{v:V}(h:lG K A H d v):Va K H d v:=by
 rcases h with h|⟨a,k,o,ds,vs,e1,e2,e3,ko,q⟩
 .exact h.mono (bA _ _)
 .subst e1 e2;exact ko.rep e3 (q.mono (bA _ _))
def Wy(K:Frag)(neg:Bool):R2:=λv u H Q=>∃x y,Va K H x v/\Va K H y u/\(de x<=64/\plain x=true/\plain y=true)/\Q (.bl (if neg then !bc x y else bc x y)) H
def nR(hu:X.A.units+64<cLine):Yc X (compareOp .Eq) (Wy X.K false):=by
 intro aa s σ H v u a b Q I ra rb h;obtain⟨x,y,rx,ry,hd,q⟩:=h;exact E_ I x y X.A v u a b rx ry ra rb (by omega) hd.2.1 hd.2.2 X.prog X.w X.xe _ ⟨.bl _,H,I,rfl,q⟩
def vR(hu:X.A.units+64<cLine):Yc X (compareOp .NotEq) (Wy X.K true):=by
 intro aa s σ H v u a b Q I ra rb h;obtain⟨x,y,rx,ry,hd,q⟩:=h;exact F_ I x y X.A v u a b rx ry ra rb (by omega) hd.2.1 hd.2.2 X.prog X.w X.xe _ ⟨.bl _,H,I,rfl,q⟩
def nU{K:Frag}:zg K (Wy K false) Jd:=by
 intro A H x y d v u Q w rx ry e q;obtain⟨c,e⟩:=aJ e;cases e;exact⟨x,y,rx.rep,ry.rep,c,q _ H (aY.refl _) (cX.mpr rfl)⟩
def vU{K:Frag}:zg K (Wy K true) Ue:=by
 intro A H x y d v u Q w rx ry e q;obtain⟨c,e⟩:=aJ e;cases e;exact⟨x,y,rx.rep,ry.rep,c,q _ H (aY.refl _) (cX.mpr rfl)⟩
def tyD:D->String
 |.Gb=>"NoneType"
 |.bl _=>"bool"
 |.int _=>"int"
 |.str _=>"str"
 |.tup _=>"tuple"
 |.lst _=>"list"
 |.jd _ _ _=>"dict"
 |.ins _ _ _=>""
 |.Ei _ _ _=>""
 |.fn _=>""
structure IsT(T:String)(p:D->Bool):Prop where
 boot:bootBuiltins T=some (.type T)
 w_:∀(K:Frag)(d:D),ym d=true->PySem.W.kitOne K (.type (tyD d)) (.type T)=some (p d)
def G_{T:String}{p:D->Bool}(h:IsT T p):mL X (.builtin "isinstance") (λxs H Q=>∃v d,xs=[v,.ty T]/\ym d=true/\Va X.K H d v/\Q (.bl (p d)) H):=by
 intro aa s σ H xs us Q I r q;obtain⟨v,d,rfl,sr,rd,q⟩:=q;obtain⟨u,u2,rfl,ru,ZJ⟩:=r.two;have e2:u2=Value.type T:=ZJ;subst e2;have fin:∀tk,EP X aa σ Q (.bool (p d)) {s with toks:=tk}:=λtk=>⟨.bl (p d),H,I.tok tk,rfl,q⟩
 have e:=h.w_ X.K d sr;cases d with
 |Gb=>have z:=sV.mp rd;subst z;have z:u=Value.none:=ru;subst z;exact kia_one PySem.W.kitx_none I.Nf True.intro e (λz=>nomatch z) fin
 |bl x=>have z:=cX.mp rd;subst z;have z:u=Value.bool x:=ru;subst z;exact kia_one PySem.W.kitx_bool I.Nf True.intro e (λz=>nomatch z) fin
 |int x=>have z:=bM.mp rd;subst z;obtain⟨t,z⟩:∃t,u=Value.int x t:=ru;subst z;exact kia_one PySem.W.kitx_int I.Nf True.intro e (λz=>nomatch z) fin
 |str x=>have z:=eN.mp rd;subst z;obtain⟨t,z⟩:∃t,u=Value.str ⟨x.toArray⟩ t:=ru;subst z;exact kia_one PySem.W.kitx_str I.Nf True.intro e (λz=>nomatch z) fin
 |tup x=>
  obtain⟨l,vs,z,hq,_⟩:=iI rd;subst z;have z:u=Value.ref l:=ru;subst z;obtain⟨Ga,_,⟨o,h1,h2,_⟩,_⟩:=I.tuple hq;exact kia_one PySem.W.kitx_tuple I.Nf ⟨o,h1,h2⟩ e (λz=>nomatch z) fin
 |lst x=>
  obtain⟨l,vs,z,hq,_⟩:=gK.mp rd;subst z;have z:u=Value.ref l:=ru;subst z;obtain⟨Ga,_,⟨o,n,h1,h2,_⟩,_⟩:=I.list hq;exact kia_one PySem.W.kitx_list I.Nf ⟨o,h1,h2⟩ e (λz=>nomatch z) fin
 |jd t ks x=>
  obtain⟨l,vs,z,hq,_⟩:=sW.mp rd;subst z;have z:u=Value.ref l:=ru;subst z;have hd:∃o,s.heap.get? l=some o/\o.ExactDict:=by
   rcases hq with ⟨_,ma,hq,_⟩|⟨_,ma,hq,_⟩
   .obtain⟨_,_,vs',_,m⟩:ma.length<=sizeLine/\(l==sysModules)=false/\∃vs,KV ma vs/\s.heap.DictOf (dN X.prog X.w) l vs:=I.Ra l _ hq;obtain⟨o,es,n,h1,h2,_⟩:=m;exact⟨o,h1,h2⟩
   .obtain⟨_,_,xs,_,o,es,ep,h1,h2,_⟩:=I.Ra l _ hq;exact⟨o,h1,h2⟩
  obtain⟨o,h1,h2⟩:=hd;exact kia_one PySem.W.kitx_dict I.Nf ⟨o,h1,h2.1⟩ e (λz=>nomatch z) fin
 |ins _ _ _=>exact nomatch sr
 |Ei _ _ _=>exact nomatch sr
 |fn _=>exact nomatch sr
def wY{T:Str}{S:String}{p:D->Bool} (hT:IsT S p) (hm:X.mg "isinstance"=none) (hmT:X.mg T=none) (ha:PE X a (tP X.K B f)) (hST:bootBuiltins T=some (.type S):=by first|rfl|exact hT.boot) (hg:Gl X "isinstance":=by rfl) (hgT:Gl X T:=by rfl) (hnT:T≠"__name__":=by decide) (hdT:(T==("__debug__":Str))=false:=by decide)
  (hs:starEach [a,.Name T p1] X.env=(false,eval a X.env)::starEach [.Name T p1] X.env:=by rfl) (Ud:starEach [.Name T p1] X.env=(false,eval (.Name T p1) X.env)::starEach [] X.env:=by rfl) :
  PE X (.Call (.Name "isinstance" p0) [a,.Name T p1] [] pos) (tI X.K B (eB p f)):=by
 have hTy:PE X (.Name T p1) (tC (.ty S)):=V' hgT hmT hST rfl hnT hdT;refine cL (qR (G_ hT) hg hm boot_isinstance (cM ha (cM hTy fL Ud) hs) (he:=hs)) ?_
 rintro σ H Q ⟨A,st,d,rs,hd,q⟩;obtain⟨x,hx,h2⟩:=R.ja hd;obtain⟨sr,h2⟩:=aJ h2;cases h2;exact⟨A,st,x,rs,hx,λv H1 s1 r1=>⟨v,x,rfl,sr,r1.rep,q _ H1 s1 (cX.mpr rfl)⟩⟩
def ty_str:IsT "str" NF:=⟨rfl,λK d hb=>by cases d<;>first|(cases hb;done)|kernel_rfl⟩
def ty_bool:IsT "bool" OF:=⟨rfl,λK d hb=>by cases d<;>first|(cases hb;done)|kernel_rfl⟩
def ty_int:IsT "int" isIn:=⟨rfl,λK d hb=>by cases d<;>first|(cases hb;done)|kernel_rfl⟩
def ty_tuple:IsT "tuple" PF:=⟨rfl,λK d hb=>by cases d<;>first|(cases hb;done)|kernel_rfl⟩
def ty_list:IsT "list" yq:=⟨rfl,λK d hb=>by cases d<;>first|(cases hb;done)|kernel_rfl⟩
end
end Pu
namespace Pu
open PySem PySem.Spec PyProof.Rows L2 PySem.SeqAt PySem.StrLaws
def T6(x y:List Nat)(i:Nat):Builtin.Str.subAt ⟨x.toArray⟩ ⟨y.toArray⟩ i=((x.drop i).take y.length==y):=by
 rw[subAt_eq];simp[Str.length]
theorem VR(s sub:Str)(hi:Nat):∀(l:List Nat)(st:Array Nat×Nat),1<=st.1.size->(forIn l st (occBody s sub hi 1)).run.fst=st.1
 |[],st,h=>rfl
 |a::l,st,h=>by
  rw[forIn_cons];unfold occBody;rw[La (λz=>by have:=z.1.1.1;omega)]
  exact VR s sub hi l (st.1,st.2) h
theorem WR(s sub:Str)(hi:Nat):∀(l:List Nat)(free:Nat),(∀i∈l,free<=i)->
  (forIn l ((#[]:Array Nat),free) (occBody s sub hi 1)).run.fst.toList=(l.find? λi=>decide (i+sub.length<=hi)&&Builtin.Str.subAt s sub i).toList
 |[],free,_=>rfl
 |a::l,free,hf=>by
  rw[forIn_cons];have ha:free<=a:=hf a xb
  by_cases hc:a+sub.length<=hi/\Builtin.Str.subAt s sub a=true
  .have e:(decide (a+sub.length<=hi)&&Builtin.Str.subAt s sub a)=true:=by rw[hc.2,Ld hc.1];rfl
   rw[CZ (p:=λi=>decide (i+sub.length<=hi)&&Builtin.Str.subAt s sub i) e]
   have e2:occBody s sub hi 1 a ((#[]:Array Nat),free)=pure (ForInStep.yield ((#[]:Array Nat).push a,a+sub.length)):=by
    unfold occBody;exact Na ⟨⟨⟨by simp,ha⟩,hc.1⟩,hc.2⟩
   rw[e2];show (forIn l (((#[]:Array Nat).push a),a+sub.length) (occBody s sub hi 1)).run.fst.toList=_;rw[VR s sub hi l _ (by simp)]
   rfl
  .have e:¬ (decide (a+sub.length<=hi)&&Builtin.Str.subAt s sub a)=true:=λz=>hc (by simpa using z)
   rw[DZ (p:=λi=>decide (i+sub.length<=hi)&&Builtin.Str.subAt s sub i) e]
   have e2:occBody s sub hi 1 a ((#[]:Array Nat),free)=pure (ForInStep.yield ((#[]:Array Nat),free)):=by
    unfold occBody;exact La λh=>hc ⟨h.1.2,h.2⟩
   rw[e2];exact WR s sub hi l free λi Oe=>hf i (Bb _ Oe)
def EC(x y:List Nat)(lo:Nat):Builtin.Str.occurrences ⟨x.toArray⟩ ⟨y.toArray⟩ lo (⟨x.toArray⟩:Str).length 1=(pH x y lo).toList:=by
 rw[occ_eq,WR _ _ _ _ _ (λi hi=>by simp[List.mem_range']at hi;omega)]
 unfold pH;simp only[T6,str_len]
def ϱ(x y:List Nat):Txt.find ⟨x.toArray⟩ ⟨y.toArray⟩=zX (pH x y 0):=by
 unfold Txt.find;rw[EC];cases pH x y 0<;>rfl
def H_(x y:List Nat)(i:Int)(h:0<=i):Txt.find3 ⟨x.toArray⟩ ⟨y.toArray⟩ i=zX (pH x y i.toNat):=by
 have e:fromIndex (⟨x.toArray⟩:Str).length i=i.toNat:=by unfold fromIndex;rw[La (by omega)];omega
 unfold Txt.find3;rw[e,EC];cases pH x y i.toNat<;>rfl
theorem oY{α:Type}(p:α->Bool):∀x:List α,x.drop (x.takeWhile p).length=x.dropWhile p
 |[]=>rfl
 |a::x=>by
  cases h:p a with
  |true=>rw[IY h,GY h,Qd,List.drop_succ_cons,oY p x]
  |false=>rw[JY (by simp[h]),HY (by simp[h])];rfl
def WL(p:α->Bool)(x:List α):(x.takeWhile p).length+(x.dropWhile p).length=x.length:=by
 rw[<-we,BY]
def I_(x y:List Nat):Txt.stripChars ⟨x.toArray⟩ ⟨y.toArray⟩=⟨(vG x y).toArray⟩:=by
 have hp:(y.toArray.contains:Nat->Bool)=λc=>y.contains c:=by funext c;simp
 have key:Builtin.Str.strSub ⟨x.toArray⟩ (stripLo y.toArray.contains true ⟨x.toArray⟩) (stripHi y.toArray.contains true ⟨x.toArray⟩ (stripLo y.toArray.contains true ⟨x.toArray⟩))=⟨(vG x y).toArray⟩:=by
  unfold stripLo stripHi;rw[hp];simp only[if_true];rw[oY];unfold vG;generalize hq:(λc=>y.contains c)=q
  have l1:=WL q x;have l2:=WL q (x.dropWhile q).reverse;rw[List.length_reverse]at l2;unfold Builtin.Str.strSub;simp only[str_len];congr 1;apply ext';rw[Array.toList_extract];simp only[List.toList_toArray,List.extract_eq_take_drop];rw[oY];have e3:((x.dropWhile q).reverse.dropWhile q).reverse=(x.dropWhile q).take ((x.dropWhile q).length-((x.dropWhile q).reverse.takeWhile q).length):=by
   have:(x.dropWhile q).reverse.dropWhile q=(x.dropWhile q).reverse.drop ((x.dropWhile q).reverse.takeWhile q).length:=(oY q _).symm;rw[this,List.drop_reverse,List.reverse_reverse]
  rw[e3];congr 1;omega
 unfold Txt.stripChars Txt.stripBy
 by_cases h:stripSame y.toArray.contains true true ⟨x.toArray⟩=true
 .rw[Na h];unfold stripSame at h;rw[Hu,Bh,Bh]at h;rw[h.2,h.1]at key;rw[<-key];unfold Builtin.Str.strSub;simp[str_len]
 .rw[La h];exact key
section
variable {a b o:Expr}
def SF{id:String}{m:Cn}{r:zd} {q:V->List V->Hp->VK->Prop} (slot:Slot "str" name id) (Jv:typeOf (.builtin id)=pure (.type "method_descriptor")) (hm:yi X id q)
  (hk:∀x xs d,m x xs=.ok d->∃s,x=.str s) (Yl:∀(A:List Addr)(H:Hp)(x d:D)(xs:List D)(v:V)(vs:List V)(Q:VK),Own A H->lG X.K A H x v->bC X.K (hide A H) xs vs->m x xs=.ok d->(∀w H',aY H H'->Va X.K (hide A H') d w->Q w H')->q v vs H Q)
  (ho:PE X o (tP X.K B f)) (ha:PA X (e::es) (tA X.K B r))
  (qb:attributeBase o name X.env (eval o X.env)=eval o X.env:=by rfl)
  (md:((backTo Aa (starEach (e::es) X.env)).all (λx=>!x.1)&&(backToKw Aa (keywordEach [] X.env)).all (λx=>x.1.isSome)
   && decide ((e::es).length+([]:List Keyword).length+(if ([]:List Keyword).isEmpty then 0 else 1)<30))=true:=by rfl)
  (ub:(Oa.endLine==Aa.line)=true:=by rfl) (hs:starEach (e::es) X.env=(false,eval e X.env)::starEach es X.env:=by rfl) (qd:(backTo Aa (starEach es X.env)).any (·.1)=false:=by rfl) :
  PE X (.Call (.Attribute o name Oa) (e::es) [] Aa) (tI X.K B (Zh m f r)):=by
 refine cL (tm PySem.F.plainAttrs_str slot Jv hm ho ha qb md ub hs qd) ?_
 rintro σ H Q ⟨A,st,d,rs,hd,k⟩;obtain⟨x,hx,h2⟩:=R.ja hd;obtain⟨xs,Nl,h3⟩:=R.ja h2;obtain⟨s,rfl⟩:=hk x xs d h3;refine⟨A,st,_,rs,hx,λv H1 s1 r1=>⟨?_,A,st,xs,rs.mono s1,Nl,λvs H2 s2 r2=>?_⟩⟩
 .rw[r1.str];rfl
 .exact Yl (A++B) H2 _ d xs v vs Q (rs.own.mono (s1.trans s2)) (r1.mono s2) r2 h3 λw H' s' r'=>k w H' (s1.trans (s2.trans s')) r'
def Ht{K:Frag} (h:bC K H [d] vs):∃v,vs=[v]/\Va K H d v:=by
 obtain⟨v,r,rfl,h1,h2⟩:=bN.mp h;rw[dD.mp h2];exact⟨v,rfl,h1⟩
def bLa{K:Frag} {e:D} (h:bC K H [d,e] vs):∃v u,vs=[v,u]/\Va K H d v/\Va K H e u:=by
 obtain⟨v,r,rfl,h1,h2⟩:=bN.mp h;obtain⟨u,rfl,h3⟩:=Ht h2;exact⟨v,u,rfl,h1,h3⟩
def ϲ:yi X "str.find" (λx vs H Q=>∃(s:List Nat),x=.str ⟨s.toArray⟩/\((∃y:List Nat,vs=[.str ⟨y.toArray⟩]/\Q (.int (zX (pH s y 0))) H)\/∃(y:List Nat)(i:Int),vs=[.str ⟨y.toArray⟩,.int i]/\0<=i/\Q (.int (zX (pH s y i.toNat))) H)):=by
 intro aa s σ H x vs v us Q I rx rv h;obtain⟨z,rfl,h⟩:=h;obtain⟨t,rfl⟩:=rx;rcases h with ⟨y,rfl,q⟩|⟨y,i,rfl,hi,q⟩
 .obtain⟨u,rfl,t2,rfl⟩:=rv.one;exact SC.find ⟨.int _,H,I.tok _,⟨_,rfl⟩,by rw[ϱ];exact q⟩
 .obtain⟨u,u2,rfl,⟨t2,rfl⟩,⟨t3,rfl⟩⟩:=rv.two;exact SC.find3 ⟨.int _,H,I.tok _,⟨_,rfl⟩,by rw[H_ _ _ _ hi];exact q⟩
def J_:yi X "str.strip" (λx vs H Q=>∃(s y:List Nat),x=.str ⟨s.toArray⟩/\vs=[.str ⟨y.toArray⟩]/\s.length<=sizeLine/\Q (.str ⟨(vG s y).toArray⟩) H):=by
 intro aa s σ H x vs v us Q I rx rv h;obtain⟨z,y,rfl,rfl,hz,q⟩:=h;obtain⟨t,rfl⟩:=rx;obtain⟨u,rfl,t2,rfl⟩:=rv.one;exact SC.stripChars (λt' k=>⟨.str ⟨(vG z y).toArray⟩,H,I.tok _,⟨_,by rw[I_]⟩,q⟩) (by rw[str_len];exact hz)
end
end Pu
namespace Pu
open PySem PySem.Spec PyProof.Rows L2 PySem.SeqAt
section
variable{X:Cx}{B:List Addr}{a b e o:Expr}{f g:Ex}{pos:Pos}{r:zd}{es:List Expr}{Oa Aa:Pos}
def bHy(ho:PE X o (tP X.K B f))(ha:PA X (e::es) (tA X.K B r))(qb:attributeBase o "find" X.env (eval o X.env)=eval o X.env:=by rfl)
  (md:((backTo Aa (starEach (e::es) X.env)).all (λx=>!x.1)&&(backToKw Aa (keywordEach [] X.env)).all (λx=>x.1.isSome)
   && decide ((e::es).length+([]:List Keyword).length+(if ([]:List Keyword).isEmpty then 0 else 1)<30))=true:=by rfl)
  (ub:(Oa.endLine==Aa.line)=true:=by rfl) (hs:starEach (e::es) X.env=(false,eval e X.env)::starEach es X.env:=by rfl) (qd:(backTo Aa (starEach es X.env)).any (·.1)=false:=by rfl) :
  PE X (.Call (.Attribute o "find" Oa) (e::es) [] Aa) (tI X.K B (Zh yt f r)):=by
 refine SF (m:=yt) PySem.F.slot_str_find PySem.F.type_str_find ϲ (λx xs d h=>?_) (λA H x d xs v vs Q w rx Lr h k=>?_) ho ha qb md ub hs qd
 .cases x<;>first|exact⟨_,rfl⟩|exact nomatch h
 .unfold yt at h;split at h
  .cases h;obtain⟨u,rfl,ru⟩:=Ht Lr;exact⟨_,rx.str,.inl ⟨_,by rw[eN.mp ru],k _ H (aY.refl _) (bM.mpr rfl)⟩⟩
  .obtain⟨c,h⟩:=aJ h;cases h;obtain⟨u,u2,rfl,ru,ZJ⟩:=bLa Lr;exact⟨_,rx.str,.inr ⟨_,_,by rw[eN.mp ru,bM.mp ZJ],c,k _ H (aY.refl _) (bM.mpr rfl)⟩⟩
  .cases h
def ϳ(ho:PE X o (tP X.K B f))(ha:PA X (e::es) (tA X.K B r))(qb:attributeBase o "strip" X.env (eval o X.env)=eval o X.env:=by rfl)
  (md:((backTo Aa (starEach (e::es) X.env)).all (λx=>!x.1)&&(backToKw Aa (keywordEach [] X.env)).all (λx=>x.1.isSome)
   && decide ((e::es).length+([]:List Keyword).length+(if ([]:List Keyword).isEmpty then 0 else 1)<30))=true:=by rfl)
  (ub:(Oa.endLine==Aa.line)=true:=by rfl) (hs:starEach (e::es) X.env=(false,eval e X.env)::starEach es X.env:=by rfl) (qd:(backTo Aa (starEach es X.env)).any (·.1)=false:=by rfl) :
  PE X (.Call (.Attribute o "strip" Oa) (e::es) [] Aa) (tI X.K B (Zh Ss f r)):=by
 refine SF (m:=Ss) PySem.F.slot_str_strip PySem.F.type_str_strip J_ (λx xs d h=>?_) (λA H x d xs v vs Q w rx Lr h k=>?_) ho ha qb md ub hs qd
 .cases x<;>first|exact⟨_,rfl⟩|exact nomatch h
 .unfold Ss at h;split at h
  .obtain⟨c,h⟩:=aJ h;cases h;obtain⟨u,rfl,ru⟩:=Ht Lr;exact⟨_,_,rx.str,by rw[eN.mp ru],lim c,k _ H (aY.refl _) (eN.mpr rfl)⟩
  .cases h
def bHz(hm:X.mg "max"=none)(hc:X.calm=true)(ha:PE X a (tP X.K B f))(hb:PE X b (tP X.K B g))(hg:Gl X "max":=by rfl)(hs:starEach [a,b] X.env=(false,eval a X.env)::starEach [b] X.env:=by rfl)
  (Ud:starEach [b] X.env=(false,eval b X.env)::starEach [] X.env:=by rfl) (hpl:(backTo pos (starEach [b] X.env)).any (·.1)=false:=by rfl):PE X (.Call (.Name "max" p0) [a,b] [] pos) (tI X.K B (e2 RE f g)):=by
 refine cL (qR (G7 hc) hg hm (by rfl) (cM ha (cM hb fL Ud) hs) (he:=hs) (hpl:=hpl)) ?_
 rintro σ H Q ⟨A,st,d,rs,hd,q⟩;obtain⟨x,hx,h2⟩:=R.ja hd;obtain⟨y,hy,h3⟩:=R.ja h2;refine⟨A,st,x,rs,hx,λv H1 s1 r1=>⟨A,st,y,rs.mono s1,hy,λu H2 s2 r2=>?_⟩⟩
 unfold RE at h3;split at h3
 case h_2=>cases h3
 cases h3;exact⟨_,_,by rw[r1.int,r2.int],q _ H2 (s1.trans s2) (bM.mpr rfl)⟩
def Jt(ha:PE X a (tP X.K B f)):PE X (.UnaryOp .USub a pos) (tI X.K B (e1 Si f)):=by
 refine cL (bJj bG2 ha) ?_
 rintro σ H Q ⟨A,st,d,rs,hd,q⟩;obtain⟨x,hx,h2⟩:=R.ja hd;refine⟨A,st,x,rs,hx,λv H1 s1 r1=>?_⟩
 cases x<;>first|(cases h2;done)|skip
 cases h2;exact⟨_,r1.int,q _ H1 s1 (bM.mpr rfl)⟩
def Xy(neg:Bool):R2:=λx y H Q=>(y=.Gb/\Q (.bl (if neg then !decide (x=.Gb) else decide (x=.Gb))) H)\/∃c d,x=.bl c/\y=.bl d/\Q (.bl (if neg then !(c==d) else (c==d))) H
def bI0:Yc X (compareOp .Is) (Xy false):=by
 intro aa s σ H x y v u Q I rx ry h;rcases h with h|⟨c,d,rfl,rfl,q⟩
 .exact bG3 aa s σ H x y v u Q I rx ry h
 .cases rx;cases ry;exact is_bool ⟨.bl _,H,I,rfl,q⟩
def w8:Yc X (compareOp .IsNot) (Xy true):=by
 intro aa s σ H x y v u Q I rx ry h;rcases h with h|⟨c,d,rfl,rfl,q⟩
 .exact ζ aa s σ H x y v u Q I rx ry h
 .cases rx;cases ry;exact isnot_bool ⟨.bl (!(c==d)),H,I,rfl,q⟩
def bI1{K:Frag}:zg K (Xy false) YZ:=by
 intro A H x y d v u Q w rx ry e q;cases y<;>first|(cases x<;>(cases e;done))|skip
 .cases e;exact .inl ⟨ry.Gb,q _ H (aY.refl _) (cX.mpr (by rw[<-XT rx];rfl))⟩
 .cases x<;>first|(cases e;done)|skip
  cases e;exact .inr ⟨_,_,rx.bl,ry.bl,q _ H (aY.refl _) (cX.mpr rfl)⟩
def z8{K:Frag}:zg K (Xy true) gV:=by
 intro A H x y d v u Q w rx ry e q;cases y<;>first|(cases x<;>(cases e;done))|skip
 .cases e;exact .inl ⟨ry.Gb,q _ H (aY.refl _) (cX.mpr (by rw[<-XT rx];rfl))⟩
 .cases x<;>first|(cases e;done)|skip
  cases e;exact .inr ⟨_,_,rx.bl,ry.bl,q _ H (aY.refl _) (cX.mpr rfl)⟩
open Classical in
noncomputable def Ug(K:Frag)(H:Hp)(x:D)(u:Value):Bool:=if ∃d z,Va K H d z/\RelV z u/\plain d=true/\bc d x=true then true else false
def kU(I:xa X aa σ H s){x:D}{z:V} (r:Va X.K H d z) (rz:RelV z u) (pd:plain d=true):Ug X.K H x u=bc d x:=by
 unfold Ug;split
 .rename_i h;obtain⟨d',z',r',rz',pd',e⟩:=h;have:=RelV.inj rz rz';subst this;rw[Va.inj I pd pd' r r',e]
 .rename_i h;cases hb:bc d x with
  |false=>rfl
  |true=>exact(h ⟨d,z,r,rz,pd,hb⟩).elim
theorem ot{aa:List (Addr×Obj)}{σ:Df}{H:Hp}{s:Shared}(I:xa X aa σ H s){x:D}:∀{ds:List D}{zs:List V}{us:List Value},bC X.K H ds zs->Ea zs us->eV ds=true->us.any (Ug X.K H x)=inD x ds
 |[],zs,us,r,v,_=>by
  have e:=dD.mp r;subst e;cases v;rfl
 |d::ds,zs,us,r,v,p=>by
  obtain⟨z,r',e,h1,h2⟩:=bN.mp r;subst e;simp only[qX,and_eq_true]at p;cases v with
  |cons v vs=>
   rw[uo,kU I h1 v p.1,ot I h2 vs p.2];unfold inD;rw[uo]
theorem qt{aa:List (Addr×Obj)}{σ:Df}{H:Hp}{s:Shared}(I:xa X aa σ H s){A:Around}{x:D}{zx:V}{ux:Value}(rx:Va X.K H x zx)(vx:RelV zx ux)(px:plain x=true):∀{ds:List D}{zs:List V}{us:List Value},bC X.K H ds zs->Ea zs us->eV ds=true->A.units+jX ds<cLine->∀u∈us,EqAt A s u ux (Ug X.K H x u)
 |[],zs,us,r,v,_,_=>by
  have e:=dD.mp r;subst e;cases v;exact λu hu=>nomatch hu
 |d::ds,zs,us,r,v,p,hd=>by
  obtain⟨z,r',e,h1,h2⟩:=bN.mp r;subst e;simp only[qX,and_eq_true]at p;rw[S7]at hd;cases v with
  |cons v vs=>
   intro u hu;rcases Nb.mp hu with rfl|hu
   .rw[kU I h1 v p.1];exact D_ I d x A z zx _ ux h1 rx v vx (by omega) p.1 px
   .exact qt I rx vx px h2 vs p.2 (by omega) u hu
def Yy(K:Frag)(neg:Bool):R2:=λv u H Q=>(∃a o,u=.ref a/\zM H a v o/\Q (.bl (if neg then !o.isSome else o.isSome)) H)\/(∃x ds zs p,u=.ref p/\(jc K H p zs\/af K H p zs)/\Va K H x v/\bC K H ds zs/\jX ds<=60/\plain x=true/\eV ds=true/\Q (.bl (if neg then !inD x ds else inD x ds)) H)\/
 ∃i j:List Nat,v=.str ⟨i.toArray⟩/\u=.str ⟨j.toArray⟩/\Q (.bl (if neg then !(pH j i 0).isSome else (pH j i 0).isSome)) H
def some_of(x y:List Nat):(!(Builtin.Str.occurrences ⟨x.toArray⟩ ⟨y.toArray⟩ 0 (⟨x.toArray⟩:Str).length 1).isEmpty)=(pH x y 0).isSome:=by
 rw[EC];cases pH x y 0<;>rfl
def EW(hu:X.A.units+64<cLine):Yc X (compareOp .In) (Yy X.K false):=by
 intro aa s σ H v u a b Q I ra rb h;rcases h with ⟨p,o,rfl,g,q⟩|⟨x,ds,zs,p,rfl,hq,rx,ph,hd,px,pd,q⟩|⟨i,j,rfl,rfl,q⟩
 .cases rb;exact bMq (by omega) I g ra λs' I'=>⟨.bl _,H,I',rfl,q⟩
 .cases rb;have Lf:X.A.in1.units+jX ds<cLine:=by show X.A.units+1+jX ds<cLine;omega
  rcases hq with hq|hq
  .obtain⟨Ga,r,pl,hz⟩:=I.list hq;refine SeqAt.in_listAt (Ug X.K H x) pl.isList (λw hw=>qt I rx ra px ph r pd Lf w (by simpa using hw)) ⟨.bl _,H,I,rfl,?_⟩
   rw[show Ga.toArray.any (Ug X.K H x)=Ga.any (Ug X.K H x) by simp,ot I ph r pd]
   exact q
  .obtain⟨Ga,r,pl,hz⟩:=I.tuple hq;refine SeqAt.in_tupleAt (Ug X.K H x) pl (λw hw=>qt I rx ra px ph r pd Lf w (by simpa using hw)) ⟨.bl _,H,I,rfl,?_⟩
   rw[show Ga.toArray.any (Ug X.K H x)=Ga.any (Ug X.K H x) by simp,ot I ph r pd]
   exact q
 .refine F7 aa s σ H _ _ a b Q I ra rb ⟨_,_,rfl,rfl,?_⟩;rw[some_of];exact q
def wZ(hu:X.A.units+64<cLine):Yc X (compareOp .NotIn) (Yy X.K true):=by
 intro aa s σ H v u a b Q I ra rb h;rcases h with ⟨p,o,rfl,g,q⟩|⟨x,ds,zs,p,rfl,hq,rx,ph,hd,px,pd,q⟩|⟨i,j,rfl,rfl,q⟩
 .cases rb;exact ω (by omega) I g ra λs' I'=>⟨.bl _,H,I',rfl,q⟩
 .cases rb;have Lf:X.A.in1.units+jX ds<cLine:=by show X.A.units+1+jX ds<cLine;omega
  rcases hq with hq|hq
  .obtain⟨Ga,r,pl,hz⟩:=I.list hq;refine SeqAt.notIn_listAt (Ug X.K H x) pl.isList (λw hw=>qt I rx ra px ph r pd Lf w (by simpa using hw)) ⟨.bl _,H,I,rfl,?_⟩
   rw[show Ga.toArray.any (Ug X.K H x)=Ga.any (Ug X.K H x) by simp,ot I ph r pd]
   exact q
  .obtain⟨Ga,r,pl,hz⟩:=I.tuple hq;refine SeqAt.notIn_tupleAt (Ug X.K H x) pl (λw hw=>qt I rx ra px ph r pd Lf w (by simpa using hw)) ⟨.bl _,H,I,rfl,?_⟩
   rw[show Ga.toArray.any (Ug X.K H x)=Ga.any (Ug X.K H x) by simp,ot I ph r pd]
   exact q
 .refine b5 aa s σ H _ _ a b Q I ra rb ⟨_,_,rfl,rfl,?_⟩;rw[some_of];exact q
def FW{K:Frag}:zg K (Yy K false) nr:=by
 intro A H x y d v u Q w rx ry e q;unfold nr at e;split at e
 .obtain⟨c,e⟩:=aJ e;cases e;rename_i t ks ds;have eK:Va K H x v:=rx.rep;obtain⟨a,o,e1,g,g1,_⟩:=Lx ry eK c;exact .inl ⟨a,o,e1,g,by rw[g1];exact q _ H (aY.refl _) (cX.mpr rfl)⟩
 .obtain⟨c,e⟩:=aJ e;cases e;obtain⟨p,zs,h1,h2,h3⟩:=ry.lst;exact .inr (.inl ⟨_,_,zs,p,h1,.inl h2,rx.rep,h3.mono (bA _ _),c.1,c.2.1,c.2.2,q _ H (aY.refl _) (cX.mpr rfl)⟩)
 .obtain⟨c,e⟩:=aJ e;cases e;obtain⟨p,zs,h1,h2,h3⟩:=ry.tup;exact .inr (.inl ⟨_,_,zs,p,h1,.inr h2,rx.rep,h3.mono (bA _ _),c.1,c.2.1,c.2.2,q _ H (aY.refl _) (cX.mpr rfl)⟩)
 .cases e;exact .inr (.inr ⟨_,_,rx.str,ry.str,q _ H (aY.refl _) (cX.mpr rfl)⟩)
 .cases e
def xF{K:Frag}:zg K (Yy K true) tL:=by
 intro A H x y d v u Q w rx ry e q;unfold tL at e;split at e
 .obtain⟨c,e⟩:=aJ e;cases e;rename_i t ks ds;have eK:Va K H x v:=rx.rep;obtain⟨a,o,e1,g,g1,_⟩:=Lx ry eK c;exact .inl ⟨a,o,e1,g,by rw[g1];exact q _ H (aY.refl _) (cX.mpr rfl)⟩
 .obtain⟨c,e⟩:=aJ e;cases e;obtain⟨p,zs,h1,h2,h3⟩:=ry.lst;exact .inr (.inl ⟨_,_,zs,p,h1,.inl h2,rx.rep,h3.mono (bA _ _),c.1,c.2.1,c.2.2,q _ H (aY.refl _) (cX.mpr rfl)⟩)
 .obtain⟨c,e⟩:=aJ e;cases e;obtain⟨p,zs,h1,h2,h3⟩:=ry.tup;exact .inr (.inl ⟨_,_,zs,p,h1,.inr h2,rx.rep,h3.mono (bA _ _),c.1,c.2.1,c.2.2,q _ H (aY.refl _) (cX.mpr rfl)⟩)
 .cases e;exact .inr (.inr ⟨_,_,rx.str,ry.str,q _ H (aY.refl _) (cX.mpr rfl)⟩)
 .cases e
end
end Pu
namespace Pu
open PySem PySem.Spec PyProof.Rows L2
section
variable{X:Cx}{B:List Addr}{a b e:Expr}{f g:Ex}{pos:Pos}
def Vn(i:Nat){x:Str} (he:PE X e (tI X.K B f)) (hN:X.N[i]?=some x:=by rfl) (hv:Sf X.env.scope x:=by first|exact Or.inl rfl|exact Or.inr (Or.inl rfl)|exact Or.inr (Or.inr rfl)) (hd:(x==("__debug__":Str))=false:=by decide)
  (Ec:(x==("__classdict__":Str))=false:=by decide) (qb:attributeBase (.Name x p1) "append" X.env (eval (.Name x p1) X.env)=eval (.Name x p1) X.env:=by rfl)
  (md:((backTo Aa (starEach [e] X.env)).all (λx=>!x.1)&&(backToKw Aa (keywordEach [] X.env)).all (λx=>x.1.isSome)
   && decide (([e]:List Expr).length+([]:List Keyword).length+(if ([]:List Keyword).isEmpty then 0 else 1)<30))=true:=by rfl)
  (ub:(Oa.endLine==Aa.line)=true:=by rfl) (hs:starEach [e] X.env=(false,eval e X.env)::starEach [] X.env:=by rfl)
  (Mg:swapsWith (.Call (.Attribute (.Name x p1) "append" Oa) [e] [] Aa) none pos.line X.env=pure false:=by rfl) :
  PS X (.Expr (.Call (.Attribute (.Name x p1) "append" Oa) [e] [] Aa) pos) (tS X.K B (xh i f)):=by
 refine iY (Dp (tm Gq cz PY dP (mQ hN hv hd Ec) (cM he fL hs) qb md ub hs rfl) Mg) ?_
 rintro Dn σ H ⟨A,st,r,rs,hr,p⟩;obtain⟨d,hd,h3⟩:=R.ja hr;split at h3
 .rename_i xs e1;obtain⟨c,h4⟩:=aJ h3;cases h4;obtain⟨l,o,vs,e2,m,h1,ko,q,u⟩:=rs.lst i _ xs e1;have eo:o=.lst vs:=ko;subst eo;refine⟨.ref l,e2,.inl ⟨rfl,vs,jc.of h1⟩,A,st,d,rs,hd,λv H' s rv=>?_⟩
  have ql:=q.length;refine⟨l,vs,v,rfl,rfl,s _ _ h1,by rw[ql];rw[jH]at c;exact ue c (by decide),?_⟩
  obtain⟨w1,w2⟩:=(rs.mono s).write e1 e2 (k1:=.l) (ds:=xs++[d]) (vs':=vs++[v]) rfl ((q.mono (aY.hide s)).append (.cons rv .nil));exact p A _ _ ((Le.of s).trans w2) w1
 .cases h3
def bLb(i:Nat) {j:Expr} (hj:PE X j (tP X.K B g)) (he:PE X e (tI X.K B f)) (hN:X.N[i]?=some x:=by rfl) (hv:Sf X.env.scope x:=by first|exact Or.inl rfl|exact Or.inr (Or.inl rfl)|exact Or.inr (Or.inr rfl)) (hd:(x==("__debug__":Str))=false:=by decide)
  (Ec:(x==("__classdict__":Str))=false:=by decide)
  (ha:∀v,assign (.Subscript (.Name x p1) j p2) X.env v=(do
   let ov <- holding [v] (eval (.Name x p1) X.env)
   let iv <- holding [v,ov] (eval j X.env)
   standAt p2
   holding [v,ov,iv] (setItem ov iv v)
   release [v,ov,iv] []):=by intro _;rfl)
  (hs:swapsWithSole [.Subscript (.Name x p1) j p2] e pos.line X.env=pure false:=by rfl) (hw:swappedStores [.Subscript (.Name x p1) j p2] e X.env=pure none:=by rfl)
  (h1:(assignEach [.Subscript (.Name x p1) j p2] X.env).map (·.2)=[assign (.Subscript (.Name x p1) j p2) X.env]:=by rfl) :
  PS X (.Assign [.Subscript (.Name x p1) j p2] e pos) (tS X.K B (Pt i g f)):=by
 refine iY (Qs he (Rx (mQ hN hv hd Ec) hj set_list ha) hs hw h1) ?_
 rintro Dn σ H ⟨A,st,r,rs,hr,p⟩;obtain⟨d,hd,h3⟩:=R.ja hr;obtain⟨y,hy,h4⟩:=R.ja h3;obtain⟨k,rfl,h5⟩:=tM h4;split at h5
 .rename_i xs e1;obtain⟨n,hn,h6⟩:=R.ja h5;cases h6;obtain⟨l,o,vs,e2,m,h1,ko,q,u⟩:=rs.lst i _ xs e1;have eo:o=.lst vs:=ko;subst eo;refine⟨A,st,d,rs,hd,λv H' s rv=>⟨.ref l,e2,A,st,_,rs.mono s,hy,λw H2 s2 cK=>?_⟩⟩
  have ql:=q.length;have hk:L2.lc vs.length k=some n:=by rw[ql,cx];exact pX hn
  refine⟨l,vs,k,n,rfl,cK.int,(s.trans s2) _ _ h1,hk,?_⟩;obtain⟨w1,w2⟩:=(rs.mono (s.trans s2)).write e1 e2 (k1:=.l) (ds:=xs.set n d) (vs':=vs.set n v) rfl (bC.set (rv.mono (aY.hide s2)) n (q.mono (aY.hide (s.trans s2))));exact p A _ _ ((Le.of (s.trans s2)).trans w2) w1
 .cases h5
def Nx(i:Nat) {dp:Pos} (hN:X.N.Nodup) (hi:X.N[i]?=some x:=by rfl) (hx:Loc X.env.scope x:=by first|exact Or.inl rfl|exact Or.inr rfl) (hs:swapsWith (.Dict [] [] dp) (some (.Name x pos')) pos.line X.env=pure false:=by rfl)
  (hf:X.fn x=true\/X.env.scope.names.lookup x=some .local:=by first|exact .inl rfl|exact .inr rfl|assumption):PS X (.Assign [.Name x pos'] (.Dict [] [] dp) pos) (tS X.K B (zt i false)):=iY (Gn hN hi hx u9 hs hf) (by
 rintro Dn σ H ⟨A,st,r,rs,hr,p⟩;cases hr;exact λa ha=>p (a::A) _ _ (Yp ha) (rs.Cj (kk:=.d false []) i ha (.inl ⟨rfl,[],rfl,rfl,rfl⟩) .nil))
def bLc:V->V->V->Hp->(Hp->Prop)->Prop:=λo i v H Q=>∃p H',o=.ref p/\Pk H p i v H'/\Q H'
def set_dict(hu:X.A.units+64<cLine):LF X bLc:=by
 intro aa s σ H o i v ov iv u Q I ro ri rv h;obtain⟨p,H',rfl,g,q⟩:=h;cases ro;exact Q7 (by omega) I g ri rv λs' I'=>⟨H',I',q⟩
def my(hu:X.A.units+64<cLine)(i:Nat) {j:Expr} (hj:PE X j (tI X.K B g)) (he:PE X e (tI X.K B f)) (hN:X.N[i]?=some x:=by rfl) (hv:Sf X.env.scope x:=by first|exact Or.inl rfl|exact Or.inr (Or.inl rfl)|exact Or.inr (Or.inr rfl)) (hd:(x==("__debug__":Str))=false:=by decide)
  (Ec:(x==("__classdict__":Str))=false:=by decide)
  (ha:∀v,assign (.Subscript (.Name x p1) j p2) X.env v=(do
   let ov <- holding [v] (eval (.Name x p1) X.env)
   let iv <- holding [v,ov] (eval j X.env)
   standAt p2
   holding [v,ov,iv] (setItem ov iv v)
   release [v,ov,iv] []):=by intro _;rfl)
  (hs:swapsWithSole [.Subscript (.Name x p1) j p2] e pos.line X.env=pure false:=by rfl) (hw:swappedStores [.Subscript (.Name x p1) j p2] e X.env=pure none:=by rfl)
  (h1:(assignEach [.Subscript (.Name x p1) j p2] X.env).map (·.2)=[assign (.Subscript (.Name x p1) j p2) X.env]:=by rfl) :
  PS X (.Assign [.Subscript (.Name x p1) j p2] e pos) (tS X.K B (Vd i g f)):=by
 refine iY (Qs he (Rx (mQ hN hv hd Ec) hj (set_dict hu) ha) hs hw h1) ?_
 rintro Dn σ H ⟨A,st,r,rs,hr,p⟩;obtain⟨d,hd,h3⟩:=R.ja hr;obtain⟨k,hk,h5⟩:=R.ja h3;split at h5
 .rename_i t ks ds e1;obtain⟨c,h6⟩:=aJ h5;cases h6;obtain⟨l,o,vs,e2,m,h1,ko,q,u⟩:=rs.lst i _ _ e1;refine⟨A,st,d,rs,hd,λv H' s rv=>⟨.ref l,e2,A,st,k,rs.mono s,hk,λw H2 s2 rk=>?_⟩⟩
  have hl:H2 l=some o:=(s.trans s2) _ _ h1;have q2:=q.mono (aY.hide (s.trans s2));have V1:=rv.mono (aY.hide s2);have U1:Va X.K H2 k w:=rk.mono (bA _ _);have Ya:ds.length<sizeLine:=by have:=c.2;rw[jH]at this;exact ue this (by decide)
  have ql:=q.length;rcases ko with ⟨rfl,ma,rfl,rfl,rfl⟩|⟨rfl,ma,rfl,rfl,rfl⟩
  .obtain⟨k',e3,e4⟩:=yD U1 c.1;subst e3 e4;obtain⟨z1,z2⟩:=Kx Ip k' v d V1 ma ds q2;refine⟨l,_,rfl,Pk.k hl (by rw[uc]at ql;omega),?_⟩
   obtain⟨w1,w2⟩:=(rs.mono (s.trans s2)).write e1 e2 (k1:=.d false (oJ (ma.map λp=>gQ p.1) (gQ k'))) (.inl ⟨rfl,Vb ma k' v,rfl,z1,rfl⟩) z2
   exact p A _ _ ((Le.of (s.trans s2)).trans w2) w1
  .obtain⟨k',b,e3,e4,e5⟩:=DN U1 c.1;subst e3 e4;obtain⟨z1,z2⟩:=Kx (E:=λl=>D.tup (l.map gQ)) MR k' v d V1 ma ds q2
   refine⟨l,_,rfl,Pk.t hl e5 (by rw[uc]at ql;omega),?_⟩
   obtain⟨w1,w2⟩:=(rs.mono (s.trans s2)).write e1 e2 (k1:=.d true (oJ (ma.map λp=>D.tup (p.1.map gQ)) (.tup (k'.map gQ)))) (.inr ⟨rfl,Vb ma k' v,rfl,z1,rfl⟩) z2
   exact p A _ _ ((Le.of (s.trans s2)).trans w2) w1
 .cases h5
def bN2{lo hi:Option Expr}{l u:yn} (ha:PE X a (tP X.K B f)) (hl:PO X lo (tO X.K B l)) (hu:PO X hi (tO X.K B u)):PE X (.Subscript a (.Slice lo hi none p2) pos) (tF X.K B (bj f l u)):=by
 refine cL (KQ CS ha hl hu) ?_
 rintro σ H Q ⟨A,st,d,rs,hd,q⟩;obtain⟨x,hx,h2⟩:=R.ja hd;obtain⟨l',Ar,h3⟩:=R.ja h2;obtain⟨u',Cc,h4⟩:=R.ja h3;refine⟨A,st,x,rs,hx,λv H1 s1 r1=>⟨A,st,l',rs.mono s1,Ar,λH2 s2=>⟨A,st,u',rs.mono (s1.trans s2),Cc,λH3 s3=>?_⟩⟩⟩
 have r3:=r1.mono (s2.trans s3);cases x<;>first|(cases h4;done)|skip
 .obtain⟨c,h5⟩:=aJ h4;cases h5
 .cases h4;obtain⟨p,vs,e,h6,r6⟩:=r3.lst;exact⟨p,vs,e,h6,λn hn=>q n _ H3 (s1.trans (s2.trans s3)) hn (PR _ _ r6)⟩
def bLd(i:Nat){x:Str} (he:PE X e (tF X.K B f)) (hN:X.N[i]?=some x:=by rfl) (hv:Sf X.env.scope x:=by first|exact Or.inl rfl|exact Or.inr (Or.inl rfl)|exact Or.inr (Or.inr rfl)) (hd:(x==("__debug__":Str))=false:=by decide)
  (Ec:(x==("__classdict__":Str))=false:=by decide) (qb:attributeBase (.Name x p1) "extend" X.env (eval (.Name x p1) X.env)=eval (.Name x p1) X.env:=by rfl)
  (md:((backTo Aa (starEach [e] X.env)).all (λx=>!x.1)&&(backToKw Aa (keywordEach [] X.env)).all (λx=>x.1.isSome)
   && decide (([e]:List Expr).length+([]:List Keyword).length+(if ([]:List Keyword).isEmpty then 0 else 1)<30))=true:=by rfl)
  (ub:(Oa.endLine==Aa.line)=true:=by rfl) (hs:starEach [e] X.env=(false,eval e X.env)::starEach [] X.env:=by rfl)
  (Mg:swapsWith (.Call (.Attribute (.Name x p1) "extend" Oa) [e] [] Aa) none pos.line X.env=pure false:=by rfl) :
  PS X (.Expr (.Call (.Attribute (.Name x p1) "extend" Oa) [e] [] Aa) pos) (tS X.K B (Qy i f)):=by
 refine iY (Dp (tm Gq PySem.F.slot_list_extend PySem.F.type_list_extend M7 (mQ hN hv hd Ec) (cM he fL hs) qb md ub hs rfl) Mg) ?_
 rintro Dn σ H ⟨A,st,r,rs,hr,p⟩;obtain⟨d,hd,h3⟩:=R.ja hr;cases d<;>first|(cases h3;done)|skip
 rename_i ys;have Bo:(match st[i]? with|some (some (.o .l xs))=>aV (xs.length+ys.length<=big) (R.ok (Fl.nx (st.set i (some (.o .l (xs++ys))))))|_=>.bad)=.ok r:=h3
 split at Bo
 .rename_i xs e1;obtain⟨c,h4⟩:=aJ Bo;cases h4;obtain⟨l,o,vs,e2,m,h1,ko,q,u⟩:=rs.lst i _ xs e1;have eo:o=.lst vs:=ko;subst eo;refine⟨.ref l,e2,.inl ⟨rfl,vs,jc.of h1⟩,A,st,ys,rs,hd,λn zs H' s hn rz=>?_⟩
  have ql:=q.length;have zl:=rz.length;have hl:H' l=some (.lst vs):=s _ _ h1;have ne:l≠n:=bB hl hn;refine⟨l,n,vs,zs,rfl,rfl,by rw[bF ne];exact hl,bL,by rw[ql,zl];exact lim c,?_⟩
  have s2:=s.trans (bT (o:=HO.lst zs) hn);obtain⟨w1,w2⟩:=(rs.mono s2).write e1 e2 (k1:=.l) (ds:=xs++ys) (vs':=vs++zs) rfl ((q.mono (aY.hide s2)).append (rz.mono (aY.hide (bT hn))));exact p A _ _ ((Le.of s2).trans w2) w1
 .cases Bo
end
section
open PySem.SeqAt
open PySem.AutoSeq1 (wpAny_loadPart')
open PySem.MeetsSeq PySem.MeetsSeq2 PySem.MeetsSeq3
inductive Ph (A:Around) (s:Shared):List Value->List Value->Bool->Prop where
 |nn:Ph A s [] [] false
 |nc {w:Value} {ws:List Value}:Ph A s [] (w::ws) true
 |cn {v:Value} {vs:List Value}:Ph A s (v::vs) [] false
 |eq {v w:Value} {vs ws:List Value} {b:Bool}:EqAt A s v w true->Ph A s vs ws b->Ph A s (v::vs) (w::ws) b
 |lt {v w:Value} {vs ws:List Value} {b:Bool}:EqAt A s v w false->(∀(prog:Program)(wd:World)(E Q:Value->Shared->Prop),Q (.bool b) s->wpAny (model prog wd) A (richCompare .Lt v w) Q E s)->Ph A s (v::vs) (w::ws) b
end
structure ClsAt(K:Frag)(c:String)(C:Addr):Prop where
 ns:nsIn K mainGlobals (Str.ofString c)=some (some (.ref C))
 cl:Lj K C
def yF{a b:String}(h:Str.ofString a=Str.ofString b):a=b:=by
 have h1:(Str.ofString a).cps=(Str.ofString b).cps:=by rw[h]
 rw[Str.ofString_eq_toList,Str.ofString_eq_toList]at h1;have h2:a.toList.map Char.toNat=b.toList.map Char.toNat:=by
  have:=congrArg Array.toList h1;simpa using this
 have inj:∀(x y:List Char),x.map Char.toNat=y.map Char.toNat->x=y:=by
  intro x
  induction x with
  |nil=>intro y h;cases y with|nil=>rfl|cons _ _=>simp at h
  |cons a x ih=>
   intro y h;cases y with
   |nil=>simp at h
   |cons b y=>
    rw[wc,wc]at h;injection h with h3 h4
    rw[ih y h4];congr 1;exact Char.ext (UInt32.toNat_inj.mp h3)
 exact String.toList_inj.mp (inj _ _ h2)
section
variable{K:Frag}
theorem JO{f:String}:∀{ns:List String}{ds:List D} {fs:List (Str×V)} {d:D},fs.map (·.1)=ns.map Str.ofString->bC K H ds (fs.map (·.2))->(ns.zip ds).lookup f=some d->∃v,fs.lookup (Str.ofString f)=some v/\Va K H d v
 |[],ds,fs,d,_,_,h=>by simp at h
 |n::ns,[],fs,d,_,_,h=>by simp at h
 |n::ns,d0::ds,[],d,e,_,h=>by simp at e
 |n::ns,d0::ds,(g,w)::fs,d,e,r,h=>by
  rw[wc,wc]at e;injection e with e1 e2
  obtain⟨v,r',e3,h1,h2⟩:=bN.mp r;rw[wc]at e3;injection e3 with e4 e5
  subst e4 e5;have yf:g=Str.ofString n:=e1;subst yf;rw[zu,Wg]at h;rw[Wg]
  by_cases hf:f=n
  .subst hf;simp only[beq_self_eq_true]at h ⊢;cases h;exact⟨_,rfl,h1⟩
  .have hb:(f==n)=false:=Yj.mpr hf;have Fh:(Str.ofString f==Str.ofString n)=false:=Yj.mpr λz=>hf (yF z)
   rw[hb]at h;rw[Fh];exact JO e2 h2 h
theorem lookup_none{f:String}:∀{ns:List String} {fs:List (Str×V)},fs.map (·.1)=ns.map Str.ofString->f∉ns->fs.lookup (Str.ofString f)=none
 |[],fs,e,_=>by cases fs with|nil=>rfl|cons _ _=>simp at e
 |n::ns,[],e,_=>rfl
 |n::ns,(g,w)::fs,e,h=>by
  rw[wc,wc]at e;injection e with e1 e2
  have yf:g=Str.ofString n:=e1;subst yf;rw[Wg];have Fh:(Str.ofString f==Str.ofString n)=false:=Yj.mpr λz=>h (by rw[yF z];exact xb)
  rw[Fh];exact lookup_none e2 λz=>h (Bb _ z)
theorem XR{f:String}{v:V}:∀{ns:List String} {fs:List (Str×V)},fs.map (·.1)=ns.map Str.ofString->f∉ns->zL (Str.ofString f) v fs=fs++[(Str.ofString f,v)]
 |[],fs,e,_=>by cases fs with|nil=>rfl|cons _ _=>simp at e
 |n::ns,[],e,_=>by simp at e
 |n::ns,(g,w)::fs,e,h=>by
  rw[wc,wc]at e;injection e with e1 e2
  have yf:g=Str.ofString n:=e1;subst yf;unfold zL;rw[La (λz=>h (by rw[yF z];exact xb)),XR e2 λz=>h (Bb _ z)]
  rfl
end
section
variable{X:Cx}{B:List Addr}{a b e o:Expr}{f g:Ex}{pos:Pos}
theorem lG.ins{K:Frag}{A:List Addr}{H:Hp}{c:String}{ns:List String}{ds:List D}{v:V}(h:lG K A H (.ins c ns ds) v):∃p C dx fs,v=.ref p/\H p=some (.ins C dx fs)/\nsIn K mainGlobals (Str.ofString c)=some (some (.ref C))/\fs.map (·.1)=ns.map Str.ofString/\bC K (hide A H) ds (fs.map (·.2)):=by
 rcases h with h|⟨p,kk,o,Pz,vs,e,e2,h,ko,r⟩
 .obtain⟨p,C,dx,fs,vs,e,q1,q2,q3,q4,r⟩:=WD.mp h;subst q4;exact⟨p,C,dx,fs,e,bA _ _ _ _ q1,q2,q3,r⟩
 .cases kk<;>cases e;obtain⟨_,C,dx,fs,rfl,q2,q3,rfl⟩:=ko;exact⟨p,C,dx,fs,e2,h,q2,q3,r⟩
def uB{c f':String} (hc:ClsAt X.K c C) (hn:mR X.K C (Str.ofString f')) (ho:PE X o (tP X.K B f)) (hb:attributeBase o (Str.ofString f') X.env (eval o X.env)=eval o X.env:=by rfl) :
  PE X (.Attribute o (Str.ofString f') pos) (tI X.K B (e1 (jN c f') f)):=by
 refine cL (bG4 ho hb) ?_
 rintro σ H Q ⟨A,st,d,rs,hd,q⟩;obtain⟨x,hx,h2⟩:=R.ja hd;refine⟨A,st,x,rs,hx,λv H1 s1 r1=>?_⟩
 cases x<;>first|(cases h2;done)|skip
 obtain⟨e1,h3⟩:=aJ h2;subst e1;obtain⟨p,C',dx,fs,e2,h4,h5,h6,h7⟩:=r1.ins;have:C'=C:=by have z:=h5.symm.trans hc.ns;injection z with z;injection z with z;injection z
 subst this;obtain⟨w,h8,h9⟩:=JO h6 h7 (pX h3);exact⟨p,C',dx,fs,w,e2,h4,hc.cl,hn,h8,q w H1 s1 h9⟩
structure Xb(P:Program)(w:World)(K:Frag)(mg:Str->Option Value)(base:Heap)(c m:String)(k np:Nat)(dv:List D)(p:List D->R D):Prop where
 ex:∃(C fa:Addr)(fd:FuncData)(ps:List Str)(dvs:List V)(ds:List Value),ClsAt K c C/\Meth K C (Str.ofString m) fa/\Ja P w K mg base yb k fa fd ps (Sb K np p)/\Binds K fd ps ds/\Ea dvs ds/\∀H,bC K H dv dvs
 len:∀ds d,p ds=.ok d->ds.length=np
def vt{c m:String}{k:Nat} {r:zd} (h:Xb X.prog X.w X.K X.mg X.base c m k np dv p) (hr:Kb j X.A) (hk:k<=j) (ho:PE X o (tI X.K B f)) (ha:PA X (e::es) (tA X.K B r))
  (wg:starEach (e::es) X.env=(false,eval e X.env)::starEach es X.env:=by rfl) (hpl:(backTo pos (starEach es X.env)).any (·.1)=false:=by rfl)
  (ht:eval (.Call (.Attribute o (Str.ofString m) Oa) (e::es) [] pos) X.env=(do
   let ov <- eval o X.env
   standAt Oa.atName
   let (f,first) <- holding [ov] (getMethod ov (Str.ofString m) pl)
   callWith pos f first (backTo pos (starEach (e::es) X.env)) (backToKw pos (keywordEach [] X.env))):=by rfl) :
  PE X (.Call (.Attribute o (Str.ofString m) Oa) (e::es) [] pos) (tI X.K B (rT c m p dv f r)):=by
 obtain⟨C,fa,fd,ps,dvs,ds,hc,hm,F,bd,vd,rd⟩:=h.ex;refine cL (AS (pl:=pl) ho hc.cl hm F (hr.mono hk) bd vd xt ha wg hpl ht) ?_
 rintro σ H Q ⟨A,st,d,rs,hd,q⟩;obtain⟨x,hx,h2⟩:=R.ja hd;obtain⟨xs,Nl,h3⟩:=R.ja h2;refine⟨A,st,x,rs,hx,λv H1 s1 r1=>?_⟩
 cases x<;>first|(cases h3;done)|skip
 obtain⟨⟨e1,hn⟩,h4⟩:=aJ h3;subst e1;obtain⟨p',C',dx,fs,e2,h5,h6,h7,h8⟩:=lG.ins (.inl r1);have:C'=C:=by have z:=h6.symm.trans hc.ns;injection z with z;injection z with z;injection z
 subst this;refine⟨p',dx,fs,e2,h5,lookup_none h7 hn,A,st,xs,rs.mono s1,Nl,λvs H2 s2 r2=>?_⟩
 exact⟨A++B,_,d,rs.own.mono (s1.trans s2),.cons (r1.mono (aY.hide s2)) (r2.append (rd _)),h.len _ _ h4,h4,λw H' s' r'=>q w H' (s1.trans (s2.trans s')) r'⟩
def CA(K:Frag)(c:String)(np:Nat)(p:List D->R D):Sp:=λvs H Q _=>∃x ws A C dx ds d,vs=.ref x::ws/\H x=some (.ins C dx [])/\nsIn K mainGlobals (Str.ofString c)=some (some (.ref C))/\Own A H/\x∉A/\bC K (hide (x::A) H) ds ws/\ds.length=np/\p ds=.ok d/\
 ∀H',aY (hide [x] H) H'->Va K (hide A H') d (.ref x)->Q .Gb H'
structure Ze(P:Program)(w:World)(K:Frag)(mg:Str->Option Value)(base:Heap)(c:String)(k np:Nat)(p:List D->R D):Prop where
 ex:∃(C fa:Addr)(fd:FuncData)(ps:List Str),ClsAt K c C/\Mk K C fa/\Ja P w K mg base yb k fa fd ps (CA K c np p)/\Binds K fd ps []/\mg (Str.ofString c)=some (.ref C)
 len:∀ds d,p ds=.ok d->ds.length=np
def OE{c:String}{k:Nat} {r:zd} (h:Ze X.prog X.w X.K X.mg X.base c k np p) (hr:Kb j X.A) (hk:k+1<=j) (ha:PA X (e::es) (tA X.K B r)) (hg:Gl X (Str.ofString c):=by rfl) (Ig:(Str.ofString c==("__debug__":Str))=false:=by decide)
  (he:starEach (e::es) X.env=(false,eval e X.env)::starEach es X.env:=by rfl) (hpl:(backTo pos (starEach es X.env)).any (·.1)=false:=by rfl):PE X (.Call (.Name (Str.ofString c) p0) (e::es) [] pos) (tI X.K B (aK p r)):=by
 obtain⟨C,fa,fd,ps,hc,M,F,bd,hm⟩:=h.ex;refine cL (ξ M F (hr.mono hk) hg hm bd .nil xt ha Ig he hpl) ?_
 rintro σ H Q ⟨A,st,d,rs,hd,q⟩;obtain⟨xs,hx,h2⟩:=R.ja hd;refine⟨A,st,xs,rs,hx,λvs H1 s1 r1 x dx fA hdx Ee=>?_⟩
 have w1:=rs.own.mono s1;have RI:x∉A++B:=w1.free fA;have e0:∀b u,H1 b=some u->Ua (Ua H1 dx (.own x)) x (.ins C dx []) b=some u:=λb u z=>by
  rw[bF (bB z fA),bF (bB z hdx)];exact z
 refine⟨x,vs++[],A++B,C,dx,xs,d,rfl,bL,hc.ns,λb hb=>?_,RI,?_,h.len _ _ h2,h2,λH' sm rd=>⟨rfl,q _ H' (λb u z=>?_) rd⟩⟩
 .obtain⟨u,z,n⟩:=bX (w1 b hb);rw[e0 b u z];exact n
 .rw[Di];refine r1.mono λb u z=>?_
  have z1:=bA _ _ _ _ z;have hb:b∉A++B:=λy=>by rw[cY y]at z;cases z
  rw[bK (λy=>(Nb.mp y).elim (bB z1 fA) hb)]
  exact e0 b u z1
 .have z1:=s1 _ _ z;exact sm b u (by rw[bK (by simpa using bB z1 fA)];exact e0 b u z1)
def A8{K:Frag} {x dx:Addr} {c:String} (w:Own A H) (RI:x∉A) (hx:H x=some (.ins C dx [])) (Br:nsIn K mainGlobals (Str.ofString c)=some (some (.ref C))) (r:bC K (hide (x::A) H) ds ws) :
  RS K A [x] H (some (Sl.o (.i x c []) [])::(ds.map (λd=>some (Sl.v d))++List.replicate (N.length-ds.length-1) none)) (L2.start N (.ref x::ws)):=by
 have hl:=r.length;have sh:L2.start N (.ref x::ws)=some (.ref x)::(ws.map some++List.replicate (N.length-ds.length-1) none):=by
  unfold L2.start;rw[wc,List.cons_append,Qd,hl];congr 2
 rw[sh];have Hr:∀(i:Nat)(s:Sl),(ds.map (λd=>some (Sl.v d))++List.replicate (N.length-ds.length-1) none)[i]?=some (some s)->∃d,ds[i]?=some d/\s=.v d:=λi s e=>by
  by_cases hi:i<ds.length
  .rw[Vi (by simpa using hi),List.getElem?_map,List.getElem?_eq_getElem hi]at e
   simp at e;exact⟨ds[i],Pc hi,e.symm⟩
  .rw[bu (by simpa using hi),List.getElem?_replicate]at e
   split at e<;>simp at e
 refine⟨by simp[hl],λb hb=>?_,λb hb=>by rw[cc.mp hb];exact RI,λi d e=>?_,λi k xs e=>?_⟩
 .rcases Ed.mp hb with hb|hb
  .rw[cc.mp hb,hx];rfl
  .exact w b hb
 .cases i with
  |zero=>simp at e
  |succ i=>
   rw[su]at e;obtain⟨d',e1,e2⟩:=Hr i _ e;cases e2;obtain⟨v,hv,rv⟩:=r.get e1;refine⟨v,?_,rv⟩;have hi:i<ws.length:=(Kd.mp hv).1;rw[su,Vi (by simpa using hi),List.getElem?_map,hv]
   rfl
 .cases i with
  |zero=>
   simp at e;obtain⟨rfl,rfl⟩:=e;refine⟨x,_,[],rfl,cc.mpr rfl,hx,⟨rfl,C,dx,[],rfl,Br,rfl,rfl⟩,.nil,λj k' ys ej _=>?_⟩
   cases j with
   |zero=>rfl
   |succ j=>
    rw[su]at ej;obtain⟨_,_,e2⟩:=Hr j _ ej;cases e2
  |succ i=>
   rw[su]at e;obtain⟨_,_,e2⟩:=Hr i _ e;cases e2
def ϴ{K:Frag} {st:Stmt} {f:Addr} {k:Nat} (F:An K x qual st f fd) (S:oa N ps (aH st)) (c:String) (np n:Nat) (bd:Bd) (ik:ps.length=np+1) (hn:N.length=n)
  (hb:∀(Qa:Value)(A:Around)(outer:List Env)(s:Shared)(H:Hp)(E:XK)(B:List Addr),Kb k (A.deeper (envOfC qual (aH st) s.heap.objs.size f Qa))->
   Dc (Ri yb P w K mg base N qual (aH st) f Qa A outer s H E).qk (dY st) (tS K B bd)):Ja P w K mg base yb (k+1) f fd ps (CA K c np (Qk c np n bd)):=by
 refine F.ok S (λvs H Q E h=>?_) (λQa A outer s H vs Q E hr h=>?_)
 .obtain⟨y,ws,A,C,dx,ds,d,rfl,_,_,_,_,r,hl,_⟩:=h;rw[Qd,r.length,hl,ik]
 .obtain⟨y,ws,A',C,dx,ds,d,rfl,hy,Br,own,iA,r,hl,hp,q⟩:=h;refine⟨tS K A' bd,hb Qa A outer s H E A' hr,?_⟩;obtain⟨_,h2⟩:=aJ (DS hp y);obtain⟨fl,Tc,h3⟩:=R.ja h2;have rs:=A8 (N:=N) (c:=c) own iA hy Br r;rw[hl,hn]at rs;refine⟨[y],_,fl,rs,Tc,?_⟩;cases fl with
  |nx s1=>
   intro A1 Cp H1 l vn;have Bo:(match (s1[0]?:Option (Option Sl)) with|some (some (.o (.i y' c' ns) xs))=>aV (y'=y) (R.ok (D.ins c' ns xs))|_=>.bad)=.ok d:=h3
   split at Bo
   .rename_i y' c' ns xs e1;obtain⟨rfl,h4⟩:=aJ Bo;cases h4;obtain⟨a,o,vs,e2,m,h5,ko,r5,_⟩:=vn.lst 0 _ _ e1;have ea:a=y':=ko.1;subst ea;refine q H1 (aY.trans (show aY (hide [a] H) (hide A1 H1) from l) (bA _ _)) ?_
    have:=ko.rep (H:=hide A' H1) (ds:=xs) (by rw[bK (vn.ye a m)];exact h5) (r5.mono (fW λb hb=>Zc _ hb))
    exact this
   .cases Bo
  |rt d'=>cases h3
  |bk s1=>cases h3
  |ct s1=>cases h3
def K_{c:String} (ds:List D) (d:D) (h:Qk c np n bd ds=.ok d):ds.length=np:=(aJ (DS h 0)).1
def ny(i:Nat) {c f':String} {value:Expr} (hc:ClsAt X.K c C) (hn:mR X.K C (Str.ofString f')) (he:PE X value (tI X.K B f)) (hN:X.N[i]?=some x:=by rfl) (hv:Sf X.env.scope x:=by first|exact Or.inl rfl|exact Or.inr (Or.inl rfl)|exact Or.inr (Or.inr rfl)) (hd:(x==("__debug__":Str))=false:=by decide)
  (Ec:(x==("__classdict__":Str))=false:=by decide) (hs:swapsWith value (some (.Attribute (.Name x p1) (Str.ofString f') p2)) pos.line X.env=pure false:=by rfl) :
  PS X (.Assign [.Attribute (.Name x p1) (Str.ofString f') p2] value pos) (tS X.K B (bq i c f' f)):=by
 refine iY (bG5 (mQ hN hv hd Ec) he hs) ?_
 rintro Dn σ H ⟨A,st,r,rs,hr,p⟩;obtain⟨d,hd,h3⟩:=R.ja hr;split at h3
 .rename_i n c' ns xs e1;obtain⟨⟨ec,hf,Ya⟩,h4⟩:=aJ h3;subst ec;cases h4;obtain⟨l,o,vs,e2,m,h1,ko,q,u⟩:=rs.lst i _ _ e1;obtain⟨el,C',dx,fs,rfl,k1,k2,rfl⟩:=ko;have:C'=C:=by have z:=k1.symm.trans hc.ns;injection z with z;injection z with z;injection z
  subst this;refine⟨A,st,d,rs,hd,λy H1 s1 r1=>⟨.ref l,e2,l,C',dx,fs,rfl,s1 _ _ h1,hc.cl,hn,?_,?_⟩⟩
  .have:=congrArg List.length k2;rw[uc,uc]at this;omega
  .rw[XR k2 hf];obtain⟨w1,w2⟩:=(rs.mono s1).write e1 e2 (k1:=.i n c' (ns++[f'])) (o':=.ins C' dx (fs++[(Str.ofString f',y)])) (ds:=xs++[d]) (vs':=fs.map (·.2)++[y]) ⟨el,C',dx,_,rfl,k1,by rw[Hf,Hf,k2];rfl,by rw[Hf];rfl⟩ ((q.mono (aY.hide s1)).append (.cons r1 .nil))
   exact p A _ _ ((Le.of s1).trans w2) w1
 .cases h3
def yG:PS X sm (tS X.K B nO):=λ_ _ _ _ _ _ ⟨_,_,_,_,h,_⟩=>nomatch h
end
section
variable {iter c:Expr} {t:Tg} {u:Ex}
def Jw{H3 H5:Hp}{s3 s5:Shared}{fp:List Addr}{p:Addr}{m5:Str->Option Value} (hN:X.N.Nodup) (hi:X.N[i]?=some x) (hx:Loc X.env.scope x)
  (hf:X.fn x=true\/X.env.scope.names.lookup x=some .local) (hC:s3.heap.objs.size<=C) (I3:xa X aa σ H3 s3) (bg:∀b∈fp,vh X aa H3 b) (I5:xa (cC X scope C s3 H3 fp) [] τ H5 s5) (Lg:s5.heap.Ns C m5)
  (hQ:∀s',xa X aa (σ.set i (some (.ref p))) H5 s'->Qf .none s'):compPost (model X.prog X.w) X.A X.xe (some (assign (.Name x px) X.env)) Qf (.ref p) C (.ok .next) s5:=by
 have Rr:xa X aa σ H5 {s5 with heap:=s5.heap}:=Mx I3 bg hC I5 (.refl ..)
 have lt:∀b o,s3.heap.get? b=some o->C≠b:=λb o e z=>Cg _ (ue (dc (z ▸ e)) hC)
 have hL:C≠X.env.locals:=λz=>Cg _ (ue (z ▸ I3.lt) hC)
 have hc:∀y c,X.env.cells.lookup y=some c->c≠C:=λy c e=>by
  obtain⟨v,o,ho,_⟩:=I3.cell y c e;exact(lt c o ho).symm
 have hp:∀q∈X.pn++aa,q.1≠C:=λq hq=>(lt q.1 q.2 (I3.pin q hq).1).symm
 show wpAny _ X.A (assign (.Name x px) X.env (.ref p)) _ _ _;refine wpAny_assign_Name (VO (v:=.ref p) Rr hN hi hx rfl (λs6 I6 ⟨a,hs,ha⟩=>?_) hf)
 have hCa:C≠a:=by
  rcases ha with z|z
  .rw[z];exact hL
  .exact(hc x a z).symm
 refine⟨m5,Lg.sameBut hs hCa,λh' Vo=>hQ _ ?_⟩
 exact I6.turned (t':=s6.toks) (λb o hb e=>(Vo.2 b hb).trans e) (show H5 C=none from I5.free) hL (.inr (Zd I3.sz hC)) hc hp
def bI2(i:Nat){x:Str} (is:List Nat) (Rb:Uj is t) (S:Jb X scope is) (hi:L2.PI X tg iter (Oh X.K B it)) (hg:∀(B:List Addr)(C:Addr)(ua:Shared)(za:Hp)(fp:List Addr),PG (cC X scope C ua za fp) tg (tG X.K B t))
  (he:∀(B:List Addr)(C:Addr)(ua:Shared)(za:Hp)(fp:List Addr),PE (cC X scope C ua za fp) elt (tI X.K B f)) (hc:X.calm=true) (hN:X.N.Nodup) (Oe:X.N[i]?=some x:=by rfl) (hx:Loc X.env.scope x:=by first|exact Or.inl rfl|exact Or.inr rfl)
  (Mg:swapsWith (.ListComp elt [⟨tg,iter,[],0⟩] scope pos) (some (.Name x px)) Rg.line X.env=pure true:=by rfl)
  (hf:X.fn x=true\/X.env.scope.names.lookup x=some .local:=by first|exact .inl rfl|exact .inr rfl|assumption) (hs:∀x,foldedSetIterable iter X.env x=pure x:=by intro _;rfl) :
  PS X (.Assign [.Name x px] (.ListComp elt [⟨tg,iter,[],0⟩] scope pos) Rg) (tS X.K B (dH i (dI is t it cH f))):=by
 intro aa s σ H Dn I h;obtain⟨A,st,r,rs,hr,q⟩:=h;obtain⟨d,hd,h3⟩:=R.ja hr;cases h3;obtain⟨xs,vj,h2⟩:=R.ja hd;obtain⟨hl,h3⟩:=aJ h2;obtain⟨ys,hy,h4⟩:=R.ja h3;cases h4;rw[jz _ _ _ _ Mg];refine Ca (Gm (Ca ?_));show wpAny _ X.A (do let _ <- comprehension (.ListComp elt [⟨tg,iter,[],0⟩] scope pos) scope X.env _ (newList []) false (eval iter X.env) (some (assign (.Name x px) X.env))) _ _ s
 refine Ca (Wh (Q:=λ_ s'=>SP X aa Dn .next s') ?_ (λ_ s' hq=>kb (kb hq)) λ_ _ e=>e)
 refine pY (use:=some (assign (.Name x px) X.env)) (Qf:=λ_ s'=>SP X aa Dn .next s') (Q:=λv H'=>Dn.nx (σ.set i (some v)) H') (tt:=uX) (te:=yk X.K f) (rest:=λenv it p=>eval elt env >>= λx=>call (.builtin "list.append") [p,x] >>= λ_=>again (.compLoop (.ListComp elt [⟨tg,iter,[],0⟩] scope pos) 0 it p env)) S hc hi (λC ua za fp=>ao λB=>hg B C ua za fp) (λ_ _ _=>nQ)
  (λC ua za fp it p s Q h=>Zt (Y:=cC X scope C ua za fp) h) (λC ua za fp it p τ H s aa vs N Q I h q=>Ft (Y:=cC X scope C ua za fp) rfl (Cq λB=>he B C ua za fp) τ H s aa vs N Q I h (λQ Q' m h=>wX Q Q' m h) q) hs I
  (vq Rb (λτ H Q ⟨B,A,st,k,rs,hk,q⟩=>?_) rs vj hl hy λp vs H1 H' s1 hp s2 hv r=>ky (Q:=λv H'=>Dn.nx (σ.set i (some v)) H') rs (λv H' sm rv=>q A _ H' (Le.of sm) ((rs.mono sm).set i rv)) s1 hp s2 hv r) λC p H5 s5 m5 s3 H3 fp τ hC I3 bg I5 Lg q5=>Jw hN Oe hx hf hC I3 bg I5 Lg λs' I'=>⟨_,_,I',q5⟩
 cases hk;exact q H (aY.refl _)
def L_(i:Nat){x:Str} (is:List Nat) (Rb:Uj is t) (S:Jb X scope is) (hi:L2.PI X tg iter (Oh X.K B it)) (hg:∀(B:List Addr)(C:Addr)(ua:Shared)(za:Hp)(fp:List Addr),PG (cC X scope C ua za fp) tg (tG X.K B t))
  (ht:∀(B:List Addr)(C:Addr)(ua:Shared)(za:Hp)(fp:List Addr),PT (cC X scope C ua za fp) c (tT X.K B u))
  (he:∀(B:List Addr)(C:Addr)(ua:Shared)(za:Hp)(fp:List Addr),PE (cC X scope C ua za fp) elt (tI X.K B f)) (hc:X.calm=true) (hN:X.N.Nodup) (Oe:X.N[i]?=some x:=by rfl) (hx:Loc X.env.scope x:=by first|exact Or.inl rfl|exact Or.inr rfl)
  (Mg:swapsWith (.ListComp elt [⟨tg,iter,[c],0⟩] scope pos) (some (.Name x px)) Rg.line X.env=pure true:=by rfl)
  (hf:X.fn x=true\/X.env.scope.names.lookup x=some .local:=by first|exact .inl rfl|exact .inr rfl|assumption) (hs:∀x,foldedSetIterable iter X.env x=pure x:=by intro _;rfl) :
  PS X (.Assign [.Name x px] (.ListComp elt [⟨tg,iter,[c],0⟩] scope pos) Rg) (tS X.K B (dH i (dI is t it u f))):=by
 intro aa s σ H Dn I h;obtain⟨A,st,r,rs,hr,q⟩:=h;obtain⟨d,hd,h3⟩:=R.ja hr;cases h3;obtain⟨xs,vj,h2⟩:=R.ja hd;obtain⟨hl,h3⟩:=aJ h2;obtain⟨ys,hy,h4⟩:=R.ja h3;cases h4;rw[jz _ _ _ _ Mg];refine Ca (Gm (Ca ?_));show wpAny _ X.A (do let _ <- comprehension (.ListComp elt [⟨tg,iter,[c],0⟩] scope pos) scope X.env _ (newList []) false (eval iter X.env) (some (assign (.Name x px) X.env))) _ _ s
 refine Ca (Wh (Q:=λ_ s'=>SP X aa Dn .next s') ?_ (λ_ s' hq=>kb (kb hq)) λ_ _ e=>e)
 exact pY (use:=some (assign (.Name x px) X.env)) (Qf:=λ_ s'=>SP X aa Dn .next s') (Q:=λv H'=>Dn.nx (σ.set i (some v)) H') (tt:=HA X.K u) (te:=yk X.K f) (rest:=λenv it p=>isTrue c env (eval c env) >>= λok=>if ok=true then (eval elt env >>= λx=>call (.builtin "list.append") [p,x] >>= λ_=>again (.compLoop (.ListComp elt [⟨tg,iter,[c],0⟩] scope pos) 0 it p env)) else again (.compLoop (.ListComp elt [⟨tg,iter,[c],0⟩] scope pos) 0 it p env)) S hc hi (λC ua za fp=>ao λB=>hg B C ua za fp) (λ_ _ _=>nQ)
  (λC ua za fp it p s Q h=>UX (Y:=cC X scope C ua za fp) h) (λC ua za fp it p τ H s aa vs N Q I h q=>nX (Y:=cC X scope C ua za fp) rfl (Cq λB=>he B C ua za fp) (WX λB=>ht B C ua za fp) τ H s aa vs N Q I h (λ_ Q Q' m h=>wX Q Q' m h) q) hs I
  (vq Rb (λτ H Q h=>h) rs vj hl hy λp vs H1 H' s1 hp s2 hv r=>ky (Q:=λv H'=>Dn.nx (σ.set i (some v)) H') rs (λv H' sm rv=>q A _ H' (Le.of sm) ((rs.mono sm).set i rv)) s1 hp s2 hv r) λC p H5 s5 m5 s3 H3 fp τ hC I3 bg I5 Lg q5=>Jw hN Oe hx hf hC I3 bg I5 Lg λs' I'=>⟨_,_,I',q5⟩
end
structure Pa(K:Frag)(x qual:Str)(st:Stmt)(dV:Value)(f:Addr)(fd:FuncData):Prop where
 ex:∃(oc:Value)(od:Option Addr)(kV doc pm:Value)(an:Option Addr)(Qa ct:Value) (xg:Array (Option Value)),
  fd=fnOf x qual (fX st) (dY st) (aH st) dV kV doc pm an Qa ct/\K.lookup f=some ⟨oc,od,.func fd,xg⟩/\codeIn K Qa qual=true
 kp:keepIn K (.ref f)=true
section
variable {K:Frag} {st:Stmt} {f:Addr} {k:Nat}
def Jp{od an:Option Addr} {kV doc pm Qa ct:Value} (l:K.lookup f=some ⟨oc,od,.func (fnOf x qual (fX st) (dY st) (aH st) dV kV doc pm an Qa ct),xg⟩)
  (c:codeIn K Qa qual=true) (k:keepIn K (.ref f)=true):Pa K x qual st dV f (fnOf x qual (fX st) (dY st) (aH st) dV kV doc pm an Qa ct):=⟨⟨oc,od,kV,doc,pm,an,Qa,ct,xg,rfl,l,c⟩,k⟩
def Pa.Xf(F:Pa K x qual st .none f fd)
  (h:∀(kV doc pm:Value)(an:Option Addr)(Qa ct:Value)(us:List Value),us.length=ps.length->bindArgs (fnOf x qual (fX st) (dY st) (aH st) .none kV doc pm an Qa ct) ⟨us,[]⟩=pure (ps.zip us)):Binds K fd ps []:=by
 obtain⟨oc,od,kV,doc,pm,an,Qa,ct,xg,rfl,lk,Ec⟩:=F.ex;exact .all (h kV doc pm an Qa ct)
def Pa.binds{T:Addr}{o:Obj} {ds:List Value} (F:Pa K x qual st (.ref T) f fd) (hT:K.lookup T=some o) (hd:o.data=.seq items n) (hm:m+ds.length=ps.length)
  (h:∀(kV doc pm:Value)(an:Option Addr)(Qa ct:Value)(us:List Value),us.length=m->∃k:Option (Array Value)->Sem (List (Str×Value)),bindArgs (fnOf x qual (fX st) (dY st) (aH st) (.ref T) kV doc pm an Qa ct) ⟨us,[]⟩=seqItems? (.ref T) >>= k/\k (some items)=pure (ps.zip (us++ds))):Binds K fd ps ds:=by
 obtain⟨oc,od,kV,doc,pm,an,Qa,ct,xg,rfl,lk,Ec⟩:=F.ex;intro s us KX hl;obtain⟨k,h1,h2⟩:=h kV doc pm an Qa ct us (by rw[we]at hl;omega)
 exact .of_defaults rfl (KX _ _ hT) hd h1 h2
def Pa.OJ{sp:Sp}(F:Pa K x qual st dV f fd)(S:oa N ps (aH st))(len:∀vs H Q E,sp vs H Q E->vs.length=ps.length)
  (Fg:∀(Qa:Value)(A:Around)(outer:List Env)(s:Shared)(H:Hp)(vs:List V)(Q:VK)(E:XK),Kb k (A.deeper (envOfC qual (aH st) s.heap.objs.size f Qa))->sp vs H Q E->
   ∃t,Dc (Ri yb P w K mg base N qual (aH st) f Qa A outer s H E).qk (dY st) t/\t {nx:=λ_ H'=>Q .Gb H',rt:=Q} (L2.start N vs) H):Ja P w K mg base yb (k+1) f fd ps sp:=by
 obtain⟨oc,od,kV,doc,pm,an,Qa,ct,xg,rfl,lk,Ec⟩:=F.ex;refine OW lk Ec S len λA outer s H vs Q E hr qj=>?_
 obtain⟨t,h,q⟩:=Fg Qa A outer s H vs Q E hr qj;exact⟨t,h.qk,q⟩
def cR(F:Pa K x qual st dV f fd)(S:oa N ps (aH st))(np n:Nat)(bd:Bd)(ik:ps.length=np)(hn:N.length=n)
  (hb:∀(Qa:Value)(A:Around)(outer:List Env)(s:Shared)(H:Hp)(E:XK)(B:List Addr),Kb k (A.deeper (envOfC qual (aH st) s.heap.objs.size f Qa))->
   Dc (Ri yb P w K mg base N qual (aH st) f Qa A outer s H E).qk (dY st) (tS K B bd)):Ja P w K mg base yb (k+1) f fd ps (Sb K np (cQ np n bd)):=by
 refine F.OJ S (λvs H Q E h=>?_) (λQa A outer s H vs Q E hr h=>?_)
 .obtain⟨A,ds,d,own,r,hl,_⟩:=h;rw[r.length,hl,ik]
 .obtain⟨B,ds,d,own,r,hl,hp,q⟩:=h;refine⟨tS K B bd,hb Qa A outer s H E B hr,?_⟩;obtain⟨_,h2⟩:=aJ hp;obtain⟨fl,Tc,h3⟩:=R.ja h2;have rs:=YC (N:=N) own r;rw[hl,hn]at rs;refine⟨[],_,fl,rs,Tc,?_⟩;have fin:∀{A':List Addr}{H':Hp},Le [] H A' H'->aY H H':=λ{A' H'} l=>by
   unfold Le at l;rw[wW]at l;exact l.trans (bA _ _)
  cases fl with
  |nx s1=>
   cases h3;exact λA' jb H' l Of=>q _ H' (fin l) (sV.mpr rfl)
  |rt d'=>
   cases h3;exact λA' v H' l rv=>q v H' (fin l) (rv.mono (fW λa ha=>Zc _ ha))
  |bk s1=>exact nomatch h3
  |ct s1=>exact nomatch h3
def Xb.of{c m:String} {ds:List Value} (hc:ClsAt K c C) (hm:Meth K C (Str.ofString m) f) (F:Ja P w K mg base yb k f fd ps (Sb K np (cQ np n bd))) (b:Binds K fd ps ds) (v:Ea dvs ds) (r:∀H,bC K H dv dvs):Xb P w K mg base c m k np dv (cQ np n bd):=
 ⟨⟨C,f,fd,ps,dvs,ds,hc,hm,F,b,v,r⟩,ix⟩
end
end Pu
namespace Pu
open PySem PySem.Spec PyProof.Rows L2 PySem.SeqAt
section
variable {a b o:Expr} {r:zd}
def U6:mL X (.type "list") (λvs H Q=>∃l xs,vs=[.ref l]/\(jc X.K H l xs\/af X.K H l xs)/\∀n,H n=none->Q (.ref n) (Ua H n (.lst xs))):=by
 intro aa s σ H vs us Q I r h;obtain⟨l,xs,rfl,hl,q⟩:=h;obtain⟨u,rfl,ru⟩:=r.one;obtain rfl:u=Value.ref l:=ru;rcases hl with hl|hl
 .obtain⟨Ga,rv,⟨ob,n,e,hc,_,hd⟩,hz⟩:=I.list hl;refine call_list_seq l (T:="list") (.inl rfl) e hc hd (λh' c' k hn=>?_) (by rw[rv.length]at hz;simpa using hz)
  exact⟨.ref s.heap.objs.size,_,I.laid (o:=.lst xs) (t':=s.toks) k (Cb _) ⟨hz,Ga,c',rv,hn⟩,rfl,q _ (I.Ra.fresh (Cb _))⟩
 .obtain⟨Ga,rv,⟨ob,e,hc,n,hd⟩,hz⟩:=I.tuple hl;refine call_list_seq l (T:="tuple") (.inr rfl) e hc hd (λh' c' k hn=>?_) (by rw[rv.length]at hz;simpa using hz)
  exact⟨.ref s.heap.objs.size,_,I.laid (o:=.lst xs) (t':=s.toks) k (Cb _) ⟨hz,Ga,c',rv,hn⟩,rfl,q _ (I.Ra.fresh (Cb _))⟩
def GW(hm:X.mg "list"=none)(ha:PE X a (tP X.K B f))(hg:Gl X "list":=by rfl)(hs:starEach [a] X.env=(false,eval a X.env)::starEach [] X.env:=by rfl):PE X (.Call (.Name "list" p0) [a] [] pos) (tI X.K B (e1 xy f)):=by
 refine cL (pK U6 hg hm (by rfl) (cM ha fL hs) (he:=hs)) ?_
 rintro σ H Q ⟨A,st,d,rs,hd,q⟩;obtain⟨x,hx,h2⟩:=R.ja hd;refine⟨A,st,x,rs,hx,λv H1 s1 r1=>?_⟩
 cases x<;>first|(cases h2;done)|skip
 .cases h2;obtain⟨l,vs,e,h3,r3⟩:=r1.tup;exact⟨l,vs,by rw[e],.inr h3,λn hn=>q _ _ (s1.trans (bT hn)) (jF (rs.own.mono s1) hn r3)⟩
 .cases h2;obtain⟨l,vs,e,h3,r3⟩:=r1.lst;exact⟨l,vs,by rw[e],.inl h3,λn hn=>q _ _ (s1.trans (bT hn)) (jF (rs.own.mono s1) hn r3)⟩
theorem AU:∀{l:List Bool}{us:List Value},Ea (l.map V.bl) us->us=l.map Value.bool
 |[],_,.nil=>rfl
 |b::l,_,.cons r t=>by
  rw[AU t];cases r;rfl
def B8(hc:X.calm=true):mL X (.builtin "all") (λvs H Q=>∃(l:Addr)(bs:List Bool),vs=[.ref l]/\jc X.K H l (bs.map V.bl)/\Q (.bl (bs.all id)) H):=by
 intro aa s σ H vs us Q I r h;obtain⟨l,bs,rfl,hl,q⟩:=h;obtain⟨u,rfl,ru⟩:=r.one;obtain rfl:u=Value.ref l:=ru;obtain⟨Ga,rv,⟨ob,n,e,Fi,_,hd⟩,hz⟩:=I.list hl;have ei:=AU rv;have qA:s.heap.IsList l Ga.toArray:=⟨ob,e,Fi,n,hd⟩;have Qb:l<s.heap.objs.size:=dc e;refine call_all_walk (Az qA ⟨s.heap.objs.size,_,_,_,_,_,λi=>bs[i]?.getD false,rfl,Walks.list (A:=X.A.in1) (I.ok.hd hc) _ l (Hd Qb) Ga.toArray,⟨⟨_,Pd _ rfl,rfl,rfl⟩,qA.push _⟩,?_,λh' tk k=>?_⟩)
 .intro i v s' Q' E' hv hq;rw[ei]at hv;simp only[List.getElem?_toArray,List.getElem?_map,Option.map_eq_some_iff]at hv;obtain⟨b,hb,rfl⟩:=hv;have sd:Q' (bs[i]?.getD false) s':=hq;rw[hb]at sd;exact kb sd
 .refine⟨.bl (bs.all id),H,I.kept (λb u z=>k b u (λhb=>?_) (Tb _ z)),?_,q⟩
  .have:=cc.mp hb;exact Cg _ (this ▸ dc z)
  .show Value.bool _=Value.bool _;congr 1;rw[Vq,xu,xu];have hsz:Ga.toArray.size=bs.length:=by rw[ei];simp
   rw[hsz];constructor
   .intro h x hx;obtain⟨i,hi,rfl⟩:=io.mp hx;have:=h i (Qc.mpr hi);rw[Pc hi]at this;exact this
   .intro h i hi;have Oe:=Qc.mp hi;rw[Pc Oe];exact h _ (Wf Oe)
theorem BU{K:Frag}{H:Hp}:∀{l:List Bool}{vs:List V},bC K H (l.map D.bl) vs->vs=l.map V.bl
 |[],vs,h=>dD.mp h
 |b::l,vs,h=>by
  obtain⟨v,r,rfl,h1,h2⟩:=bN.mp h;rw[BU h2,cX.mp h1];rfl
def Iy(hm:X.mg "all"=none)(hc:X.calm=true)(ha:PE X a (tP X.K B f))(hg:Gl X "all":=by rfl)(hs:starEach [a] X.env=(false,eval a X.env)::starEach [] X.env:=by rfl):PE X (.Call (.Name "all" p0) [a] [] pos) (tI X.K B (e1 zi f)):=by
 refine cL (qR (B8 hc) hg hm (by rfl) (cM ha fL hs) (he:=hs)) ?_
 rintro σ H Q ⟨A,st,d,rs,hd,q⟩;obtain⟨x,hx,h2⟩:=R.ja hd;refine⟨A,st,x,rs,hx,λv H1 s1 r1=>?_⟩
 cases x<;>first|(cases h2;done)|skip
 obtain⟨bs,h3,h4⟩:=R.ja h2;cases h4;obtain⟨l,vs,e,h5,r5⟩:=r1.lst;rw[pV h3]at r5;rw[BU r5]at h5;exact⟨l,bs,by rw[e],h5,q _ H1 s1 (cX.mpr rfl)⟩
theorem YR:∀{l:List Int}{us:List Value},Ea (l.map V.int) us->∃ps:List (Int×Tok),us=ps.map (λp=>Value.int p.1 p.2)/\ps.map (·.1)=l
 |[],_,.nil=>⟨[],rfl,rfl⟩
 |b::l,_,.cons r t=>by
  obtain⟨ps,e,e2⟩:=YR t;obtain⟨t,rfl⟩:=r;exact⟨(b,t)::ps,by rw[e];rfl,by rw[wc,e2]⟩
def ZR{ps:List (Int×Tok)} (hi:i<ps.length):numAt ps.toArray i=(ps.map (·.1))[i]'(by simpa using hi):=by
 unfold numAt;rw[AG,Pc hi];simp
def C8(hc:X.calm=true):mL X (.builtin "max") (λvs H Q=>∃(l:Addr)(is:List Int),vs=[.ref l]/\jc X.K H l (is.map V.int)/\0<is.length/\Q (.int (Sg is)) H):=by
 intro aa s σ H vs us Q I r h;obtain⟨l,is,rfl,hl,hp,q⟩:=h;obtain⟨u,rfl,ru⟩:=r.one;obtain rfl:u=Value.ref l:=ru;obtain⟨Ga,rv,⟨ob,n,e,Fi,_,hd⟩,hz⟩:=I.list hl;obtain⟨ps,ei,e2⟩:=YR rv;have Ya:ps.length=is.length:=by rw[<-e2,uc]
 have qA:s.heap.IsList l (intItems ps.toArray):=⟨ob,e,Fi,n,by rw[hd,ei];simp[intItems]⟩
 refine max_intList (I.ok.hd hc) qA (by simpa [Ya] using hp) λv h' tk hv k=>?_
 obtain⟨t,rfl⟩:=intItems_at hv;refine⟨.int (Sg is),H,I.kept k,⟨t,?_⟩,q⟩;congr 1;have hs:ps.toArray.size=ps.length:=rfl;rw[hs];obtain⟨h1,h2⟩:=argBest_gt (numAt ps.toArray) (ps.length-1);have hb:argBest (λi j=>decide (numAt ps.toArray i>numAt ps.toArray j)) (ps.length-1)<ps.length:=by omega
 refine(As ?_ λx hx=>?_).symm
 .rw[ZR hb,<-e2];exact Wf _
 .rw[<-e2]at hx;obtain⟨i,hi,rfl⟩:=io.mp hx;have Oe:i<ps.length:=by simpa using hi
  rw[<-ZR Oe];exact h2 i (by omega)
theorem eD{K:Frag}{H:Hp}:∀{l:List Int}{vs:List V},bC K H (l.map D.int) vs->vs=l.map V.int
 |[],vs,h=>dD.mp h
 |b::l,vs,h=>by
  obtain⟨v,r,rfl,h1,h2⟩:=bN.mp h;rw[eD h2,bM.mp h1];rfl
def rX(hm:X.mg "max"=none)(hc:X.calm=true)(ha:PE X a (tP X.K B f))(hg:Gl X "max":=by rfl)(hs:starEach [a] X.env=(false,eval a X.env)::starEach [] X.env:=by rfl):PE X (.Call (.Name "max" p0) [a] [] pos) (tI X.K B (e1 Qn f)):=by
 refine cL (qR (C8 hc) hg hm (by rfl) (cM ha fL hs) (he:=hs)) ?_
 rintro σ H Q ⟨A,st,d,rs,hd,q⟩;obtain⟨x,hx,h2⟩:=R.ja hd;refine⟨A,st,x,rs,hx,λv H1 s1 r1=>?_⟩
 cases x<;>first|(cases h2;done)|skip
 obtain⟨is,h3,h4⟩:=R.ja h2;obtain⟨c,h4⟩:=aJ h4;cases h4;obtain⟨l,vs,e,h5,r5⟩:=r1.lst;rw[wF h3]at r5;rw[eD r5]at h5;exact⟨l,is,by rw[e],h5,c,q _ H1 s1 (bM.mpr rfl)⟩
theorem aS:∀{l:List (List Nat)} {us:List Value},Ea (l.map λt=>V.str ⟨t.toArray⟩) us->∃ps:List (Str×Tok),us=strValues ps/\ps.map (·.1)=l.map λt=>(⟨t.toArray⟩:Str)
 |[],_,.nil=>⟨[],rfl,rfl⟩
 |b::l,_,.cons r t=>by
  obtain⟨ps,e,e2⟩:=aS t;obtain⟨t,rfl⟩:=r;exact⟨(⟨b.toArray⟩,t)::ps,by rw[e];rfl,by rw[wc,e2];rfl⟩
theorem CU(x:List Nat):∀(l:List (List Nat)),Str.join ⟨x.toArray⟩ (l.map λt=>(⟨t.toArray⟩:Str))=⟨(Ek x l).toArray⟩
 |[]=>rfl
 |[a]=>rfl
 |a::b::l=>by
  show (⟨a.toArray⟩:Str)++⟨x.toArray⟩++Str.join ⟨x.toArray⟩ ((b::l).map λt=>(⟨t.toArray⟩:Str))=_
  rw[CU x (b::l)];show (⟨a.toArray++x.toArray++(Ek x (b::l)).toArray⟩:Str)=⟨(a++x++Ek x (b::l)).toArray⟩;simp
def ϵ:yi X "str.join" (λx vs H Q=>∃(z:List Nat)(l:Addr) (ts:List (List Nat)),x=.str ⟨z.toArray⟩/\vs=[.ref l]/\jc X.K H l (ts.map λt=>V.str ⟨t.toArray⟩)/\(ts.map List.length).sum+ts.length*z.length<=sizeLine/\Q (.str ⟨(Ek z ts).toArray⟩) H):=by
 intro aa s σ H x vs v us Q I rx rv h;obtain⟨z,l,ts,rfl,rfl,hl,hz,q⟩:=h;obtain⟨t,rfl⟩:=rx;obtain⟨u,rfl,ru⟩:=rv.one;obtain rfl:u=Value.ref l:=ru;obtain⟨Ga,rv,⟨ob,n,e,Fi,_,hd⟩,_⟩:=I.list hl;obtain⟨ps,ei,e2⟩:=aS rv;refine SC.join (l:=ps) ⟨ob,e,Fi,n,by rw[hd,ei]⟩ e2 ?_ λt' k=>⟨.str ⟨(Ek z ts).toArray⟩,H,I.tok _,⟨t',?_⟩,q⟩
 .unfold JoinOk;rw[Bool.not_eq_true'];show Builtin.Str.tooLong _=false;rw[StrLaws.joinTotal];unfold Builtin.Str.tooLong;refine Cd (Nat.not_lt.mpr ?_);rw[ug,uc,str_len];have:(ts.map ((λx:Str=>x.length) ∘ λt=>(⟨t.toArray⟩:Str)))=ts.map List.length:=Xi λt _=>str_len t
  rw[this];exact hz
 .rw[<-CU,<-StrLaws.glued_eq_join];rfl
theorem bS{K:Frag}{H:Hp}:∀{l:List (List Nat)} {vs:List V},bC K H (l.map D.str) vs->vs=l.map λt=>V.str ⟨t.toArray⟩
 |[],vs,h=>dD.mp h
 |b::l,vs,h=>by
  obtain⟨v,r,rfl,h1,h2⟩:=bN.mp h;rw[bS h2,eN.mp h1];rfl
def bI3(ho:PE X o (tP X.K B f))(ha:PA X (e::es) (tA X.K B r))(qb:attributeBase o "join" X.env (eval o X.env)=eval o X.env:=by rfl)
  (md:((backTo Aa (starEach (e::es) X.env)).all (λx=>!x.1)&&(backToKw Aa (keywordEach [] X.env)).all (λx=>x.1.isSome)
   && decide ((e::es).length+([]:List Keyword).length+(if ([]:List Keyword).isEmpty then 0 else 1)<30))=true:=by rfl)
  (ub:(Oa.endLine==Aa.line)=true:=by rfl) (hs:starEach (e::es) X.env=(false,eval e X.env)::starEach es X.env:=by rfl) (qd:(backTo Aa (starEach es X.env)).any (·.1)=false:=by rfl) :
  PE X (.Call (.Attribute o "join" Oa) (e::es) [] Aa) (tI X.K B (Zh iq f r)):=by
 refine SF (m:=iq) PySem.F.slot_str_join PySem.F.type_str_join ϵ (λx xs d h=>?_) (λA H x d xs v vs Q w rx Lr h k=>?_) ho ha qb md ub hs qd
 .cases x<;>first|exact⟨_,rfl⟩|exact nomatch h
 .unfold iq at h;split at h
  .obtain⟨ts,h1,h2⟩:=R.ja h;obtain⟨c,h2⟩:=aJ h2;cases h2;obtain⟨u,rfl,ru⟩:=Ht Lr;obtain⟨l,ws,e,h5,r5⟩:=lG.lst (.inl ru);rw[OQ h1]at r5;rw[bS r5]at h5;exact⟨_,l,ts,rx.str,by rw[e],h5,lim c,k _ H (aY.refl _) (eN.mpr rfl)⟩
  .cases h
end
end Pu
namespace Pu
open PySem PySem.Spec PyProof.Rows L2
abbrev XW:=D->L2.St->Hp->Prop
end Pu
namespace Pu
open PySem PySem.Spec PyProof.Rows L2
section
variable {K:Frag} {f:Addr} {k:Nat}
def Ze.of{c:String} (hc:ClsAt K c C) (hm:Mk K C f) (F:Ja P w K mg base yb k f fd ps (CA K c np (Qk c np n bd))) (b:Binds K fd ps []) (m:mg (Str.ofString c)=some (.ref C)):Ze P w K mg base c k np (Qk c np n bd):=
 ⟨⟨C,f,fd,ps,hc,hm,F,b,m⟩,K_⟩
end
section
variable{P:List α->Prop}
def DU(h:P [])(us:List α)(hl:us.length=0):P us:=by rw[jl.mp hl];exact h
def Kp(h:∀a us,us.length=n->P (a::us))(us:List α)(hl:us.length=n+1):P us:=by
 cases us with
 |nil=>cases hl
 |cons a us=>exact h a us (Nat.succ.inj hl)
def aE(h:∀a,P [a])(us:List α)(hl:us.length=1):P us:=Kp (λa=>DU (h a)) us hl
def bE(h:∀a b,P [a,b])(us:List α)(hl:us.length=2):P us:=Kp (λa=>aE (P:=λus=>P (a::us)) (h a)) us hl
def Ms(h:∀a b c,P [a,b,c])(us:List α)(hl:us.length=3):P us:=Kp (λa=>bE (P:=λus=>P (a::us)) (h a)) us hl
def EU(h:∀a b c d,P [a,b,c,d])(us:List α)(hl:us.length=4):P us:=Kp (λa=>Ms (P:=λus=>P (a::us)) (h a)) us hl
def FU(h:∀a b c d e,P [a,b,c,d,e])(us:List α)(hl:us.length=5):P us:=Kp (λa=>EU (P:=λus=>P (a::us)) (h a)) us hl
def Ϸ(h:∀a b c d e f,P [a,b,c,d,e,f])(us:List α)(hl:us.length=6):P us:=Kp (λa=>FU (P:=λus=>P (a::us)) (h a)) us hl
end
def Ke(K:Frag)(G H:Hp):List (List D)->List Addr->Prop
 |[],ps=>ps=[]
 |xs::Xa,ps=>∃p r vs,ps=p::r/\H p=some (.lst vs)/\bC K G xs vs/\Ke K G H Xa r
theorem Ke.len{K:Frag}{G H:Hp}:∀{Xa:List (List D)} {ps:List Addr},Ke K G H Xa ps->ps.length=Xa.length
 |[],ps,h=>by rw[show ps=[] from h];rfl
 |xs::Xa,ps,h=>by
  obtain⟨p,r,vs,rfl,_,_,h2⟩:=h;rw[Qd,Qd,Ke.len h2]
theorem Ke.get{K:Frag}{G H:Hp}:∀{Xa:List (List D)} {ps:List Addr} {k:Nat} {xs:List D},Ke K G H Xa ps->Xa[k]?=some xs->∃p vs,ps[k]?=some p/\H p=some (.lst vs)/\bC K G xs vs
 |[],_,_,_,_,e=>by simp at e
 |x::Xa,ps,0,xs,h,e=>by
  obtain⟨p,r,vs,rfl,h1,h2,_⟩:=h;simp at e;subst e;exact⟨p,vs,rfl,h1,h2⟩
 |x::Xa,ps,k+1,xs,h,e=>by
  obtain⟨p,r,vs,rfl,_,_,h3⟩:=h;obtain⟨p',vs',e1,e2⟩:=Ke.get (k:=k) h3 (by simpa using e)
  exact⟨p',vs',by simpa using e1,e2⟩
theorem Ke.mono{K:Frag}{G G' H H':Hp}(g:aY G G'):∀{Xa:List (List D)} {ps:List Addr},(∀p∈ps,∀o,H p=some o->H' p=some o)->Ke K G H Xa ps->Ke K G' H' Xa ps
 |[],_,_,h=>h
 |x::Xa,ps,k,h=>by
  obtain⟨p,r,vs,rfl,h1,h2,h3⟩:=h;exact⟨p,r,vs,rfl,k p xb _ h1,h2.mono g,Ke.mono g (λq hq=>k q (Bb _ hq)) h3⟩
theorem Ke.put{K:Frag}{G H:Hp}{ys:List D}{ws:List V}(hr:bC K G ys ws){p:Addr}:∀{Xa:List (List D)} {ps:List Addr} {k:Nat},ps.Nodup->ps[k]?=some p->Ke K G H Xa ps->Ke K G (Ua H p (.lst ws)) (Xa.set k ys) ps
 |[],ps,k,_,e,h=>by rw[show ps=[] from h]at e;simp at e
 |x::Xa,ps,0,nd,e,h=>by
  obtain⟨q,r,vs,rfl,h1,h2,h3⟩:=h;simp at e;subst e;exact⟨q,r,ws,rfl,bL,hr,h3.mono (aY.refl _) λz hz o e=>by rw[bF (λw:z=q=>(Gf.mp nd).1 (w ▸ hz))];exact e⟩
 |x::Xa,ps,k+1,nd,e,h=>by
  obtain⟨q,r,vs,rfl,h1,h2,h3⟩:=h;have e':r[k]?=some p:=by simpa using e
  have hp:p∈r:=Uh e';exact⟨q,r,vs,rfl,by rw[bF (λw:q=p=>(Gf.mp nd).1 (by rw[w];exact hp))];exact h1,h2,Ke.put hr (Gf.mp nd).2 e' h3⟩
structure NS(K:Frag)(B A Z:List Addr)(H:Hp)(st:ya)(σ:Df)(i:Nat)(P:Addr)(ps:List Addr)(Xa:List (List D)):Prop where
 rs:RS K (Z++B) A H st σ
 no:st[i]?=some none
 at_:σ[i]?=some (some (.ref P))
 out:H P=some (.lst (ps.map V.ref))
 Jh:Ke K (hide (A++(Z++B)) H) H Xa ps
 zb:∀z∈Z,z∉B
 zp:P∈Z
 zs:∀p∈ps,p∈Z
 nd:(P::ps).Nodup
def Ye(Z A:List Addr)(H:Hp)(A':List Addr)(H':Hp):Prop:=aY (hide (Z++A) H) (hide (Z++A') H')
theorem Ye.trans{Z A A1 A2:List Addr}{H H1 H2:Hp}(a:Ye Z A H A1 H1)(b:Ye Z A1 H1 A2 H2):Ye Z A H A2 H2:=aY.trans a b
theorem Ye.refl{Z A:List Addr}{H:Hp}:Ye Z A H A H:=aY.refl _
def Ye.of{Z:List Addr} (l:Le A H A' H'):Ye Z A H A' H':=λb o e=>by
 have e1:=bA _ _ _ _ e;have hb:b∉Z++A:=λz=>by rw[cY z]at e;cases e
 have e2:hide A H b=some o:=by rw[bK λz=>hb (Zc _ z)];exact e1
 have e3:=l b o e2;have e4:=bA _ _ _ _ e3;have uf:b∉A':=λz=>by rw[cY z]at e3;cases e3
 rw[bK λz=>(Ed.mp z).elim (λz=>hb (Dd _ z)) uf]
 exact e4
def Jy(K:Frag)(B A Z:List Addr)(H:Hp)(i:Nat)(P:Addr)(ps:List Addr)(r:Pj)(Dn:Ends):Prop:=match r with
 |.nx Xa st=>∀A' jb H',Ye Z A H A' H'->NS K B A' Z H' st jb i P ps Xa->Dn.nx jb H'
 |.rt d=>∀A' v H',Ye Z A H A' H'->Va K (hide (A'++B) H') d v->Dn.rt v H'
def Jy.mono{K:Frag}{Z A1:List Addr} {P:Addr} {ps:List Addr} {r:Pj} (l:Ye Z A H A1 H1) (h:Jy K B A Z H i P ps r Dn):Jy K B A1 Z H1 i P ps r Dn:=by
 cases r with
 |nx x s=>exact λA' jb H' l'=>h A' jb H' (l.trans l')
 |rt d=>exact λA' v H' l'=>h A' v H' (l.trans l')
def tN(K:Frag)(B:List Addr)(i:Nat)(nb:NB):TS:=λDn σ H=>∃A Z st P ps Xa r,NS K B A Z H st σ i P ps Xa/\nb Xa st=.ok r/\Jy K B A Z H i P ps r Dn
def NS.step{K:Frag}{Z:List Addr} {st:ya} {jb:Df} {P:Addr} {ps:List Addr} (n:NS K B A Z H st σ i P ps Xa) (l:Le A H A' H') (rs:RS K (Z++B) A' H' st' jb) (no:st'[i]?=some none) (at_:jb[i]?=some (some (.ref P))):NS K B A' Z H' st' jb i P ps Xa:=by
 have kp:∀p∈Z,∀o,H p=some o->H' p=some o:=λp hp o e=>by
  have hA:p∉A:=λz=>n.rs.ye p z (Dd _ hp)
  exact bA _ _ _ _ (l p o (by rw[bK hA];exact e))
 have g:aY (hide (A++(Z++B)) H) (hide (A'++(Z++B)) H'):=λb o e=>by
  have e1:=bA _ _ _ _ e;have hb:b∉A++(Z++B):=λz=>by rw[cY z]at e;cases e
  have e3:=l b o (by rw[bK λz=>hb (Dd _ z)];exact e1)
  have uf:b∉A':=λz=>by rw[cY z]at e3;cases e3
  rw[bK λz=>(Ed.mp z).elim uf λz=>hb (Zc _ z)]
  exact bA _ _ _ _ e3
 exact⟨rs,no,at_,kp P n.zp _ n.out,n.Jh.mono g λp hp=>kp p (n.zs p hp),n.zb,n.zp,n.zs,n.nd⟩
def NS.same{K:Frag}{Z:List Addr} {st:ya} {P:Addr} {ps:List Addr} (n:NS K B A Z H st σ i P ps Xa) (s:aY H H'):NS K B A Z H' st σ i P ps Xa:=n.step (Le.of s) (n.rs.mono s) n.no n.at_
def GU(h:∀a,a∈A↔a∈A'):hide A H=hide A' H:=by
 funext b
 by_cases hb:b∈A
 .rw[cY hb,cY ((h b).mp hb)]
 .rw[bK hb,bK λz=>hb ((h b).mpr z)]
def RS.shift{K:Frag}{Z:List Addr} {st:ya} (r:RS K (Z++B) A H st σ) (zb:∀z∈Z,z∉B):RS K B (Z++A) H st σ:=by
 have m:∀a,a∈A++(Z++B)↔a∈(Z++A)++B:=λa=>by
  simp only[List.mem_append];constructor
  .rintro(h|h|h)
   .exact .inl (.inr h)
   .exact .inl (.inl h)
   .exact .inr h
  .rintro((h|h)|h)
   .exact .inr (.inl h)
   .exact .inl h
   .exact .inr (.inr h)
 have e:=GU (H:=H) m;refine⟨r.len,λa ha=>r.own a ((m a).mpr ha),λa ha hb=>(Ed.mp ha).elim (λz=>zb a z hb) (λz=>r.ye a z (Zc _ hb)),λi d h=>?_,λi k xs h=>?_⟩
 .obtain⟨v,e1,q⟩:=r.val i d h;exact⟨v,e1,by rw[<-e];exact q⟩
 .obtain⟨a,o,vs,e1,e2,e3,e4,e5,e6⟩:=r.lst i k xs h;exact⟨a,o,vs,e1,Zc _ e2,e3,e4,by rw[<-e];exact e5,e6⟩
def RS.less{K:Frag}{Z:List Addr} {st:ya} (r:RS K (Z++B) A H st σ):RS K B A H st σ:=by
 have m:∀a∈A++B,a∈A++(Z++B):=λa h=>(Ed.mp h).elim (Dd _) λz=>Zc _ (Zc _ z)
 refine⟨r.len,λa ha=>r.own a (m a ha),λa ha hb=>r.ye a ha (Zc _ hb),λi d h=>?_,λi k xs h=>?_⟩
 .obtain⟨v,e1,q⟩:=r.val i d h;exact⟨v,e1,q.mono (fW m)⟩
 .obtain⟨a,o,vs,e1,e2,e3,e4,e5,e6⟩:=r.lst i k xs h;exact⟨a,o,vs,e1,e2,e3,e4,e5.mono (fW m),e6⟩
def RS.UJ{K:Frag} {st:ya} {p:Addr} {u:HO} (r:RS K B A H st σ) (hp:p∈B) (n:nT u=true:=by rfl):RS K B A (Ua H p u) st σ:=by
 have hh:hide (A++B) (Ua H p u)=hide (A++B) H:=oV (Zc _ hp);refine⟨r.len,λb hb=>?_,r.ye,λj d e=>by rw[hh];exact r.val j d e,λj kk xs e=>?_⟩
 .by_cases e:b=p
  .subst e;rw[bL];exact n
  .rw[bF e];exact r.own b hb
 .obtain⟨a,o,vs',e1,m,h1,ko,q,u⟩:=r.lst j kk xs e;refine⟨a,o,vs',e1,m,?_,ko,by rw[hh];exact q,u⟩
  have:a≠p:=λz=>r.ye a m (z ▸ hp)
  rw[bF this];exact h1
section
variable {a b o:Expr} {rest:List Stmt} {na:NB}
def AX(h:PS X sm (tN X.K B i na)):Dc X [sm] (tN X.K B i na):=wx h
def Zp(h1:PS X sm (tN X.K B i na))(h2:Dc X rest (tN X.K B i nb)):Dc X (sm::rest) (tN X.K B i (Rh na nb)):=xZ (zT h1 h2) (by
 rintro Dn σ H ⟨A,Z,st,P,ps,Xa,r,n,hr,q⟩;obtain⟨r1,h1,h2⟩:=R.ja hr;refine⟨A,Z,st,P,ps,Xa,r1,n,h1,?_⟩;cases r1 with
 |nx x s=>exact λA' jb H' l n'=>⟨A',Z,s,P,ps,x,r,n',h2,q.mono l⟩
 |rt d=>cases h2;exact q)
def Nn{l:List α} {x:α} (h:i≠j):(l.set j x)[i]?=l[i]?:=kl (tf h)
def GF(j:Nat) (he:∀B,PE X e (tI X.K B f)) (hN:X.N.Nodup) (Nd:i≠j:=by decide) (hi:X.N[j]?=some x:=by rfl) (hx:Loc X.env.scope x:=by first|exact Or.inl rfl|exact Or.inr rfl) (hs:swapsWith e (some (.Name x pos')) pos.line X.env=pure false:=by rfl)
  (hf:X.fn x=true\/X.env.scope.names.lookup x=some .local:=by first|exact .inl rfl|exact .inr rfl|assumption):PS X (.Assign [.Name x pos'] e pos) (tN X.K B i (Yn j f)):=by
 intro aa s σ H Dn I ⟨A,Z,st,P,ps,Xa,r,n,hr,q⟩;refine Gn hN hi hx (he (Z++B)) hs hf aa s σ H Dn I ?_
 obtain⟨d,hd,h3⟩:=R.ja hr;cases h3;refine⟨A,st,d,n.rs,hd,λv H1 s1 r1=>q A _ H1 (Ye.of (Le.of s1)) ?_⟩
 exact n.step (Le.of s1) ((n.rs.mono s1).set j r1) (by rw[Nn Nd];exact n.no) (by rw[Nn Nd];exact n.at_)
def BX(j:Nat){x:Str} {iter:Expr} (hi:∀B,L2.PI X (.Name x p1) iter (Oh X.K B it)) (hb:Dc X body (tN X.K B i nb)) (hp:PassesOwn (model X.prog X.w) X.A X.env X.xe) (hc:X.calm=true) (hN:X.N.Nodup) (Nd:i≠j:=by decide) (hj:X.N[j]?=some x:=by rfl) (hx:Loc X.env.scope x:=by first|exact Or.inl rfl|exact Or.inr rfl)
  (hf:X.fn x=true\/X.env.scope.names.lookup x=some .local:=by first|exact .inl rfl|exact .inr rfl|assumption) (hs:∀x,foldedSetIterable iter X.env x=pure x:=by intro _;rfl):PS X (.For (.Name x p1) iter body [] pos) (tN X.K B i (Sy (ib j) it nb)):=by
 intro aa s σ H Dn I ⟨A,Z,st,P,ps,Xa,r,n,hr,p⟩;refine UU hp hc (hi B) (xS (i:=j) hN hj hx hf) hb hs aa s σ H Dn I ?_
 obtain⟨ds,hd,h3⟩:=R.ja hr;refine⟨Z++A,st,ds,n.rs.shift n.zb,hd,λJ H1 s1 Yo=>?_⟩
 refine⟨λk m jb H'=>∃A' st' Pr,m=ds.length-k/\k<=ds.length/\NS X.K B A' Z H' st' jb i P ps Pr/\Gk (ib j) nb (ds.drop k) Pr st'=.ok r/\Ye Z A H1 A' H',⟨ds.length,A,st,Xa,by simp,zero_le _,n.same s1,by rw[drop_zero];exact h3,Ye.refl⟩,?_⟩
 rintro k m jb H' ⟨A',st',Pr,rfl,hle,n',Yz,l⟩;obtain⟨i1,i2⟩:=Yo (Z++A') H' l (n'.rs.shift n'.zb).own k
 by_cases Qb:k<ds.length
 .have fi:ds[k]?=some ds[k]:=Pc Qb;obtain⟨go,yl⟩:=i1 _ fi;rw[ju Qb]at Yz;have Ko:(nb Pr (st'.set j (some (.v ds[k])))).bind (λr'=>match r' with|.nx x s2=>Gk (ib j) nb (ds.drop (k+1)) x s2|.rt v=>.ok (.rt v))=.ok r:=Yz
  obtain⟨fl,Tc,h6⟩:=R.ja Ko;refine .inr ⟨go,λzk H2=>∃A2 fe JA,k+1<=ds.length/\NS X.K B A2 Z H2 fe zk i P ps JA/\Gk (ib j) nb (ds.drop (k+1)) JA fe=.ok r/\Ye Z A H1 A2 H2,?_,λv H2 y=>?_⟩
  .rintro zk H2 ⟨A2,fe,JA,Oo,n2,Ko,l2⟩;exact⟨ds.length-(k+1),by omega,A2,fe,JA,rfl,Oo,n2,Ko,l2⟩
  .obtain⟨oi,rx⟩:=yl v H2 y;have n':=n'.same oi;have l:Ye Z A H1 A' H2:=l.trans (Ye.of (Le.of oi));have mm:∀a,a∈(Z++A')++B↔a∈A'++(Z++B):=λa=>by
    simp only[List.mem_append];constructor
    .rintro((h|h)|h)
     .exact .inr (.inl h)
     .exact .inl h
     .exact .inr (.inr h)
    .rintro(h|h|h)
     .exact .inl (.inr h)
     .exact .inl (.inl h)
     .exact .inr h
   have bw:Va X.K (hide (A'++(Z++B)) H2) ds[k] v:=by rw[<-GU mm];exact rx
   have n3:NS X.K B A' Z H2 (st'.set j (some (.v ds[k]))) (jb.set j (some v)) i P ps Pr:=n'.step Le.refl (n'.rs.set j bw) (by rw[Nn Nd];exact n'.no) (by rw[Nn Nd];exact n'.at_)
   refine⟨A',Z,_,P,ps,Pr,fl,n3,Tc,?_⟩;cases fl with
   |nx x4 s4=>exact λA4 QA H4 l4 n4=>⟨A4,s4,x4,Qb,n4,h6,l.trans l4⟩
   |rt d=>cases h6;exact p.mono ((Ye.of (Le.of s1)).trans l)
 .have e:k=ds.length:=by omega
  subst e;rw[Mz]at Yz;cases Yz;exact .inl ⟨i2 (Cb _),p A' jb H' ((Ye.of (Le.of s1)).trans l) n'⟩
def bI4{j:Int}{k:Nat}(h:Pu.lc n j=some k):k<n:=by
 unfold Pu.lc at h;split at h
 .split at h
  .cases h;omega
  .cases h
 .split at h
  .cases h;omega
  .cases h
def ϸ(h:Dc X rest (tS X.K B bd)):Dc X rest (tN X.K B i (qE i bd)):=by
 intro aa s σ H Dn I ⟨A,Z,st,P,ps,Xa,r,n,hr,q⟩;refine h aa s σ H Dn I ?_
 obtain⟨fl,Tc,h3⟩:=R.ja hr;cases fl with
 |rt d=>
  cases h3;have hi:i<σ.length:=(Kd.mp n.at_).1;have zo:∀z∈Z,z∉A++B:=λz hz hm=>(Ed.mp hm).elim (λy=>n.rs.ye z y (Dd _ hz)) (n.zb z hz)
  have m:∀a∈A++B,a∈A++(Z++B):=λa h=>(Ed.mp h).elim (Dd _) λz=>Zc _ (Zc _ z)
  have XJ:∀(Xa:List (List D)) (ps:List Addr),(∀p∈ps,p∈Z)->Ke X.K (hide (A++(Z++B)) H) H Xa ps->bC X.K (hide (A++B) H) (Xa.map D.lst) (ps.map V.ref):=by
   intro Xa
   induction Xa with
   |nil=>intro ps _ h;rw[show ps=[] from h];exact .nil
   |cons xs Xa ih=>
    intro ps hz h;obtain⟨p,r,vs,rfl,h1,h2,h3⟩:=h;exact .cons (gK.mpr ⟨p,vs,rfl,(by rw[bK (zo p (hz p xb))];exact h1),h2.mono (fW m)⟩) (ih r (λp hp=>hz p (Bb _ hp)) h3)
  have rp:Va X.K (hide (A++B) H) (.lst (Xa.map D.lst)) (.ref P):=gK.mpr ⟨P,_,rfl,(by rw[bK (zo P n.zp)];exact n.out),XJ Xa ps n.zs n.Jh⟩
  have rs:=n.rs.less.set i rp;have es:σ.set i (some (.ref P))=σ:=by
   apply wu;intro k;rw[ve]
   by_cases hk:i=k
   .subst hk;rw[Na rfl,Na hi];exact n.at_.symm
   .rw[La hk]
  rw[es]at rs;exact⟨A,_,.rt d,rs,Tc,λA' v H' l rv=>q A' v H' (Ye.of l) rv⟩
 |nx s=>cases h3
 |bk s=>cases h3
 |ct s=>cases h3
end
def iw(K:Frag)(B:List Addr)(i:Nat)(b:Bd):TS:=λDn σ H=>∃A st st' xs,RS K B A H st σ/\b st=.ok (.nx st')/\st'[i]?=some (some (.o .l xs))/\∀A' a vs H',Le A H A' H'->a∈A'->H' a=some (.lst vs)->bC K (hide (A'++B) H') xs vs->Dn.rt (.ref a) H'
def Hi(K:Frag)(np:Nat)(p:List D->R D):Sp:=λvs H Q _=>∃A ds xs,Own A H/\bC K (hide A H) ds vs/\ds.length=np/\p ds=.ok (.lst xs)/\∀a ws H',aY H H'->H a=none->H' a=some (.lst ws)->bC K (hide (a::A) H') xs ws->Q (.ref a) H'
section
variable {o:Expr} {rest:List Stmt}
def HU(h1:PS X sm (tS X.K B bd))(h2:Dc X rest (iw X.K B i ck)):Dc X (sm::rest) (iw X.K B i (bG bd ck)):=xZ (zT h1 h2) (by
 rintro Dn σ H ⟨A,st,st',xs,rs,hb,hi,q⟩;unfold bG zq at hb;obtain⟨fl,Tc,h3⟩:=R.ja hb;refine⟨A,st,fl,rs,Tc,?_⟩;cases fl with
 |nx s1=>exact λA' jb H' l Of=>⟨A',s1,st',xs,Of,h3,hi,λA2 a vs H2 l2=>q A2 a vs H2 (l.trans l2)⟩
 |rt d=>cases h3
 |bk s1=>cases h3
 |ct s1=>cases h3)
def bI5(hN:X.N[i]?=some x:=by rfl)(hv:Sf X.env.scope x:=by first|exact Or.inl rfl|exact Or.inr (Or.inl rfl)|exact Or.inr (Or.inr rfl))(hd:(x==("__debug__":Str))=false:=by decide)(Ec:(x==("__classdict__":Str))=false:=by decide) :
  Dc X [.Return (some (.Name x p1)) pos] (iw X.K B i eQ):=xZ (wx (mE (mQ hN hv hd Ec))) (by
 rintro Dn σ H ⟨A,st,st',xs,rs,hb,hi,q⟩;cases hb;obtain⟨a,o,vs,e1,m,h1,ko,r,_⟩:=rs.lst i .l xs hi;have eo:o=.lst vs:=ko;subst eo;exact⟨.ref a,e1,q A a vs H Le.refl m h1 r⟩)
end
section
variable {K:Frag} {st:Stmt} {f:Addr} {k:Nat}
def bN3(F:Pa K x qual st dV f fd)(S:oa N ps (aH st))(np n i:Nat)(bd:Bd)(ik:ps.length=np)(hn:N.length=n)
  (hb:∀(Qa:Value)(A:Around)(outer:List Env)(s:Shared)(H:Hp)(E:XK)(B:List Addr),Kb k (A.deeper (envOfC qual (aH st) s.heap.objs.size f Qa))->
   Dc (Ri yb P w K mg base N qual (aH st) f Qa A outer s H E).qk (dY st) (iw K B i bd)):Ja P w K mg base yb (k+1) f fd ps (Hi K np (cQ np n (Hk bd i))):=by
 refine F.OJ S (λvs H Q E h=>?_) (λQa A outer s H vs Q E hr h=>?_)
 .obtain⟨A,ds,d,own,r,hl,_⟩:=h;rw[r.length,hl,ik]
 .obtain⟨B,ds,xs,own,r,hl,hp,q⟩:=h;refine⟨iw K B i bd,hb Qa A outer s H E B hr,?_⟩;obtain⟨_,h2⟩:=aJ hp;obtain⟨fl,Tc,h3⟩:=R.ja h2;have rs:=YC (N:=N) own r;rw[hl,hn]at rs;unfold Hk at Tc;split at Tc
  .rename_i s1 ZH;unfold SE at Tc;split at Tc
   .rename_i e1;cases Tc;cases h3;refine⟨[],_,s1,_,rs,ZH,e1,λA' a vs' H' l ha hv rv=>?_⟩
    have sm:aY H H':=by
     unfold Le at l;rw[wW]at l;exact l.trans (bA _ _)
    refine q a vs' H' sm ?_ hv (rv.mono (fW λb hb=>?_))
    .cases hH:H a with
     |none=>rfl
     |some o=>
      have z:=l a o (by rw[wW];exact hH)
      rw[cY ha]at z;cases z
    .rcases Nb.mp hb with rfl|hb
     .exact Dd _ ha
     .exact Zc _ hb
   .cases Tc
  .cases Tc
def E8(h:cQ np n (Hk bd i) ds=.ok d):∃xs,d=.lst xs:=by
 obtain⟨_,h2⟩:=aJ h;obtain⟨fl,Tc,h3⟩:=R.ja h2;unfold Hk at Tc;split at Tc
 .unfold SE at Tc;split at Tc
  .cases Tc;cases h3;exact⟨_,rfl⟩
  .cases Tc
 .cases Tc
def sQ(hp:∀ds d,p ds=.ok d->∃xs,d=.lst xs) (F:Ja P w K mg base yb k f fd ps (Hi K np p)):Ja P w K mg base yb k f fd ps (Sb K np p):=by
 have up:∀vs H Q E,Sb K np p vs H Q E->Hi K np p vs H Q E:=by
  rintro vs H Q E ⟨A,ds,d,own,r,hl,he,q⟩;obtain⟨xs,rfl⟩:=hp ds d he;refine⟨A,ds,xs,own,r,hl,he,λa ws H' sm ha hv rv=>q _ H' sm (gK.mpr ⟨a,ws,rfl,(by rw[bK (own.free ha)];exact hv),rv.mono (fW λb hb=>Bb _ hb)⟩)⟩
 exact⟨λvs H Q E h=>F.len vs H Q E (up vs H Q E h),λA outer s H args us vs Q E hr e0 hb hv h=>F.run A outer s H args us vs Q E hr e0 hb hv (up vs H Q E h)⟩
end
structure Zb(P:Program)(w:World)(K:Frag)(mg:Str->Option Value)(base:Heap)(c m:String)(k np:Nat)(dv:List D)(p:List D->R D):Prop where
 ex:∃(C fa:Addr)(fd:FuncData)(ps:List Str)(dvs:List V)(ds:List Value),ClsAt K c C/\Meth K C (Str.ofString m) fa/\Ja P w K mg base yb k fa fd ps (Hi K np p)/\Binds K fd ps ds/\Ea dvs ds/\∀H,bC K H dv dvs
 len:∀ds d,p ds=.ok d->ds.length=np
 lst:∀ds d,p ds=.ok d->∃xs,d=.lst xs
def Zb.of{K:Frag} {k:Nat} {f:Addr} {c m:String} {ds:List Value} (hc:ClsAt K c C) (hm:Meth K C (Str.ofString m) f) (F:Ja P w K mg base yb k f fd ps (Hi K np (cQ np n (Hk bd i)))) (b:Binds K fd ps ds) (v:Ea dvs ds) (r:∀H,bC K H dv dvs):Zb P w K mg base c m k np dv (cQ np n (Hk bd i)):=
 ⟨⟨C,f,fd,ps,dvs,ds,hc,hm,F,b,v,r⟩,ix,λ_ _ h=>E8 h⟩
def Zb.plain{K:Frag} {c m:String} {k:Nat} (h:Zb P w K mg base c m k np dv p):Xb P w K mg base c m k np dv p:=by
 obtain⟨C,fa,fd,ps,dvs,ds,hc,hm,F,b,v,r⟩:=h.ex;exact⟨⟨C,fa,fd,ps,dvs,ds,hc,hm,sQ h.lst F,b,v,r⟩,h.len⟩
section
variable {o:Expr}
def bI6{c m:String}{k:Nat} {r:zd} (h:Zb X.prog X.w X.K X.mg X.base c m k np dv p) (hr:Kb j X.A) (hk:k<=j) (ho:PE X o (tI X.K B f)) (ha:PA X (e::es) (tA X.K B r))
  (wg:starEach (e::es) X.env=(false,eval e X.env)::starEach es X.env:=by rfl) (hpl:(backTo pos (starEach es X.env)).any (·.1)=false:=by rfl)
  (ht:eval (.Call (.Attribute o (Str.ofString m) Oa) (e::es) [] pos) X.env=(do
   let ov <- eval o X.env
   standAt Oa.atName
   let (f,first) <- holding [ov] (getMethod ov (Str.ofString m) pl)
   callWith pos f first (backTo pos (starEach (e::es) X.env)) (backToKw pos (keywordEach [] X.env))):=by rfl) :
  PE X (.Call (.Attribute o (Str.ofString m) Oa) (e::es) [] pos) (tF X.K B (rT c m p dv f r)):=by
 obtain⟨C,fa,fd,ps,dvs,ds,hc,hm,F,bd,vd,rd⟩:=h.ex;refine cL (AS (pl:=pl) ho hc.cl hm F (hr.mono hk) bd vd xt ha wg hpl ht) ?_
 rintro σ H Q ⟨A,st,xs,rs,hd,q⟩;obtain⟨x,hx,h2⟩:=R.ja hd;obtain⟨ys,Nl,h3⟩:=R.ja h2;refine⟨A,st,x,rs,hx,λv H1 s1 r1=>?_⟩
 cases x<;>first|(cases h3;done)|skip
 obtain⟨⟨e1,hn⟩,h4⟩:=aJ h3;subst e1;obtain⟨p',C',dx,fs,e2,h5,h6,h7,h8⟩:=lG.ins (.inl r1);have:C'=C:=by have z:=h6.symm.trans hc.ns;injection z with z;injection z with z;injection z
 subst this;refine⟨p',dx,fs,e2,h5,lookup_none h7 hn,A,st,ys,rs.mono s1,Nl,λvs H2 s2 r2=>?_⟩
 refine⟨A++B,_,xs,rs.own.mono (s1.trans s2),.cons (r1.mono (aY.hide s2)) (r2.append (rd _)),h.len _ _ h4,h4,λa ws H' s' Eg hv rv=>?_⟩
 have e0:Ua (hide [a] H') a (.lst ws)=H':=by
  funext b
  by_cases hb:b=a
  .subst hb;rw[bL];exact hv.symm
  .rw[bF hb,bK (by simpa using hb)]
 have z:=q a ws (hide [a] H') (λb u hz=>?_) (cY (by simp)) ?_
 .rw[e0]at z;exact z
 .have Y0:=s2 _ _ (s1 _ _ hz);rw[bK (by simpa using bB Y0 Eg)]
  exact s' _ _ Y0
 .refine rv.mono λb u hz=>?_
  have hb:b∉a::(A++B):=λy=>by rw[cY y]at hz;cases hz
  rw[bK λy=>hb (Bb _ y),bK (by simpa using λy=>hb (by rw[y];exact xb))]
  exact bA _ _ _ _ hz
end
section
variable{X:Cx}{B:List Addr}{a b e:Expr}{f g:Ex}{pos:Pos}
def TF(X:Cx)(a:Addr)(n:Nat)(h:Heap):Prop:=∃(o:Obj)(S:Int->Bool),h.get? a=some o/\o.SetObjOf (intKind X.prog X.w) S n
theorem xD:∀{ns:List Int}{us:List Value},Ea (ns.map V.int) us->IntsAre us ns
 |[],us,h=>by rw[h.zero];exact .nil
 |n::ns,us,h=>by
  cases h with
  |cons r t=>
   obtain⟨k,rfl⟩:=r;exact .cons n k (xD t)
def C4(ns:List Int):firstMet (λi=>ns.getD i 0) ns.length=oK ns:=by
 unfold firstMet oK;have:(List.range ns.length).map (λi=>ns.getD i 0)=ns:=by
  refine List.ext_getElem (by simp) λi h1 h2=>?_
  simp[List.getElem?_eq_getElem h2]
 rw[this];rfl
def F8(hc:X.calm=true):mL X (.type "set") (λxs H Q=>∃p ns,xs=[.ref p]/\jc X.K H p (ns.map V.int)/\ns.length<=4000/\∀l,H l=none->Q (.ref l) (Ua H l (.ext (TF X l (oK ns).length)))):=by
 intro aa s σ H xs us Q I r h;obtain⟨p,ns,rfl,hq,hl,q⟩:=h;obtain⟨u,rfl,rx⟩:=vals1 r;cases rx;obtain⟨Ga,r',pl,hz⟩:=I.list hq;have Ya:=r'.length;rw[uc]at Ya;have hfm:(firstMet (λi=>ns.getD i 0) Ga.toArray.size)=oK ns:=by
  rw[De,<-Ya];exact C4 ns
 refine PySem.call_set_list (ns:=ns) (I.ok.hd hc) pl.isList (by simpa using xD r') (by rw[List.size_toArray,<-Ya];show ns.length+1<4096;omega) λh' tk hS hk=>?_
 obtain⟨o,ho,R0⟩:=hS.objOf;rw[hfm]at R0;refine⟨.ref s.heap.objs.size,_,I.laid (t':=tk) (o:=.ext (TF X s.heap.objs.size (oK ns).length)) (λb ob e=>hk b ob (dc e) e) (Cb _) ⟨⟨o,_,ho,R0⟩,⟨o,ho⟩,λh1 h2 ⟨o1,S1,e1,s1⟩ k=>⟨o1,S1,k o1 e1,s1⟩⟩,rfl,q _ (I.Ra.fresh (Cb _))⟩
def G8:mL X (.builtin "len") (λxs H Q=>∃p n,xs=[.ref p]/\H p=some (.ext (TF X p n))/\n<=4000/\Q (.int n) H):=by
 intro aa s σ H xs us Q I r h;obtain⟨p,n,rfl,hq,hn,q⟩:=h;obtain⟨u,rfl,rx⟩:=vals1 r;cases rx;obtain⟨⟨o,S,ho,hex,es,ep,t,hd,_,_,AI,hf⟩,_⟩:=I.Ra _ _ hq;subst AI;exact PySem.call_len_set ho hex hd hf (by omega) ⟨.int es.size,H,I.tok _,⟨_,rfl⟩,q⟩
theorem FC{K:Frag}{H:Hp}:∀{l:List Int}{vs:List V},bC K H (l.map D.int) vs->vs=l.map V.int
 |[],vs,h=>dD.mp h
 |i::l,vs,h=>by
  obtain⟨v,r,rfl,h1,h2⟩:=bN.mp h;rw[bM.mp h1,FC h2];rfl
def M_(hm:X.mg "len"=none)(xI:X.mg "set"=none)(hc:X.calm=true)(ha:PE X a (tP X.K B f))(hg:Gl X "len":=by rfl)(cg:Gl X "set":=by rfl)(hs:starEach [.Call (.Name "set" p1) [a] [] p2] X.env=(false,eval (.Call (.Name "set" p1) [a] [] p2) X.env)::starEach [] X.env:=by rfl)
  (Ud:starEach [a] X.env=(false,eval a X.env)::starEach [] X.env:=by rfl):PE X (.Call (.Name "len" p0) [.Call (.Name "set" p1) [a] [] p2] [] pos) (tI X.K B (e1 HD f)):=by
 refine cL (qR G8 hg hm PySem.boot_len (cM (pK (F8 hc) cg xI MZ (cM ha fL Ud) (he:=Ud)) fL hs) (he:=hs)) ?_
 rintro σ H Q ⟨A,st,d,rs,hd,q⟩;obtain⟨x,hx,h2⟩:=R.ja hd;cases x<;>first|(cases h2;done)|skip
 rename_i xs;obtain⟨l,hl,h3⟩:=R.ja h2;obtain⟨c,h4⟩:=aJ h3;cases h4;refine⟨A,st,_,rs,hx,λv H1 s1 r1=>?_⟩
 obtain⟨p,vs,e,h6,r6⟩:=r1.lst;rw[wF hl]at r6;rw[FC r6]at h6;have hle:(oK l).length<=l.length:=PyProof.Rows.foldl_step_dedup_nil_length_le l;refine⟨p,l,by rw[e],h6,c,λn hn=>⟨n,_,rfl,bL,by omega,q _ _ (s1.trans (bT hn)) (bM.mpr rfl)⟩⟩
end
def Gr:Hp:=λ_=>none
def IU:aY Gr H:=λ_ _ h=>nomatch h
def cS{K:Frag} (h:atom d=true) (r:Va K H d v):Va K Gr d v:=by
 cases d<;>first|(cases h;done)|skip
 .exact sV.mpr (sV.mp r)
 .exact cX.mpr (cX.mp r)
 .exact bM.mpr (bM.mp r)
 .exact eN.mpr (eN.mp r)
theorem AQ{K:Frag}{H:Hp}:∀{ds:List D}{vs:List V},ds.all atom=true->bC K H ds vs->bC K Gr ds vs
 |[],_,_,r=>by rw[dD.mp r];exact .nil
 |d::ds,_,h,r=>by
  obtain⟨v,w,rfl,q,t⟩:=bN.mp r;rw[all_cons,Hu]at h;exact .cons (cS h.1 q) (AQ h.2 t)
def tC(K:Frag)(B:List Addr)(f:Ex):TE:=λσ H Q=>∃A st d xs,RS K B A H st σ/\f st=.ok d/\Us d=.ok (.lst xs)/\∀P ps H',aY H H'->(∀p∈P::ps,H p=none)->(P::ps).Nodup->H' P=some (.lst (ps.map V.ref))->Ke K Gr H' (xs.map Gj) ps->Q (.ref P) H'
def H8(h:Us d=.ok (.lst xs)):d=.lst xs/\xs.length<=big/\xs.all yy=true:=by
 cases d<;>first|(cases h;done)|skip
 obtain⟨⟨h1,h2⟩,h3⟩:=aJ h;cases h3;exact⟨rfl,h1,h2⟩
def V6{e:D}(h:Us d=.ok e):∃xs,e=.lst xs:=by
 cases d<;>first|(cases h;done)|skip
 obtain⟨_,h3⟩:=aJ h;cases h3;exact⟨_,rfl⟩
theorem Ke.snoc{K:Frag}{G H:Hp}{ys:List D}{n:Addr}{ws:List V}(hn:H n=some (.lst ws))(hr:bC K G ys ws):∀{Xa:List (List D)} {ps:List Addr},Ke K G H Xa ps->Ke K G H (Xa++[ys]) (ps++[n])
 |[],ps,h=>by rw[show ps=[] from h];exact⟨n,[],ws,rfl,hn,hr,rfl⟩
 |x::Xa,ps,h=>by
  obtain⟨p,r,vs,rfl,h1,h2,h3⟩:=h;exact⟨p,r++[n],vs,rfl,h1,h2,Ke.snoc hn hr h3⟩
section
variable{K:Frag}{Z:List Addr} {st:ya}
def BQ(s:aY H H')(hz:∀z∈Z,H z=none):aY (hide (A++B) H) (hide (A++(Z++B)) H'):=λb o e=>by
 have e1:=bA _ _ _ _ e;have hb:b∉A++B:=λz=>by rw[cY z]at e;cases e
 have Fh:b∉A++(Z++B):=λz=>by
  rcases Ed.mp z with z|z
  .exact hb (Dd _ z)
  .rcases Ed.mp z with z|z
   .rw[hz b z]at e1;cases e1
   .exact hb (Zc _ z)
 rw[bK Fh];exact s _ _ e1
def RS.Wu(r:RS K B A H st σ)(s:aY H H')(hz:∀z∈Z,H z=none)(kA:∀z∈Z,(H' z).any nT=true):RS K (Z++B) A H' st σ where
 len:=r.len
 own:=λa ha=>by
  rcases Ed.mp ha with h|h
  .exact(r.own.mono s) a (Dd _ h)
  .exact(Ed.mp h).elim (kA a) λh=>(r.own.mono s) a (Zc _ h)
 ye:=λa ha hb=>by
  rcases Ed.mp hb with h|h
  .have:=r.own a (Dd _ ha);rw[hz a h]at this;cases this
  .exact r.ye a ha h
 val:=λi d e=>let ⟨v,e1,q⟩:=r.val i d e;⟨v,e1,q.mono (BQ s hz)⟩
 lst:=λi k xs e=>let ⟨a,o,vs,e1,m,h,ko,q,u⟩:=r.lst i k xs e;⟨a,o,vs,e1,m,s _ _ h,ko,q.mono (BQ s hz),u⟩
def RS.forget(r:RS K B A H st σ)(i:Nat)(v:Option V):RS K B A H (st.set i none) (σ.set i v):=by
 have ne:∀(j:Nat)(x:Sl),(st.set i none)[j]?=some (some x)->j≠i/\st[j]?=some (some x):=λj x e=>by
  rw[ve]at e
  by_cases h:i=j
  .rw[Na h]at e;split at e<;>cases e
  .rw[La h]at e;exact⟨tf h,e⟩
 refine⟨by rw[vg,vg,r.len],r.own,r.ye,λj d e=>?_,λj k xs e=>?_⟩
 .obtain⟨h1,h2⟩:=ne j _ e;rw[kl (tf h1)];exact r.val j d h2
 .obtain⟨h1,h2⟩:=ne j _ e;rw[kl (tf h1)];obtain⟨l,o,vs,e1,e2,e3,e4,e5,e6⟩:=r.lst j k xs h2;refine⟨l,o,vs,e1,e2,e3,e4,e5,λj' k' ys e7 e8=>?_⟩
  obtain⟨h3,h4⟩:=ne j' _ e7;rw[kl (tf h3)]at e8;exact e6 j' k' ys h4 e8
end
section
variable {a b o:Expr} {rest:List Stmt} {na:NB}
def bI8(j:Nat) (he:∀B,PE X e (tF X.K B f)) (hN:X.N.Nodup) (Nd:i≠j:=by decide) (hi:X.N[j]?=some x:=by rfl) (hx:Loc X.env.scope x:=by first|exact Or.inl rfl|exact Or.inr rfl) (hs:swapsWith e (some (.Name x pos')) pos.line X.env=pure false:=by rfl)
  (hf:X.fn x=true\/X.env.scope.names.lookup x=some .local:=by first|exact .inl rfl|exact .inr rfl|assumption):PS X (.Assign [.Name x pos'] e pos) (tN X.K B i (UE j f)):=by
 intro aa s σ H Dn I ⟨A,Z,st,P,ps,Xa,r,n,hr,q⟩;refine Gn hN hi hx (he (Z++B)) hs hf aa s σ H Dn I ?_
 obtain⟨d,hd,h3⟩:=R.ja hr;cases d<;>first|(cases h3;done)|skip
 cases h3;refine⟨A,st,_,n.rs,hd,λp vs H1 s1 hn r1=>?_⟩
 have l:Le A H (p::A) (Ua H1 p (.lst vs)):=(Le.of s1).trans (Yp hn);exact q (p::A) _ _ (Ye.of l) (n.step l ((n.rs.mono s1).Cj (kk:=.l) j hn rfl r1) (by rw[Nn Nd];exact n.no) (by rw[Nn Nd];exact n.at_))
end
section
variable {iter:Expr} {pl:Pos} {r:Str} {rest:List Stmt}
def I8{sm:Stmt}(hr:Dc X rest (tN X.K B i nb))(Oe:X.N[i]?=some x)(hp:PS X sm (λDn σ H=>tC X.K B f σ H λv H'=>Dn.nx (σ.set i (some v)) H')):Dc X (sm::rest) (tS X.K B (vE i f nb)):=by
 rintro aa s σ H Dn I ⟨A,st,r,rs,Pe,p⟩;refine zT hp hr aa s σ H Dn I ?_
 obtain⟨d,hd,h1⟩:=R.ja Pe;obtain⟨d2,hd2,h2⟩:=R.ja h1;obtain⟨r1,h3,h4⟩:=R.ja h2;obtain⟨xs,rfl⟩:=V6 hd2;refine⟨A,st,d,xs,rs,hd,hd2,λP ps H' sm fr nd hP Jh=>?_⟩
 have Ya:i<σ.length:=by
  rw[I.len];exact(Kd.mp Oe).1
 have inS:∀z∈P::ps,(H' z).any nT=true:=λz hz=>by
  rcases Nb.mp hz with rfl|hz
  .rw[hP];rfl
  .obtain⟨k,hk⟩:=Em.mp hz;have jI:k<(xs.map Gj).length:=by rw[<-Jh.len];exact(Kd.mp hk).1
   obtain⟨p',vs',e1,e2,_⟩:=Jh.get (Pc jI);rw[hk]at e1;cases e1;rw[e2];rfl
 have g4:=(rs.Wu (Z:=P::ps) sm fr inS).forget i (some (.ref P));have N0:NS X.K B A (P::ps) H' (st.set i none) (σ.set i (some (.ref P))) i P ps (xs.map Gj):=by
  refine⟨g4,?_,?_,hP,Jh.mono IU λ_ _ _ e=>e,λz hz hb=>?_,xb,λp hp=>Bb _ hp,nd⟩
  .rw[ve,Na rfl,Na (by rw[rs.len];exact Ya)]
  .rw[ve,Na rfl,Na Ya]
  .have:=rs.own z (Zc _ hb);rw[fr z hz]at this;cases this
 have lN:aY (hide A H) (hide ((P::ps)++A) H'):=λb o e=>by
  have e1:=bA _ _ _ _ e;have hb:b∉A:=λz=>by rw[cY z]at e;cases e
  have hz:b∉P::ps:=λz=>by rw[fr b z]at e1;cases e1
  rw[bK λz=>(Ed.mp z).elim hz hb]
  exact sm _ _ e1
 refine⟨A,P::ps,st.set i none,P,ps,xs.map Gj,r1,N0,h3,?_⟩;cases r1 with
 |rt d=>
  cases h4;exact λA' v H' l rv=>p A' v H' (λb o e=>fW (A':=A') (λa ha=>Zc _ ha) b o (l b o (lN b o e))) rv
 |nx x s=>cases h4
end
open Builtin
section
variable{prog:Program}{w:World}{A:Around}{E:Value->Shared->Prop}{s:Shared}
variable{z TI TO i1 i2 l:Addr}{fp:List Addr}{n k1 k2:Nat}{P:Nat->Value->Prop}{St:Nat->Heap->Prop}{ys:Array Value}{y a b:Value}
structure Vf(z TI TO i1 i2 l:Addr)(fp:List Addr):Prop where
 TIz:TI≠z
 TOz:TO≠z
 i1z:i1≠z
 i2z:i2≠z
 TITO:TI≠TO
 TIi1:TI≠i1
 TIi2:TI≠i2
 TOi1:TO≠i1
 TOi2:TO≠i2
 i12:i1≠i2
 lz:l≠z
 E1:l≠TO
 F1:l≠i1
 li2:l≠i2
 zf:z∉fp
 Tf:TO∉fp
 i2f:i2∉fp
def W6{n l:Nat}(h:l<n):Vf (n+4) (n+2) (n+3) n (n+1) l [n]:=by
 constructor
 .show n+2≠n+4;omega
 .show n+3≠n+4;omega
 .show n≠n+4;omega
 .show n+1≠n+4;omega
 .show n+2≠n+3;omega
 .show n+2≠n;omega
 .show n+2≠n+1;omega
 .show n+3≠n;omega
 .show n+3≠n+1;omega
 .show n≠n+1;omega
 .show l≠n+4;omega
 .show l≠n+3;omega
 .show l≠n;omega
 .show l≠n+1;omega
 .intro z;have:n+4=n:=cc.mp z;omega
 .intro z;have:n+3=n:=cc.mp z;omega
 .intro z;have:n+1=n:=cc.mp z;omega
abbrev Xj(h:Heap)(z TI TO:Addr)(f0 f1:Value):Prop:=h.get? z=some {cls:=.type "zip",dict:=none,data:=.fields #[f0,f1,.bool false,.ref TI,.ref TO],slots := #[]}
def CQ{f1:Value}(hz:Xj s.heap z TI TO .none f1)(Q:Bool->Shared->Prop)(q:Q true s):wpAny (model prog w) A (Builtin.SmallTypes.ownedTupleIsFree (.ref z)) Q E s:=by
 unfold Builtin.SmallTypes.ownedTupleIsFree;exact Ca (so hz rfl (x:=.none) rfl (kb q))
variable{f0 f1:Value}
def N_(D1:Draws prog w A i1 fp n P St)(D:Vf z TI TO i1 i2 l fp)
  (hz:Xj s.heap z TI TO f0 f1) (Wm:∀Q:Bool->Shared->Prop,Q true s->wpAny (model prog w) A (Builtin.SmallTypes.ownedTupleIsFree (.ref z)) Q E s) (fh:IsPair s.heap TI (.ref i1) (.ref i2)) (Eh:IsPair s.heap TO a b)
  (h1:St k1 s.heap) (hk1:k1<n) (h2:s.heap.IsListIter i2 l k2) (hl:s.heap.IsList l ys) (hy:ys[k2]?=some y)
  (hQ:∀h' tk x,P k1 x->IsZip h' z TI TO (rawInt s.heap.objs.size)->IsPair h' TO x y->St (k1+1) h'->h'.IsListIter i2 l (k2+1)->IsPair h' s.heap.objs.size x y->h'.objs.size=s.heap.objs.size+1->
   (∀c o,c≠z->c≠TO->c≠i1->c≠i2->s.heap.get? c=some o->h'.get? c=some o)->Q (.ref s.heap.objs.size) {s with heap:=h',toks:=tk}) :
  wpAny (model prog w) A (Builtin.«zip.__next__» ⟨[.ref z],[]⟩) (λfin s'=>∃v,fin=.done (.ret v)/\Q v s') E s:=by
 show wpAny _ _ (field (.ref z) 2 >>= _) _ _ _;refine Ca (so hz rfl (x:=.bool false) rfl ?_);show wpAny _ _ (field (.ref z) 3 >>= _) _ _ _;refine Ca (so hz rfl (x:=.ref TI) rfl ?_);refine Ca (Fm fh rfl ?_);show wpAny _ _ (Builtin.SmallTypes.ownedTupleIsFree (.ref z) >>= _) _ _ _;refine Ca (Wm _ ?_);simp only[if_true];refine Ca (ir ?_);refine Ca (so hz rfl (x:=.ref TO) rfl ?_);refine Ca (Mq hz (by simp) λYd Ge Uc=>?_)
 replace Ge:Xj Yd z TI TO .ellipsis f1:=Ge
 refine Ca ?_
 simp only[List.zipIdx_cons,List.zipIdx_nil,forIn_cons,forIn_nil];refine Ca (Ca (Jz ?_));show wpAny _ _ (Builtin.SmallTypes.nextOf (.ref i1) >>= _) _ _ _;refine Ca (D1.item k1 {s with heap:=Yd} _ _ hk1 (D1.frame k1 s.heap Yd h1 λb hb o e=>Uc.extBut _ _ (λx=>D.zf (x ▸ hb)) e) λx pf tk hP Rm Ob=>kb ?_)
 have Ob:Heap.SameBut i1 Yd pf:=Ob;have gf:IsPair pf TO a b:=Ob.extBut _ _ D.TOi1 (Uc.extBut _ _ D.TOz Eh);refine Ca (Fm gf rfl ?_);refine Ca (DG gf λNg Yf Fe=>?_)
 replace Yf:IsPair Ng TO x b:=Yf
 refine Ca (wpAny_letGo (kb ?_));refine Ca (Ca (Jz ?_));show wpAny _ _ (Builtin.SmallTypes.nextOf (.ref i2) >>= _) _ _ _;refine Ca (wpAny_nextOf_list_item (((h2.extBut Uc.extBut D.i2z).extBut Ob.extBut D.i12.symm).extBut Fe.extBut D.TOi2.symm)
  (((hl.extBut Uc.extBut D.lz).extBut Ob.extBut D.F1).extBut Fe.extBut D.E1) hy λki Yu kf=>kb ?_)
 have fj:IsPair ki TO x b:=kf.extBut _ _ D.TOi2 Yf;refine Ca (Fm fj rfl ?_);refine Ca (DG fj λVc Zf Gh=>?_)
 replace Zf:IsPair Vc TO x y:=Zf
 refine Ca (wpAny_letGo (kb (kb ?_)));refine Ca (Fm Zf rfl ?_);refine Ca (wpAny_newTuple ?_);have ud:Heap.SameBut TO pf Ng:=Fe;have fg:Heap.SameBut i2 Ng ki:=kf;have mf:Heap.SameBut TO ki Vc:=Gh;have hsz:Vc.objs.size=s.heap.objs.size:=by rw[mf.1,fg.1,ud.1,Ob.1,Uc.1]
 have jn:Xj Vc z TI TO .ellipsis f1:=mf.extBut _ _ D.TOz.symm (fg.extBut _ _ D.i2z.symm (ud.extBut _ _ D.TOz.symm (Ob.extBut _ _ D.i1z.symm Ge)));have Av:∀c o,c≠z->c≠TO->c≠i1->c≠i2->s.heap.get? c=some o->Vc.get? c=some o:=λc o c1 c2 c3 c4 e=>
  mf.extBut _ _ c2 (fg.extBut _ _ c4 (ud.extBut _ _ c2 (Ob.extBut _ _ c3 (Uc.extBut _ _ c1 e))))
 have Xu:St (k1+1) Vc:=D1.frame _ pf Vc Rm λb hb o e=>mf.extBut _ _ (λx=>D.Tf (x ▸ hb)) (fg.extBut _ _ (λx=>D.i2f (x ▸ hb)) (ud.extBut _ _ (λx=>D.Tf (x ▸ hb)) e))
 have Zu:Vc.IsListIter i2 l (k2+1):=Yu.extBut mf.extBut D.TOi2.symm;have Nv:z<Vc.objs.size:=dc jn;show wpAny _ _ (Builtin.SmallTypes.ownedTupleHandOut (.ref z) (.ref Vc.objs.size) >>= _) _ _ _;refine Ca ?_
 unfold Builtin.SmallTypes.ownedTupleHandOut;have Qv:Xj (Vc.push {cls:=.type "tuple",data:=.seq #[x,y]}) z TI TO .ellipsis f1:=Tb _ jn;refine Ca (Mq Qv (by simp) λSI wj sj=>?_)
 replace wj:Xj SI z TI TO (rawInt Vc.objs.size) f1:=wj
 refine Mq wj (by simp) λmi Ih tj=>?_
 replace Ih:IsZip mi z TI TO (rawInt Vc.objs.size):=Ih
 have up:∀c o,c≠z->Vc.get? c=some o->mi.get? c=some o:=λc o c1 e=>tj.extBut _ _ c1 (sj.extBut _ _ c1 (Tb _ e))
 have Sm:IsPair mi Vc.objs.size x y:=tj.extBut _ _ (Kz Nv) (sj.extBut _ _ (Kz Nv) (Pd _ rfl));have Z0:mi.objs.size=Vc.objs.size+1:=by rw[tj.1,sj.1,qg]
 rw[hsz]at Ih Sm Z0;refine kb ⟨_,rfl,?_⟩;show Q (.ref Vc.objs.size) _;rw[hsz];exact hQ mi _ x hP Ih (up _ _ D.TOz Zf) (D1.frame _ Vc mi Xu λb hb o e=>up b o (λx=>D.zf (x ▸ hb)) e) (Zu.at λo e=>up _ o D.i2z e) Sm Z0 λc o c1 c2 c3 c4 e=>up c o c1 (Av c o c1 c2 c3 c4 e)
def Ϲ(D1:Draws prog w A i1 fp n P St)(hh:A.handled=none)(D:Vf z TI TO i1 i2 l fp)
  (hz:Xj s.heap z TI TO f0 f1) (Wm:∀Q:Bool->Shared->Prop,Q true s->wpAny (model prog w) A (Builtin.SmallTypes.ownedTupleIsFree (.ref z)) Q E s) (fh:IsPair s.heap TI (.ref i1) (.ref i2)) (Eh:IsPair s.heap TO a b)
  (h1:St k1 s.heap) (h2:s.heap.IsListIter i2 l k2) (hl:s.heap.IsList l ys)
  (Jo:(∀(s:Shared)(Q:Value->Shared->Prop)(E:Value->Shared->Prop),St k1 s.heap->(∀h' e,Heap.ExtBut i1 s.heap h'->(∃o,h'.get? e=some o/\o.cls=.type "StopIteration")->E (.ref e) {s with heap:=h'})->wpAny (model prog w) A (Builtin.SmallTypes.nextOf (.ref i1)) Q E s)\/(k1<n/\ys[k2]?=none)) {Q:Fin->Shared->Prop}
  (hE:∀h' e tk,(∀c o,c≠z->c≠TO->c≠i1->c≠i2->s.heap.get? c=some o->h'.get? c=some o)->(∃o,h'.get? e=some o/\o.cls=.type "StopIteration")->E (.ref e) {s with heap:=h',toks:=tk}) :
  wpAny (model prog w) A (Builtin.«zip.__next__» ⟨[.ref z],[]⟩) Q E s:=by
 show wpAny _ _ (field (.ref z) 2 >>= _) _ _ _;refine Ca (so hz rfl (x:=.bool false) rfl ?_);show wpAny _ _ (field (.ref z) 3 >>= _) _ _ _;refine Ca (so hz rfl (x:=.ref TI) rfl ?_);refine Ca (Fm fh rfl ?_);show wpAny _ _ (Builtin.SmallTypes.ownedTupleIsFree (.ref z) >>= _) _ _ _;refine Ca (Wm _ ?_);simp only[if_true];refine Ca (ir ?_);refine Ca (so hz rfl (x:=.ref TO) rfl ?_);refine Ca (Mq hz (by simp) λYd Ge Uc=>?_)
 replace Ge:Xj Yd z TI TO .ellipsis f1:=Ge
 refine Ca ?_
 simp only[List.zipIdx_cons,List.zipIdx_nil,forIn_cons,forIn_nil];refine Ca (Ca (Jz ?_));show wpAny _ _ (Builtin.SmallTypes.nextOf (.ref i1) >>= _) _ _ _;have y0:St k1 Yd:=D1.frame k1 s.heap Yd h1 λb hb o e=>Uc.extBut _ _ (λx=>D.zf (x ▸ hb)) e
 rcases Jo with Jo|⟨hkn,hy⟩
 .refine Ca (Jo {s with heap:=Yd} _ _ y0 λpf e Ob he=>?_)
  have Ob:Heap.ExtBut i1 Yd pf:=Ob;obtain⟨oe,So,Fo⟩:=he;have Zm:Xj pf z TI TO .ellipsis f1:=Ob _ _ D.i1z.symm Ge;have YH:e≠z:=λx=>by subst x;rw[Zm]at So;cases So;simp at Fo
  refine Mq Zm (by simp) λNg _ Fe=>hE Ng e _ (λc o c1 _ c3 _ x=>Fe.extBut _ _ c1 (Ob _ _ c3 (Uc.extBut _ _ c1 x))) ⟨oe,Fe.extBut _ _ YH So,Fo⟩
 .refine Ca (D1.item k1 {s with heap:=Yd} _ _ hkn y0 λx pf tk hP Rm Ob=>kb ?_)
  have Ob:Heap.SameBut i1 Yd pf:=Ob;have gf:IsPair pf TO a b:=Ob.extBut _ _ D.TOi1 (Uc.extBut _ _ D.TOz Eh);refine Ca (Fm gf rfl ?_);refine Ca (DG gf λNg Yf Fe=>?_)
  have ud:Heap.SameBut TO pf Ng:=Fe;refine Ca (wpAny_letGo (kb ?_));refine Ca (Ca (Jz ?_));show wpAny _ _ (Builtin.SmallTypes.nextOf (.ref i2) >>= _) _ _ _;refine Ca (wpAny_nextOf_list_end hh (((h2.extBut Uc.extBut D.i2z).extBut Ob.extBut D.i12.symm).extBut ud.extBut D.TOi2.symm)
   (((hl.extBut Uc.extBut D.lz).extBut Ob.extBut D.F1).extBut ud.extBut D.E1) hy λki e kf he=>?_)
  have kf:Heap.ExtBut i2 Ng ki:=kf;obtain⟨oe,So,Fo⟩:=he;have dn:Xj ki z TI TO .ellipsis f1:=kf _ _ D.i2z.symm (ud.extBut _ _ D.TOz.symm (Ob.extBut _ _ D.i1z.symm Ge));have YH:e≠z:=λx=>by subst x;rw[dn]at So;cases So;simp at Fo
  refine Mq dn (by simp) λVc _ Gh=>hE Vc e _ (λc o c1 c2 c3 c4 x=>Gh.extBut _ _ c1 (kf _ _ c4 (ud.extBut _ _ c2 (Ob.extBut _ _ c3 (Uc.extBut _ _ c1 x))))) ⟨oe,Gh.extBut _ _ YH So,Fo⟩
end
section
variable{prog:Program}{w:World}{A:Around}{E:Value->Shared->Prop}{s:Shared}
abbrev KA(h:Heap)(x:Str)(t:Tok):Heap:=h.push {cls:=.type (strIterType x),data:=.fields #[.str x t,.int 0 0]}
abbrev LA(h:Heap)(x:Str)(t:Tok)(l:Addr):Heap:=(KA h x t).push {cls:=.type "list_iterator",data:=.fields #[.ref l,.int 0 0]}
abbrev NA(h:Heap)(x:Str)(t:Tok)(l:Addr):Heap:=(LA h x t l).push {cls:=.type "tuple",data:=.seq #[.ref h.objs.size,.ref (KA h x t).objs.size]}
abbrev OA(h:Heap)(x:Str)(t:Tok)(l:Addr):Heap:=(NA h x t l).push {cls:=.type "tuple",data:=.seq #[.none,.none]}
abbrev Bp(h:Heap)(x:Str)(t:Tok)(l:Addr):Heap:=(OA h x t l).push {cls:=.type "zip",data:=.fields #[.none,.bool false,.bool false,.ref (LA h x t l).objs.size,.ref (NA h x t l).objs.size]}
def X6(x:Str)(t:Tok)(l:Addr)(ys:Array Value) :
  Meets (Builtin.«zip.__new__» ⟨[.type "zip",.str x t,.ref l],[]⟩) (λ_ R s=>s.heap.IsList l ys/\
   R (.ok (.ret (.ref (OA s.heap x t l).objs.size))) {s with heap:=Bp s.heap x t l}):=
 .of_wp λprog w A R s h=>by
  obtain⟨hp,g,d,tk,os⟩:=s;obtain⟨hl,h⟩:=h;have Rb:=sub_zip;have hL:Heap.IsList (Shared.heap ⟨hp.push {cls:=.type (strIterType x),data:=.fields #[.str x t,.int 0 0]},g,d,tk,os⟩) l ys:=Heap.IsList.push hl _
  wp_walk using wpAny_pyIter_strU,wpAny_pyIter_list hL
  exact⟨_,rfl,h⟩
def J8{t:Tok}{l:Addr}{ys:Array Value} (hl:s.heap.IsList l ys)
  (h:∀h',IsZip h' (s.heap.objs.size+4) (s.heap.objs.size+2) (s.heap.objs.size+3) .none->IsPair h' (s.heap.objs.size+2) (.ref s.heap.objs.size) (.ref (s.heap.objs.size+1))->
   IsPair h' (s.heap.objs.size+3) .none .none->h'.IsStrIter s.heap.objs.size (strIterType x) x t 0->h'.IsListIter (s.heap.objs.size+1) l 0->h'.objs.size=s.heap.objs.size+5->
   (∀c o,s.heap.get? c=some o->h'.get? c=some o)->Q (.ref (s.heap.objs.size+4)) {s with heap:=h'}) :
  wpAny (model prog w) A (call (.type "zip") [.str x t,.ref l]) Q E s:=by
 refine callType_new PySem.F.called_zip (by decide) (PySem.F.typeCall_zip_2 _ _) (PySem.F.newCall_zip_2 _ _) (λobj=>PySem.F.args_object_init_3 obj _ _) PySem.F.entry_zip_new
  (X6 x t l ys) ⟨hl,?_⟩
 have z1:(KA s.heap x t).objs.size=s.heap.objs.size+1:=qg ..;have z2:(LA s.heap x t l).objs.size=s.heap.objs.size+2:=by rw[qg,z1]
 have z3:(NA s.heap x t l).objs.size=s.heap.objs.size+3:=by rw[qg,z2]
 have z4:(OA s.heap x t l).objs.size=s.heap.objs.size+4:=by rw[qg,z3]
 have z5:(Bp s.heap x t l).objs.size=s.heap.objs.size+5:=by rw[qg,z4]
 have g5:(Bp s.heap x t l).get? (OA s.heap x t l).objs.size=some _:=Pd _ rfl;have g4:(Bp s.heap x t l).get? (NA s.heap x t l).objs.size=some _:=Tb _ (Pd _ rfl);have g3:(Bp s.heap x t l).get? (LA s.heap x t l).objs.size=some _:=Tb _ (Tb _ (Pd _ rfl));have g2:(Bp s.heap x t l).get? (KA s.heap x t).objs.size=some _:=Tb _ (Tb _ (Tb _ (Pd _ rfl)));have g1:(Bp s.heap x t l).get? s.heap.objs.size=some _:=Tb _ (Tb _ (Tb _ (Tb _ (Pd _ rfl))));show _/\_;rw[z2,z3,z4]at g5;rw[z1,z2]at g3;rw[z3]at g4;rw[z1]at g2;rw[z4];exact⟨⟨_,g5,rfl⟩,h _ g5 g3 g4 ⟨_,g1,rfl,rfl⟩ ⟨_,g2,rfl,rfl⟩ z5 λc o x=>
  Tb _ (Tb _ (Tb _ (Tb _ (Tb _ x))))⟩
def DQ(hh:A.handled=none)(it:Addr)(x:Str)(t:Tok){n:String}(hn:n="str_ascii_iterator"\/n="str_iterator") :
  Draws prog w A it [it] x.cps.size (λi v=>∃c u,x.cps[i]?=some c/\v=.str ⟨#[c]⟩ u) (λi h=>h.IsStrIter it n x t i):=by
 rcases hn with rfl|rfl
 .exact Draws.strAscii hh it x t
 .exact Draws.strWide hh it x t
def Ϻ(hh:A.handled=none){it:Addr} {t:Tok} {n:String} (hn:n="str_ascii_iterator"\/n="str_iterator") (st:s.heap.IsStrIter it n x t i) (hx:x.cps[i]?=none)
  (hE:∀h' e,Heap.ExtBut it s.heap h'->(∃o,h'.get? e=some o/\o.cls=.type "StopIteration")->E (.ref e) {s with heap:=h'}):wpAny (model prog w) A (Builtin.SmallTypes.nextOf (.ref it)) Q E s:=by
 rcases hn with rfl|rfl
 .exact wpAny_nextOf_ascii_end hh st hx hE
 .exact wpAny_nextOf_wide_end hh st hx hE
def S4(x:Str):strIterType x="str_ascii_iterator"\/strIterType x="str_iterator":=by
 unfold strIterType;split<;>simp
end
def VA(K:Frag)(z:List Nat)(a:Addr):It:=
 ⟨λi H=>i<z.length/\∃xs x,jc K H a xs/\xs[i]?=some x,λi H x H'=>∃T c v,x=V.ref T/\H T=none/\z[i]?=some c/\H'=Ua H T (.tup [.str ⟨#[c]⟩,v])/\∀xs,jc K H a xs->xs[i]?=some v,λi H=>∃xs,jc K H a xs/\(z.length<=i\/xs.length<=i)⟩
def O_{K:Frag} {x1} {tp:Pos} {zs:List Nat} {t:Tok} {n:String} (hn:n="str_ascii_iterator"\/n="str_iterator") (a z TI TO i1 i2:Addr) (D:∀l,l=a->Vf z TI TO i1 i2 l [i1]) :
  Turn P w K (.Tuple ai x1 tp) (VA K zs a) [z,TI,TO,i1,i2] z (λi h=>IsZip h z TI TO .none/\IsPair h TI (.ref i1) (.ref i2)/\(∃u v,IsPair h TO u v)/\h.IsStrIter i1 n ⟨zs.toArray⟩ t i/\h.IsListIter i2 a i) where
 mem:=by simp
 obj:=λi h st b hb=>by
  obtain⟨hz,fh,⟨u,v,Eh⟩,⟨o1,q1,c1,d1⟩,⟨o2,q2,c2,d2⟩⟩:=st;simp only[mem_cons,not_mem_nil,or_false]at hb;rcases hb with rfl|rfl|rfl|rfl|rfl
  .exact⟨_,hz,λv z=>by cases z⟩
  .exact⟨_,fh,λv z=>by cases z⟩
  .exact⟨_,Eh,λv z=>by cases z⟩
  .exact⟨o1,q1,λv z=>by rw[d1]at z;cases z⟩
  .exact⟨o2,q2,λv z=>by rw[d2]at z;cases z⟩
 keep:=λi h h' st k=>by
  obtain⟨hz,fh,⟨u,v,Eh⟩,⟨o1,q1,r1⟩,h2⟩:=st;exact⟨k z (by simp) _ hz,k TI (by simp) _ fh,⟨u,v,k TO (by simp) _ Eh⟩,⟨o1,k i1 (by simp) _ q1,r1⟩,h2.at λo x=>k i2 (by simp) o x⟩
 item:=by
  intro X hP hw hK hc i aa s σ H E I hf st hg;subst hP hw hK;obtain⟨hz,fh,⟨u0,v0,Eh⟩,h1,h2⟩:=st;obtain⟨hi,xs,x,hq,hx⟩:=hg;obtain⟨Ga,rv,p,_⟩:=I.list hq;obtain⟨u,hu,ru⟩:=rv.get hx;have D:=D a rfl;have fo:∀b∈[z,TI,TO,i1,i2],H b=none:=λb hb=>(hf b hb).1
  have hT:H s.heap.objs.size=none:=I.Ra.fresh (Cb _);have Ov:s.TypeIs (.ref z) "zip":=⟨_,hz,rfl⟩;have hh:=I.ok.hd hc;unfold pyNext;refine Ca (ar (Hq (name:=Str.ofString "__next__") Ov mz
   (Bl mz Ov GZ
    (N_ (DQ (A:=X.A.in1) hh i1 ⟨zs.toArray⟩ t hn) D hz (CQ hz) fh Eh h1 (by simpa using hi) h2 p.isList (y:=u) (by simpa using hu) λh' tk v hP a1 a2 a3 a4 a5 a6 hk=>wpAny_pure ?_) (PySem.F.args_zip_next_1 _))))
  obtain⟨c,uu,Xz,rfl⟩:=hP;refine⟨_,rfl,wpAny_letOwnedTupleGo_zip (s:={s with heap:=h',toks:=tk}) a1 λh9 hz9 sb=>?_⟩
  have Xm:∀b o,b≠z->b≠TO->b≠i1->b≠i2->s.heap.get? b=some o->h9.get? b=some o:=λb o e1 e2 e3 e4 q=>(sb.2 b e1).trans (hk b o e1 e2 e3 e4 q)
  have zlt:z≠s.heap.objs.size:=Hd (dc hz);have OI:h9.get? s.heap.objs.size=some {cls:=.type "tuple",data:=.seq #[.str ⟨#[c]⟩ uu,u]}:=(sb.2 _ zlt.symm).trans a5;have nT:∀b u',H b=some u'->b≠s.heap.objs.size:=λb u' q=>bB q hT
  have nx:∀b u',H b=some u'->b≠z/\b≠TO/\b≠i1/\b≠i2:=λb u' q=>⟨bB q (fo z (by simp)),bB q (fo TO (by simp)),bB q (fo i1 (by simp)),bB q (fo i2 (by simp))⟩
  have mx:∀b:Addr,b∉[z,TI,TO,i1,i2]->b≠z/\b≠TO/\b≠i1/\b≠i2:=λb hb=>⟨λq=>hb (by simp[q]),λq=>hb (by simp[q]),λq=>hb (by simp[q]),λq=>hb (by simp[q])⟩
  have B1:∀b o,s.heap.get? b=some o->b≠s.heap.objs.size:=λb o q=>Hd (dc q)
  have kp:∀b o,b∉[z,TI,TO,i1,i2]->s.heap.get? b=some o->h9.get? b=some o:=λb o hb q=>Xm b o (mx b hb).1 (mx b hb).2.1 (mx b hb).2.2.1 (mx b hb).2.2.2 q
  have un:Un (bi X.stack) [z,TI,TO,i1,i2] H (Ua H s.heap.objs.size (.tup [.str ⟨#[c]⟩,x])) s.heap h9:=by
   refine⟨λb o q n hb hx=>kp b o hx q,λb o q n hb hx=>⟨o.slots,kp b o hx q⟩,λb o q n hx=>by rw[bF (B1 b o q)];exact n,λb o q hx=>⟨o,kp b o hx q⟩,λb ys q=>by rw[bF (nT b _ q)];exact q,λb o u' q=>by rw[bF (nT b _ q)];exact q,λb ps q=>⟨#[],by rw[bF (nT b _ q),Array.append_empty];exact q⟩⟩
  have Ra:Od X.prog X.w (Ua H s.heap.objs.size (.tup [.str ⟨#[c]⟩,x])) h9:=λb u' q=>by
   by_cases hb:b=s.heap.objs.size
   .subst hb;rw[bL]at q;cases q;exact⟨show 2<=sizeLine by decide,[.str ⟨#[c]⟩ uu,u],.cons ⟨_,rfl⟩ (.cons ru .nil),_,OI,rfl,_,rfl⟩
   .rw[bF hb]at q;refine(I.Ra b u' q).Ae (λc v Gg q'=>?_) (λc q'=>by rw[bF (nT c _ q')];exact q') λc ys q'=>by rw[bF (nT c _ q')];exact q'
    have:∃ww,H c=some ww:=by
     rcases Gg with z|z
     .exact⟨u',by rw[z];exact q⟩
     .exact⟨_,z⟩
    obtain⟨ww,ji⟩:=this;obtain⟨e1,e2,e3,e4⟩:=nx c _ ji;exact Xm c v e1 e2 e3 e4 q'
  have I2:xa X aa σ (Ua H s.heap.objs.size (.tup [.str ⟨#[c]⟩,x])) {s with heap:=h9,toks:=tk}:=I.call (g':=s.gens) (t':=tk) (d':=s.drawn) (ch:=[z,TI,TO,i1,i2]) un Ra I.bare λb hb=>by
   have fb:=hf b hb;exact⟨fb.2.2.2.1,fb.2.1,fb.2.2.2.2.1,fb.2.2.2.2.2⟩
  have up:∀b o,b≠z->h'.get? b=some o->h9.get? b=some o:=λb o e q=>(sb.2 b e).trans q
  refine⟨.ref s.heap.objs.size,_,I2,rfl,⟨_,c,x,rfl,hT,by simpa using Xz,rfl,λys hy=>by rw[I.qf hy hq];exact hx⟩,⟨hz9,up _ _ D.TIz (hk _ _ D.TIz D.TITO D.TIi1 D.TIi2 fh),⟨_,_,up _ _ D.TOz a2⟩,?_,a4.at λo y=>up _ o D.i2z y⟩,λb hb=>?_⟩
  .obtain⟨o1,q1,r1⟩:=a3;exact⟨o1,up _ _ D.i1z q1,r1⟩
  .have hbs:∃o,s.heap.get? b=some o:=by
    simp only[mem_cons,not_mem_nil,or_false]at hb;obtain⟨o1,q1,_⟩:=h1;obtain⟨o2,q2,_⟩:=h2;rcases hb with rfl|rfl|rfl|rfl|rfl
    .exact⟨_,hz⟩
    .exact⟨_,fh⟩
    .exact⟨_,Eh⟩
    .exact⟨_,q1⟩
    .exact⟨_,q2⟩
   obtain⟨o,q⟩:=hbs;rw[bF (B1 b o q)];exact fo b hb
 done:=by
  intro X hP hw hK hc i aa s σ H E I hf st hg;subst hP hw hK;obtain⟨hz,fh,⟨u0,v0,Eh⟩,h1,h2⟩:=st;obtain⟨xs,hq,hx⟩:=hg;obtain⟨Ga,rv,p,_⟩:=I.list hq;have D:=D a rfl;have Ov:s.TypeIs (.ref z) "zip":=⟨_,hz,rfl⟩;have hh:=I.ok.hd hc;have hl:=rv.length;unfold pyNext;refine Ca (ar (Hq (name:=Str.ofString "__next__") Ov mz
   (Bl mz Ov GZ
    (Ϲ (DQ (A:=X.A.in1) hh i1 ⟨zs.toArray⟩ t hn) hh D hz (CQ hz) fh Eh h1 h2 p.isList (by
     by_cases hi:zs.length<=i
     .refine .inl λs' Q E st hE=>Ϻ (A:=X.A.in1) hh hn st (by simpa using hi) hE
     .exact .inr ⟨by simpa using hi,by simp;omega⟩) λh' e tk hk he=>?_) (PySem.F.args_zip_next_1 _))))
  obtain⟨o,ho,Fo⟩:=he;refine Ca (Dz (T:="StopIteration") (b:=true) ⟨o,ho,Fo⟩ isSubtype_stop ?_);refine kb ⟨rfl,?_⟩;have fo:∀b∈[z,TI,TO,i1,i2],H b=none:=λb hb=>(hf b hb).1
  have mx:∀b:Addr,b∉[z,TI,TO,i1,i2]->b≠z/\b≠TO/\b≠i1/\b≠i2:=λb hb=>⟨λq=>hb (by simp[q]),λq=>hb (by simp[q]),λq=>hb (by simp[q]),λq=>hb (by simp[q])⟩
  have kp:∀b o,b∉[z,TI,TO,i1,i2]->s.heap.get? b=some o->h'.get? b=some o:=λb o hb q=>hk b o (mx b hb).1 (mx b hb).2.1 (mx b hb).2.2.1 (mx b hb).2.2.2 q
  have un:Un (bi X.stack) [z,TI,TO,i1,i2] H H s.heap h':=
   ⟨λb o q n hb hx=>kp b o hx q,λb o q n hb hx=>⟨o.slots,kp b o hx q⟩,λb o q n hx=>n,λb o q hx=>⟨o,kp b o hx q⟩,λb ys q=>q,λb o u' q=>q,λb ps q=>⟨#[],by rw[Array.append_empty];exact q⟩⟩
  have Ra:Od X.prog X.w H h':=λb u' q=>by
   refine(I.Ra b u' q).Ae (λc v Gg q'=>?_) (λc q'=>q') λc ys q'=>q'
   have:∃ww,H c=some ww:=by
    rcases Gg with z|z
    .exact⟨u',by rw[z];exact q⟩
    .exact⟨_,z⟩
   obtain⟨ww,ji⟩:=this;exact hk c v (bB ji (fo z (by simp))) (bB ji (fo TO (by simp))) (bB ji (fo i1 (by simp))) (bB ji (fo i2 (by simp))) q'
  exact I.call (g':=s.gens) (t':=tk) (d':=s.drawn) (ch:=[z,TI,TO,i1,i2]) un Ra I.bare λb hb=>by
   have fb:=hf b hb;exact⟨fb.2.2.2.1,fb.2.1,fb.2.2.2.2.1,fb.2.2.2.2.2⟩
 self:=λ_ _ _ _ _ st h=>wpAny_pyIter_zip st.1 h
theorem dS:∀(z:List Nat)(ds:List D),(yh z ds).length=min z.length ds.length
 |[],ds=>by simp[yh]
 |c::z,[]=>by simp[yh]
 |c::z,d::ds=>by rw[yh,Qd,Qd,Qd,dS];omega
theorem eS:∀(z:List Nat)(ds:List D)(i:Nat)(d:D),(yh z ds)[i]?=some d->∃c e,z[i]?=some c/\ds[i]?=some e/\d=.tup [.str [c],e]
 |[],ds,i,d,h=>by simp[yh]at h
 |c::z,[],i,d,h=>by simp[yh]at h
 |c::z,e::ds,0,d,h=>by
  rw[yh]at h;simp at h;exact⟨c,e,rfl,rfl,h.symm⟩
 |c::z,e::ds,i+1,d,h=>by
  rw[yh,su]at h;obtain⟨c',e',h1,h2,h3⟩:=eS z ds i d h;exact⟨c',e',by simpa using h1,by simpa using h2,h3⟩
section
variable {a b:Expr}
def bI9{K:Frag} {l:Addr} (hq:jc K (hide (A++B) H) l vs) (r:bC K (hide (A++B) H) ds vs):Bq K B A H (VA K z l) (yh z ds):=by
 intro A' H' le own i;have sd:jc K H' l vs:=(bA _ _).seq ((Le.app le).seq hq);refine⟨λd hd=>?_,λhl=>⟨vs,sd,?_⟩⟩
 .obtain⟨c,e,h1,h2,rfl⟩:=eS z ds i d hd;obtain⟨v,hv,rv⟩:=r.get h2;refine⟨⟨(Kd.mp h1).1,vs,v,sd,hv⟩,λx H3 y=>?_⟩
  obtain⟨T,c',v',rfl,hT,Gg,rfl,h5⟩:=y;have hx:=h5 vs sd;rw[hv]at hx;cases hx;rw[h1]at Gg;cases Gg;exact⟨bT hT,CN own hT (.cons (eN.mpr rfl) (.cons (rv.mono (Le.app le)) .nil))⟩
 .rw[dS]at hl;rw[r.length];omega
def bIa{x1}{tp p:Pos}(hm:X.mg "zip"=none)(ha:PE X a (tI X.K B f))(hb:PE X b (tI X.K B g))(hg:Gl X "zip":=by rfl)(hs:starEach [a,b] X.env=(false,eval a X.env)::starEach [b] X.env:=by rfl)(Ud:starEach [b] X.env=[(false,eval b X.env)]:=by rfl):L2.PI X (.Tuple ai x1 tp) (.Call (.Name "zip" p) [a,b] [] pos) (Oh X.K B (UW f g)):=by
 intro aa s σ H Rq I ⟨A,st,ds,rs,hd,q⟩;obtain⟨x,hx,h2⟩:=R.ja hd;obtain⟨y,hy,h3⟩:=R.ja h2;split at h3
 rotate_left
 .cases h3
 rename_i zs ws;cases h3;refine Call_ (Mp I hg hm boot_zip (Zy (Ib ((cM ha (cM hb fL Ud) hs) pos aa s σ H (λvs H1=>∃v w,vs=[v,w]/\aY H H1/\Va X.K (hide (A++B) H1) (.str zs) v/\Va X.K (hide (A++B) H1) (.lst ws) w) I ⟨A,st,_,rs,hx,λv H1 s1 r1=>⟨A,st,_,rs.mono s1,hy,λw H2 s2 r2=>⟨v,w,rfl,s1.trans s2,r1.mono (aY.hide s2),r2⟩⟩⟩) λus s1 ⟨vs,H1,I1,r1,v,w,hv,sm,rv,Te⟩=>?_) hs (by rw[Ud];rfl)))
 subst hv;obtain⟨u1,u2,rfl,ra,rb⟩:∃u1 u2,us=[u1,u2]/\L2.RelV v u1/\L2.RelV w u2:=by
  cases r1 with
  |cons ra rb=>
   cases rb with
   |cons rb rc=>
    cases rc;exact⟨_,_,rfl,ra,rb⟩
 obtain⟨l,ts,rfl,hq,rr⟩:=gK.mp Te;have ev:=eN.mp rv;subst ev;obtain⟨t,rfl⟩:=(show ∃t,u1=Value.str ⟨zs.toArray⟩ t from ra)
 have eu:u2=Value.ref l:=rb;subst eu;obtain⟨Ga,rvv,pl,hz⟩:=I1.list ((bA _ _).seq hq);have Qb:l<s1.heap.objs.size:=by
  obtain⟨o,e,_⟩:=pl.isList;exact dc e
 refine J8 pl.isList λh' kA fh Eh lj Mo hsz hk=>?_
 refine wpAny_pyIter_zip kA ⟨s1.heap.objs.size+4,[s1.heap.objs.size+4,s1.heap.objs.size+2,s1.heap.objs.size+3,s1.heap.objs.size,s1.heap.objs.size+1],_,VA X.K zs l,H1,rfl,I1.kept (t':=s1.toks) hk,O_ (t:=t) (S4 ⟨zs.toArray⟩) l (s1.heap.objs.size+4) (s1.heap.objs.size+2) (s1.heap.objs.size+3) s1.heap.objs.size (s1.heap.objs.size+1) (λl' e=>?_),⟨kA,fh,⟨_,_,Eh⟩,lj,Mo⟩,λb hb=>?_,q _ H1 sm (bI9 hq rr)⟩
 .subst e;exact W6 Qb
 .simp only[mem_cons,not_mem_nil,or_false]at hb;rcases hb with rfl|rfl|rfl|rfl|rfl<;>exact I1.dj (by simp) (I1.Ra.fresh (by simp))
end
section
variable {a b:Expr} {q:Pos}
def bIb{ta:TA}(hm:X.mg "range"=none)(ha:PA X [a] ta)(hg:Gl X "range":=by rfl)(hs:starEach [a] X.env=[(false,eval a X.env)]:=by rfl) :
  PE X (.Call (.Name "range" p1) [a] [] q) (λσ H Q=>ta σ H λvs H1=>∃j:Int,vs=[.int j]/\∀r,H1 r=none->Q (.ref r) (Ua H1 r (.uk 0 j))):=by
 intro aa s σ H Q I h;refine Call_ (Mp I hg hm boot_range (Zy (Ib (ha q aa s σ H _ I h) λus s1 ⟨vs,H1,I1,r1,j,e,qq⟩=>?_) hs rfl))
 subst e;cases r1 with
 |cons r rr=>
  cases rr;obtain⟨t,rfl⟩:=r;exact call_range_1 ⟨.ref s1.heap.objs.size,_,I1.laid (a:=s1.heap.objs.size) (o:=.uk 0 j) (λb o e=>Tb _ e) (Cb _) ⟨_,_,_,Pd _ rfl⟩,rfl,qq _ (I1.Ra.fresh (Cb _))⟩
def ϻ(i:Nat) {dp:Pos} (hk:PE X a (tI X.K B g)) (hv:PE X b (tI X.K B f)) (hN:X.N.Nodup) (hi:X.N[i]?=some x:=by rfl) (hx:Loc X.env.scope x:=by first|exact Or.inl rfl|exact Or.inr rfl) (hs:swapsWith (.Dict [some a] [b] dp) (some (.Name x pos')) pos.line X.env=pure false:=by rfl)
  (hf:X.fn x=true\/X.env.scope.names.lookup x=some .local:=by first|exact .inl rfl|exact .inr rfl|assumption):PS X (.Assign [.Name x pos'] (.Dict [some a] [b] dp) pos) (tS X.K B (xE i g f)):=iY (Gn hN hi hx (Β (v9 hk hv Α) rfl rfl (by simp) (show 1<=15 by omega)) hs hf) (by
 rintro Dn σ H ⟨A,st,r,rs,hr,p⟩;obtain⟨k,hk,h2⟩:=R.ja hr;obtain⟨d,hd,h3⟩:=R.ja h2;obtain⟨⟨c1,c2⟩,h4⟩:=aJ h3;cases h4;intro a ha;refine⟨A,st,k,rs.mono (bT ha),hk,λu H1 s1 r1=>⟨A,st,d,(rs.mono (bT ha)).mono s1,hd,λv H2 s2 r2=>?_⟩⟩
 have e2:H2 a=some (.dK []):=s2 _ _ (s1 _ _ bL);obtain⟨kk,ek,ev⟩:∃kk:gb,gQ kk=k/\u=kV kk:=by
  cases k<;>first|(cases c1;done)|skip
  .exact⟨.inl _,rfl,bM.mp r1⟩
  .refine⟨.inr ⟨_⟩,?_,eN.mp r1⟩;simp[gQ]
 refine⟨e2,[(kk,v)],by rw[ev];rfl,(show 1<=15 by omega),?_⟩
 let G:Hp:=λb=>if b=a then none else H2 b
 have sG:aY H G:=λb o z=>by
  have hb:b≠a:=bB z ha;show (if b=a then none else H2 b)=_
  rw[La hb];exact s2 _ _ (s1 _ _ (by rw[bF hb];exact z))
 have gN:G a=none:=Na rfl;have eG:Ua H2 a (.dK (Qp [] [(kk,v)]))=Ua G a (.dK [(kk,v)]):=by
  funext b
  by_cases hb:b=a
  .subst hb;rw[bL,bL];rfl
  .rw[bF hb,bF hb];exact(La hb).symm
 rw[eG];exact p (a::A) _ _ ((Le.of sG).trans (Yp gN)) ((rs.mono sG).Cj (kk:=.d false [k]) i gN (.inl ⟨rfl,[(kk,v)],rfl,by rw[<-ek];rfl,rfl⟩) (.cons ((cS c2 r2).mono IU) .nil)))
end
def bitAnd_nn{i j:Int}(h1:0<=i)(h2:0<=j):Builtin.bitAnd i j=((i.toNat&&&j.toNat:Nat):Int):=by
 unfold Builtin.bitAnd;rw[Ld h1,Ld h2]
def P_{i j:Int}(h1:0<=i)(h2:0<=j):Builtin.bitOr i j=((i.toNat|||j.toNat:Nat):Int):=by
 unfold Builtin.bitOr Builtin.bitAnd;have a1:¬ 0<=Builtin.bitNot i:=by unfold Builtin.bitNot;omega
 have a2:¬ 0<=Builtin.bitNot j:=by unfold Builtin.bitNot;omega
 rw[Cd a1,Cd a2];have e1:Builtin.bitNot (Builtin.bitNot i)=i:=by unfold Builtin.bitNot;omega
 have e2:Builtin.bitNot (Builtin.bitNot j)=j:=by unfold Builtin.bitNot;omega
 show Builtin.bitNot (Builtin.bitNot _)=_;rw[e1,e2];unfold Builtin.bitNot;omega
section
variable {a b o:Expr}
def DX(ha:PE X a (tP X.K B f))(hb:PE X b (tP X.K B g)):PE X (.BinOp a .LShift b pos) (tI X.K B (e2 zm f g)):=
 Wj bFz (et (g:=λi j=>.int (i*2^j.toNat)) (λ_ _ _=>bM.mpr rfl) λx y d e=>by
  unfold zm at e;split at e
  .obtain⟨c,e⟩:=aJ e;cases e;exact⟨_,_,rfl,rfl,c,rfl⟩
  .cases e) ha hb
def bLe(ha:PE X a (tP X.K B f))(hb:PE X b (tP X.K B g)):PE X (.BinOp a .RShift b pos) (tI X.K B (e2 Aq f g)):=
 Wj bG0 (et (g:=λi j=>.int (i/2^j.toNat)) (λ_ _ _=>bM.mpr rfl) λx y d e=>by
  unfold Aq at e;split at e
  .obtain⟨c,e⟩:=aJ e;cases e;exact⟨_,_,rfl,rfl,c,rfl⟩
  .cases e) ha hb
def HW(ha:PE X a (tP X.K B f))(hb:PE X b (tP X.K B g)):PE X (.BinOp a .BitAnd b pos) (tI X.K B (e2 Am f g)):=
 Wj bG1 (yC (g:=λi j=>.int (Builtin.bitAnd i j)) (λ_ _ _=>bM.mpr rfl) λx y d e=>by
  unfold Am at e;split at e
  .obtain⟨c,e⟩:=aJ e;cases e;exact⟨_,_,rfl,rfl,by rw[bitAnd_nn c.1 c.2]⟩
  .cases e) ha hb
def HF(ha:PE X a (tP X.K B f))(hb:PE X b (tP X.K B g)):PE X (.BinOp a .BitOr b pos) (tI X.K B (e2 Pm f g)):=
 Wj bJl (yC (g:=λi j=>.int (Builtin.bitOr i j)) (λ_ _ _=>bM.mpr rfl) λx y d e=>by
  unfold Pm at e;split at e
  .obtain⟨c,e⟩:=aJ e;cases e;exact⟨_,_,rfl,rfl,by rw[P_ c.1 c.2]⟩
  .cases e) ha hb
theorem KO{K:Frag}{H:Hp}:∀{l:List Int}{vs:List V},bC K H (l.map D.int) vs->vs=l.map V.int
 |[],vs,h=>dD.mp h
 |i::l,vs,h=>by
  obtain⟨v,r,rfl,h1,h2⟩:=bN.mp h;rw[bM.mp h1,KO h2];rfl
theorem Yb:∀{l:List Int}{us:List Value},Ea (l.map V.int) us->∀(j:Nat)(h:j<us.length),∃i t,l[j]?=some i/\us[j]=.int i t
 |[],us,r,j,h=>by cases r;simp at h
 |i::l,us,r,j,h=>by
  cases r with
  |cons ra rb=>
   obtain⟨t,rfl⟩:=ra;cases j with
   |zero=>exact⟨i,t,rfl,rfl⟩
   |succ j=>
    obtain⟨i',t',h1,h2⟩:=Yb rb j (by simpa using h)
    exact⟨i',t',by simpa using h1,by simpa using h2⟩
def K8:yi X "list.index" (λx vs H Q=>∃(p:Addr)(l:List Int)(k:Int)(n:Nat),x=V.ref p/\vs=[.int k]/\jc X.K H p (l.map V.int)/\l.findIdx? (λi=>i==k)=some n/\l.length<=10000000/\Q (.int (n:Int)) H):=by
 intro aa s σ H x vs v us Q I rx rv h;obtain⟨p,l,k,n,rfl,rfl,hq,hn,hl,q⟩:=h;obtain⟨u,rfl,ru⟩:=rv.one;obtain⟨t,rfl⟩:=(show ∃t,u=Value.int k t from ru)
 have ep:v=Value.ref p:=rx;subst ep;obtain⟨Ga,rr,⟨⟨cls,dd,data,sl⟩,n0,ho,hc,_,hd⟩,hz⟩:=I.list hq;have Ya:=rr.length;rw[uc]at Ya;obtain⟨h1,h2,h3⟩:=ZX.mp hn;dsimp only at hc hd;subst hc hd;have K0:n<Ga.length:=by omega
 refine Nm WY ⟨_,ho,rfl⟩ PySem.F.entry_list_index (PySem.F.args_list_index_2 _ _) (PySem.SeqAt.list_indexAt p Ga.toArray n0 dd sl (.int k t) (λy=>match y with|.int i _=>i==k|_=>false) n (by simpa using K0) (by omega) ?_ λm hm hmn=>?_) ⟨ho,λy hy=>?_,?_⟩
 .obtain⟨i,t',e1,e2⟩:=Yb rr n K0;rw[VZ,e2];rw[Pc h1]at e1;cases e1;exact h2
 .have Kg:m<Ga.length:=by simpa using hm
  obtain⟨i,t',e1,e2⟩:=Yb rr m Kg;rw[VZ,e2];rw[Pc (by omega)]at e1
  cases e1;have:=h3 m hmn;simpa using this
 .obtain⟨m,hm,rfl⟩:=io.mp (show y∈Ga by simpa using hy)
  obtain⟨i,t',e1,e2⟩:=Yb rr m hm;rw[e2];exact(PySem.MeetsSeq.EqGives.int i k t' t).at _ _
 .exact⟨.int (n:Int),H,I.tok _,⟨_,rfl⟩,q⟩
def Q_{r:zd}(ho:PE X o (tP X.K B f))(ha:PA X [e] (tA X.K B r))(qb:attributeBase o "index" X.env (eval o X.env)=eval o X.env:=by rfl)
  (md:((backTo Aa (starEach [e] X.env)).all (λx=>!x.1)&&(backToKw Aa (keywordEach [] X.env)).all (λx=>x.1.isSome)
   && decide (([e]:List Expr).length+([]:List Keyword).length+(if ([]:List Keyword).isEmpty then 0 else 1)<30))=true:=by rfl)
  (ub:(Oa.endLine==Aa.line)=true:=by rfl) (hs:starEach [e] X.env=(false,eval e X.env)::starEach [] X.env:=by rfl) :
  PE X (.Call (.Attribute o "index" Oa) [e] [] Aa) (tI X.K B (Zh zy f r)):=by
 refine cL (tm Gq WY PySem.F.type_list_index K8 ho ha qb md ub hs rfl) ?_
 rintro σ H Q ⟨A,st,d,rs,hd,k⟩;obtain⟨x,hx,h2⟩:=R.ja hd;obtain⟨xs,Nl,h3⟩:=R.ja h2;unfold zy at h3;split at h3
 .rename_i ys j;obtain⟨l,hl,h4⟩:=R.ja h3;obtain⟨n,hn,h5⟩:=R.ja h4;obtain⟨c,h6⟩:=aJ h5;cases h6;have ey:=wF hl;subst ey;refine⟨A,st,_,rs,hx,λv H1 s1 r1=>?_⟩
  obtain⟨p,vs,e1,hq,rr⟩:=r1.lst;have ev:=KO rr;subst ev;refine⟨by rw[e1];exact .inl ⟨rfl,_,hq⟩,A,st,_,rs.mono s1,Nl,λws H2 s2 r2=>?_⟩
  obtain⟨w,rfl,Te⟩:=Ht r2;rw[jH,uc]at c;exact⟨p,l,j,n,e1,by rw[bM.mp Te],s2.seq hq,pX hn,c,k _ H2 (s1.trans s2) (bM.mpr rfl)⟩
 .cases h3
def bE8:yi X "int.bit_length" (λx vs H Q=>∃i:Int,x=.int i/\vs=[]/\Q (.int ((Builtin.Int.intBits i:Nat):Int)) H):=by
 intro aa s σ H x vs v us Q I rx rv h;obtain⟨i,rfl,rfl,q⟩:=h;obtain⟨t,rfl⟩:=(show ∃t,v=Value.int i t from rx)
 have Wo:=rv.zero;subst Wo;exact call_int_bit_length ⟨.int _,H,I.tok _,⟨_,rfl⟩,q⟩
def bE9(i:Int):Builtin.Int.intBits i=wG i:=by
 unfold Builtin.Int.intBits wG
 by_cases h:i=0
 .rw[Na h,Na (by rw[h];rfl)]
 .rw[La h,La (by simpa using h)]
def bIc(ho:PE X o (tP X.K B f))(qb:attributeBase o "bit_length" X.env (eval o X.env)=eval o X.env:=by rfl)(ub:(Oa.endLine==Aa.line)=true:=by rfl) :
  PE X (.Call (.Attribute o "bit_length" Oa) [] [] Aa) (tI X.K B (e1 xx f)):=by
 refine cL (Vx PySem.F.plainAttrs_int PySem.F.slot_int_bit_length PySem.F.type_int_bit_length bE8 ho qb ub) ?_
 rintro σ H Q ⟨A,st,d,rs,hd,k⟩;obtain⟨x,hx,h2⟩:=R.ja hd;cases x<;>first|(cases h2;done)|skip
 cases h2;refine⟨A,st,_,rs,hx,λv H1 s1 r1=>⟨by rw[r1.int];rfl,_,r1.int,rfl,?_⟩⟩
 rw[bE9];exact k _ H1 s1 (bM.mpr rfl)
end
section
open PySem.SeqAt
open PySem.AutoSeq1 (wpAny_loadPart')
open PySem.MeetsSeq PySem.MeetsSeq2 PySem.MeetsSeq3
inductive Qh (A:Around) (s:Shared):List Value->List Value->Bool->Prop where
 |nn:Qh A s [] [] true
 |nc {w:Value} {ws:List Value}:Qh A s [] (w::ws) true
 |cn {v:Value} {vs:List Value}:Qh A s (v::vs) [] false
 |eq {v w:Value} {vs ws:List Value} {b:Bool}:EqAt A s v w true->Qh A s vs ws b->Qh A s (v::vs) (w::ws) b
 |lt {v w:Value} {vs ws:List Value} {b:Bool}:EqAt A s v w false->(∀(prog:Program)(wd:World)(E Q:Value->Shared->Prop),Q (.bool b) s->wpAny (model prog wd) A (richCompare .LtE v w) Q E s)->Qh A s (v::vs) (w::ws) b
end
def bId{k:gb} (h:Pn k u=true):L2.RelV (kV k) u:=by
 rcases fZ h with ⟨i,t,rfl,rfl⟩|⟨x,t,rfl,rfl⟩
 .exact⟨t,rfl⟩
 .exact⟨t,rfl⟩
section
variable {a:Expr}
def bIe{ma:List (gb×V)}{vs:List (gb×Value)}(r:KV ma vs):vs.length=ma.length:=by
 unfold KV at r
 induction r with
 |nil=>rfl
 |cons _ _ ih=>simp[ih]
end
section
variable {iter c:Expr} {t:Tg} {u:Ex}
def R_{K:Frag} {st:ya} {p:Addr} (rs:RS K B A H st σ) (i:Nat) (s1:aY H H1) (hp:H1 p=none) (s2:aY H1 H') (hv:H' p=some (.lst vs)) (r:bC K (hide (A++p::B) H') ys vs) :
  RS K B (p::A) H' (st.set i (some (.o .l ys))) (σ.set i (some (.ref p)))/\Le A H (p::A) H':=by
 let G:Hp:=λb=>if b=p then none else H' b
 have hpH:H p=none:=by
  cases h:H p with
  |none=>rfl
  |some o=>rw[s1 _ _ h]at hp;cases hp
 have sG:aY H G:=λb o z=>by
  have hb:b≠p:=bB z hpH;show (if b=p then none else H' b)=_
  rw[La hb];exact s2 _ _ (s1 _ _ z)
 have gN:G p=none:=Na rfl;have eG:Ua G p (.lst vs)=H':=by
  funext b
  by_cases hb:b=p
  .subst hb;rw[bL,hv]
  .rw[bF hb];exact La hb
 have eh:hide (A++p::B) H'=hide (A++B) G:=by
  funext b
  by_cases hb:b∈A++p::B
  .rw[cY hb];rcases mem_mid.mp hb with e|e
   .subst e
    by_cases Fh:b∈A++B
    .rw[cY Fh]
    .rw[bK Fh];exact gN.symm
   .rw[cY e]
  .have h2:b∉A++B:=λz=>hb (mem_mid.mpr (.inr z))
   have h3:b≠p:=λz=>hb (mem_mid.mpr (.inl z))
   rw[bK hb,bK h2];exact(La h3).symm
 rw[eh]at r;have z:=(rs.mono sG).Cj (kk:=.l) (o:=.lst vs) i gN rfl r;have l:=(Le.of (A:=A) sG).trans (Yp (o:=.lst vs) gN);rw[eG]at z l;exact⟨z,l⟩
def JU(i:Nat){x:Str} (is:List Nat) (Rb:Uj is t) (S:Jb X scope is) (hi:L2.PI X tg iter (Oh X.K B it)) (hg:∀(B:List Addr)(C:Addr)(ua:Shared)(za:Hp)(fp:List Addr),PG (cC X scope C ua za fp) tg (tG X.K B t))
  (he:∀(B:List Addr)(C:Addr)(ua:Shared)(za:Hp)(fp:List Addr),PE (cC X scope C ua za fp) elt (tI X.K B f)) (hc:X.calm=true) (hN:X.N.Nodup) (Oe:X.N[i]?=some x:=by rfl) (hx:Loc X.env.scope x:=by first|exact Or.inl rfl|exact Or.inr rfl)
  (Mg:swapsWith (.ListComp elt [⟨tg,iter,[],0⟩] scope pos) (some (.Name x px)) Rg.line X.env=pure true:=by rfl)
  (hf:X.fn x=true\/X.env.scope.names.lookup x=some .local:=by first|exact .inl rfl|exact .inr rfl|assumption) (hs:∀x,foldedSetIterable iter X.env x=pure x:=by intro _;rfl) :
  PS X (.Assign [.Name x px] (.ListComp elt [⟨tg,iter,[],0⟩] scope pos) Rg) (tS X.K B (qW i (dI is t it cH f))):=by
 intro aa s σ H Dn I h;obtain⟨A,st,r,rs,hr,q⟩:=h;obtain⟨d,hd,h3⟩:=R.ja hr;obtain⟨xs,vj,h2⟩:=R.ja hd;obtain⟨hl,h5⟩:=aJ h2;obtain⟨ys,hy,h4⟩:=R.ja h5;cases h4;cases h3;rw[jz _ _ _ _ Mg];refine Ca (Gm (Ca ?_));show wpAny _ X.A (do let _ <- comprehension (.ListComp elt [⟨tg,iter,[],0⟩] scope pos) scope X.env _ (newList []) false (eval iter X.env) (some (assign (.Name x px) X.env))) _ _ s
 refine Ca (Wh (Q:=λ_ s'=>SP X aa Dn .next s') ?_ (λ_ s' hq=>kb (kb hq)) λ_ _ e=>e)
 refine pY (use:=some (assign (.Name x px) X.env)) (Qf:=λ_ s'=>SP X aa Dn .next s') (Q:=λv H'=>Dn.nx (σ.set i (some v)) H') (tt:=uX) (te:=yk X.K f) (rest:=λenv it p=>eval elt env >>= λx=>call (.builtin "list.append") [p,x] >>= λ_=>again (.compLoop (.ListComp elt [⟨tg,iter,[],0⟩] scope pos) 0 it p env)) S hc hi (λC ua za fp=>ao λB=>hg B C ua za fp) (λ_ _ _=>nQ)
  (λC ua za fp it p s Q h=>Zt (Y:=cC X scope C ua za fp) h) (λC ua za fp it p τ H s aa vs N Q I h q=>Ft (Y:=cC X scope C ua za fp) rfl (Cq λB=>he B C ua za fp) τ H s aa vs N Q I h (λQ Q' m h=>wX Q Q' m h) q) hs I
  (vq Rb (λτ H Q ⟨B,A,st,k,rs,hk,q⟩=>?_) rs vj hl hy λp vs H1 H' s1 hp s2 hv r=>?_) λC p H5 s5 m5 s3 H3 fp τ hC I3 bg I5 Lg q5=>Jw hN Oe hx hf hC I3 bg I5 Lg λs' I'=>⟨_,_,I',q5⟩
 .obtain⟨z,l⟩:=R_ rs i s1 hp s2 hv r;exact q _ _ _ l z
 .cases hk;exact q H (aY.refl _)
end
end Pu
namespace Pu
section
open PySem PySem.Spec PyProof.Rows L2
variable {a b:Expr}
def Ox{K:Frag}:zg K (oh λi j=>.bl (decide (i<j))) Zn:=yC (g:=λi j=>.bl (decide (i<j))) (λ_ _ _=>cX.mpr rfl) λx y d e=>by
 unfold Zn at e;split at e
 .cases e;exact⟨_,_,rfl,rfl,rfl⟩
 .cases e
def S_{i j:Int}(c:(-18446744073709551616<i/\i<18446744073709551616)\/(-18446744073709551616<j/\j<18446744073709551616)):Mt i j:=by
 unfold Mt;omega
def oZ(ha:PE X a (tP X.K B f))(hb:PE X b (tP X.K B g)):PE X (.BinOp a .Mult b pos) (tI X.K B (e2 jO f g)):=by
 refine Wj bFw ?_ ha hb;intro A H x y d v u Q w rx ry e q;unfold jO at e;split at e
 .obtain⟨c,e⟩:=aJ e;cases e;exact⟨_,_,rx.int,ry.int,S_ c,q _ H (aY.refl _) (bM.mpr rfl)⟩
 .cases e
end
end Pu
namespace Pu
open PySem PySem.Spec PyProof.Rows L2
def dw(K:Frag)(f:Ex):TE:=λτ H Q=>∃B,tF K B f τ H Q
def T_{K:Frag} (Q Q':VK) (m:∀v H',Q v H'->Q' v H') (h:dw K f τ H Q):dw K f τ H Q':=let ⟨B,A,st,ds,rs,hd,q⟩:=h;⟨B,A,st,ds,rs,hd,λp vs H' s hp r=>m _ _ (q p vs H' s hp r)⟩
def bLf(h:∀B,PE X e (tF X.K B f)):PE X e (dw X.K f):=λaa s σ H Q I ⟨B,q⟩=>h B aa s σ H Q I q
def bN4{K:Frag} {p:Addr} (s1:aY H H1) (hp:H1 p=none) (s2:aY H1 H') (hv:H' p=some (.lst vs)) (r:bC K (hide (A++p::B) H') ds vs):∃G,aY H G/\G p=none/\Ua G p (.lst vs)=H'/\bC K (hide (A++B) G) ds vs:=by
 let G:Hp:=λb=>if b=p then none else H' b
 have gN:G p=none:=Na rfl;refine⟨G,λb o z=>?_,gN,?_,r.mono λb o z=>?_⟩
 .have hb:b≠p:=bB (s1 _ _ z) hp;show (if b=p then none else H' b)=_
  rw[La hb];exact s2 _ _ (s1 _ _ z)
 .funext b
  by_cases hb:b=p
  .subst hb;rw[bL,hv]
  .rw[bF hb];exact La hb
 .have hb:b∉A++p::B:=λw=>by rw[cY w]at z;cases z
  have z1:=bA _ _ _ _ z;rw[bK λw=>hb (mem_mid.mpr (.inr w))]
  show (if b=p then none else H' b)=_
  rw[La λw=>hb (mem_mid.mpr (.inl w))]
  exact z1
section
variable {iter:Expr} {t:Tg} {h:Ex} {rest:List Stmt}
def bIf(is:List Nat)(Rb:Uj is t)(S:Jb X scope is)(hi:L2.PI X tg iter (Oh X.K B it))(hg:∀(B:List Addr)(C:Addr)(ua:Shared)(za:Hp)(fp:List Addr),PG (cC X scope C ua za fp) tg (tG X.K B t))
  (he:∀(B:List Addr)(C:Addr)(ua:Shared)(za:Hp)(fp:List Addr),PE (cC X scope C ua za fp) elt (tI X.K B f)) (hc:X.calm=true) (hs:∀x,foldedSetIterable iter X.env x=pure x:=by intro _;rfl) :
  PE X (.ListComp elt [⟨tg,iter,[],0⟩] scope pos) (tF X.K B (dI is t it cH f)):=by
 intro aa s σ H Q I h;obtain⟨A,st,d,rs,hd,q⟩:=h;obtain⟨xs,hx,h2⟩:=R.ja hd;obtain⟨hl,h3⟩:=aJ h2;obtain⟨ys,hy,h4⟩:=R.ja h3;cases h4;rw[eval_ListComp];refine pY (use:=none) (Qf:=EP X aa σ Q) (Q:=Q) (tt:=uX) (te:=yk X.K f) (rest:=λenv it p=>eval elt env >>= λx=>call (.builtin "list.append") [p,x] >>= λ_=>again (.compLoop (.ListComp elt [⟨tg,iter,[],0⟩] scope pos) 0 it p env)) S hc hi (λC ua za fp=>ao λB=>hg B C ua za fp) (λ_ _ _=>nQ)
  (λC ua za fp it p s Q h=>Zt (Y:=cC X scope C ua za fp) h) (λC ua za fp it p τ H s aa vs N Q I h q=>Ft (Y:=cC X scope C ua za fp) rfl (Cq λB=>he B C ua za fp) τ H s aa vs N Q I h (λQ Q' m h=>wX Q Q' m h) q) hs I
  (vq Rb (λτ H Q ⟨B,A,st,k,rs,hk,q⟩=>?_) rs hx hl hy λp vs H1 H' s1 hp s2 hv r=>?_) λC p H5 s5 m5 s3 H3 fp τ hC I3 bg I5 Lg q5=>⟨m5,Lg,λh' Vo=>⟨.ref p,H5,Mx I3 bg hC I5 Vo,rfl,q5⟩⟩
 .obtain⟨G,g1,g2,g3,g4⟩:=bN4 s1 hp s2 hv r;have:=q p vs G g1 g2 g4;rw[g3]at this;exact this
 .cases hk;exact q H (aY.refl _)
def bIg{K:Frag}{is:List Nat} (Rb:Uj is t) {st:ya} (rs:RS K B A H st σ) (hx:it st=.ok xs) (hl:xs.length<=big) (hy:iQ t cH f (ae is st) xs=.ok ys) (ha:ys.all yy=true) {Q:VK}
  (q:∀P ps H',aY H H'->(∀p∈P::ps,H p=none)->(P::ps).Nodup->H' P=some (.lst (ps.map V.ref))->Ke K Gr H' (ys.map Gj) ps->Q (.ref P) H'):HK is (Oh K B it) (GK K t) uX (dw K f) σ H Q:=by
 refine⟨A,st,xs,rs,hx,λJ H1 s1 Yo P hP=>?_⟩
 have vn:=rs.mono s1;refine⟨λi m τ vs H'=>m=xs.length-i/\i<=xs.length/\∃ps ds rest,vs=ps.map V.ref/\ps.length=i/\H' P=some (.lst vs)/\aY H1 H'/\RS K (P::B) A H' (ae is st) τ/\(∀p∈ps,H1 p=none)/\(P::ps).Nodup/\Ke K Gr H' (ds.map Gj) ps/\iQ t cH f (ae is st) (xs.drop i)=.ok rest/\ds++rest=ys,
  ⟨xs.length,by simp,zero_le _,[],[],ys,rfl,rfl,bL,bT hP,(vn.ae is).grow hP,(λ_ h=>nomatch h),by simp,rfl,by rw[drop_zero];exact hy,rfl⟩,?_⟩
 rintro i m τ vs H' ⟨rfl,hi,ps,ds,rest,rfl,hpl,jk,s2,ni,fr,nd,Jh,hr,ag⟩;refine⟨jk,?_⟩;have mv:∀a,a∈(P::A)++B↔a∈A++P::B:=λa=>by
  rw[mem_mid];exact Nb
 have le:Le A H1 (P::A) H':=λb u z=>by
  have z1:=bA _ _ _ _ z;have hb:b∉A:=λw=>by rw[cY w]at z;cases z
  have ne:b≠P:=bB z1 hP;rw[bK (show b∉P::A from λw=>(Nb.mp w).elim ne hb)]
  exact s2 b u z1
 obtain⟨i1,i2⟩:=Yo (P::A) H' le (λa ha=>ni.own a ((mv a).mp ha)) i
 by_cases Qb:i<xs.length
 .obtain⟨go,yl⟩:=i1 _ (Pc Qb);rw[ju Qb]at hr;obtain⟨fe,rj,h5⟩:=R.ja hr;have h7:(f fe).bind (λy=>(iQ t cH f (ae is st) (xs.drop (i+1))).bind λys=>.ok (y::ys))=.ok rest:=h5
  obtain⟨y',Ol,h8⟩:=R.ja h7;obtain⟨Bj,jh,h9⟩:=R.ja h8;cases h9;refine .inr ⟨go,λx H2 y=>?_⟩
  obtain⟨oi,rx⟩:=yl x H2 y;have ni:=ni.mono oi;have bw:Va K (hide (A++P::B) H2) xs[i] x:=rx.mono (fW λa ha=>(mv a).mpr ha)
  obtain⟨sl,sg⟩:=Rb _ _ _ rj;have back:∀(j:Nat)(z:Sl),(ae is st)[j]?=some (some z)->fe[j]?=some (some z):=λj z ez=>by rw[sg j (Ls is st j z ez).2];exact ez
  have ze:yy y'=true:=xu.mp ha _ (by rw[<-ag];simp)
  obtain⟨zs,rfl⟩:∃zs,y'=.lst zs:=by
   cases y' <;> first|exact⟨_,rfl⟩|exact nomatch ze
  refine⟨P::B,A,ae is st,xs[i],fe,ni,bw,rj,λJj Wl=>?_⟩
  dsimp only[uX];rw[Na rfl];refine⟨P::B,A,fe,zs,Wl,Ol,λn ws H4 s4 hn r4=>?_⟩
  have s3:=(s2.trans oi).trans s4;have Cv:=s4 _ _ (oi _ _ jk);have BI:n≠P:=λz=>by rw[z,Cv]at hn;cases hn
  have ik:n∉ps:=λz=>by
   obtain⟨k,hk⟩:=Em.mp z;have jI:k<(ds.map Gj).length:=by rw[<-Jh.len];exact(Kd.mp hk).1
   obtain⟨p',vs',e1,e2,_⟩:=Jh.get (Pc jI);rw[hk]at e1;cases e1;rw[s4 _ _ (oi _ _ e2)]at hn;cases hn
  have z0:H1 n=none:=by
   cases h:H1 n with
   |none=>rfl
   |some u=>rw[s3 _ _ h]at hn;cases hn
  have hN:Ua (Ua H4 n (.lst ws)) P (.lst (ps.map V.ref++[.ref n])) n=some (.lst ws):=by rw[bF BI,bL]
  refine⟨by rw[bF (tf BI)];exact Cv,?_,xs.length-(i+1),by omega,rfl,Qb,ps++[n],ds++[.lst zs],Bj,by rw[Hf];rfl,by rw[we,hpl];rfl,bL,λb u z=>?_,((Wl.mono (s4.trans (bT hn))).weaken (by rw[sl]) back).put,λp hp=>?_,?_,?_,jh,by rw[wl];exact ag⟩
  .rw[uc,hpl];have:sizeLine=16777216:=by decide
   have hbg:=jH;omega
  .rw[bF (bB z hP),bF (bB z z0)];exact s3 b u z
  .rcases Ed.mp hp with hp|hp
   .exact fr p hp
   .rw[cc.mp hp];exact z0
  .obtain⟨n1,n2⟩:=Gf.mp nd;refine Gf.mpr ⟨λz=>(Ed.mp z).elim n1 λz=>BI (cc.mp z).symm,Yi.mpr ⟨n2,by simp,λa ha b hb=>?_⟩⟩
   rw[cc.mp hb];exact λz=>ik (z ▸ ha)
  .rw[Hf];refine Ke.snoc hN (AQ (show zs.all atom=true from ze) r4) (Jh.mono (aY.refl _) λp hp o e=>?_)
   have h1:p≠P:=λz=>(Gf.mp nd).1 (z ▸ hp)
   have h2:p≠n:=λz=>ik (z ▸ hp)
   rw[bF h1,bF h2];exact s4 _ _ (oi _ _ e)
 .have e:i=xs.length:=by omega
  subst e;rw[Mz]at hr;cases hr;rw[Di]at ag;subst ag;refine .inl ⟨i2 (Cb _),q P ps H' (s1.trans s2) (λp hp=>?_) nd jk Jh⟩
  have h1:H1 p=none:=(Nb.mp hp).elim (λz=>by rw[z];exact hP) (fr p)
  cases h:H p with
  |none=>rfl
  |some u=>rw[s1 _ _ h]at h1;cases h1
def bEa{x:Str} (is:List Nat) (hr:Dc X rest (tN X.K B i nb)) (Rb:Uj is t) (S:Jb X scope is) (hi:L2.PI X tg iter (Oh X.K B it)) (hg:∀(B:List Addr)(C:Addr)(ua:Shared)(za:Hp)(fp:List Addr),PG (cC X scope C ua za fp) tg (tG X.K B t))
  (he:∀(B:List Addr)(C:Addr)(ua:Shared)(za:Hp)(fp:List Addr),PE (cC X scope C ua za fp) elt (tF X.K B f)) (hc:X.calm=true) (hN:X.N.Nodup) (Oe:X.N[i]?=some x:=by rfl) (hx:Loc X.env.scope x:=by first|exact Or.inl rfl|exact Or.inr rfl)
  (Mg:swapsWith (.ListComp elt [⟨tg,iter,[],0⟩] scope pos) (some (.Name x px)) Rg.line X.env=pure true:=by rfl)
  (hf:X.fn x=true\/X.env.scope.names.lookup x=some .local:=by first|exact .inl rfl|exact .inr rfl|assumption) (hs:∀x,foldedSetIterable iter X.env x=pure x:=by intro _;rfl) :
  Dc X (.Assign [.Name x px] (.ListComp elt [⟨tg,iter,[],0⟩] scope pos) Rg::rest) (tS X.K B (vE i (dI is t it cH f) nb)):=by
 refine I8 hr Oe ?_
 intro aa s σ H Dn I h;obtain⟨A,st,d,xs,rs,hd,h2,q⟩:=h;obtain⟨rfl,_,ha⟩:=H8 h2;obtain⟨zs,hz,h3⟩:=R.ja hd;obtain⟨hl,h4⟩:=aJ h3;obtain⟨ys,hy,h5⟩:=R.ja h4;cases h5;rw[jz _ _ _ _ Mg];refine Ca (Gm (Ca ?_));show wpAny _ X.A (do let _ <- comprehension (.ListComp elt [⟨tg,iter,[],0⟩] scope pos) scope X.env _ (newList []) false (eval iter X.env) (some (assign (.Name x px) X.env))) _ _ s
 refine Ca (Wh (Q:=λ_ s'=>SP X aa Dn .next s') ?_ (λ_ s' hq=>kb (kb hq)) λ_ _ e=>e)
 exact pY (use:=some (assign (.Name x px) X.env)) (Qf:=λ_ s'=>SP X aa Dn .next s') (Q:=λv H'=>Dn.nx (σ.set i (some v)) H') (tt:=uX) (te:=dw X.K f) (rest:=λenv it p=>eval elt env >>= λx=>call (.builtin "list.append") [p,x] >>= λ_=>again (.compLoop (.ListComp elt [⟨tg,iter,[],0⟩] scope pos) 0 it p env)) S hc hi (λC ua za fp=>ao λB=>hg B C ua za fp) (λ_ _ _=>nQ)
  (λC ua za fp it p s Q h=>Zt (Y:=cC X scope C ua za fp) h) (λC ua za fp it p τ H s aa vs N Q I h q=>Ft (Y:=cC X scope C ua za fp) rfl (bLf λB=>he B C ua za fp) τ H s aa vs N Q I h (λQ Q' m h=>T_ Q Q' m h) q) hs I
  (bIg Rb rs hz hl hy ha q) λC p H5 s5 m5 s3 H3 fp τ hC I3 bg I5 Lg q5=>Jw hN Oe hx hf hC I3 bg I5 Lg λs' I'=>⟨_,_,I',q5⟩
def bLg{ge he:Expr}{p3:Pos}(hg:∀B,PE X ge (tP X.K B g))(hh:∀B,PE X he (tP X.K B h))(hf:∀B,PE X e (tI X.K B f))(hN:X.N[i]?=some x:=by rfl)(hv:Sf X.env.scope x:=by first|exact Or.inl rfl|exact Or.inr (Or.inl rfl)|exact Or.inr (Or.inr rfl))(hd:(x==("__debug__":Str))=false:=by decide)
  (Ec:(x==("__classdict__":Str))=false:=by decide) (fI:FD ge:=by intro _ _;rfl)
  (ha:∀v,assign (.Subscript (.Subscript (.Name x p1) ge p2) he p3) X.env v=(do
   let ov <- holding [v] (eval (.Subscript (.Name x p1) ge p2) X.env)
   let iv <- holding [v,ov] (eval he X.env)
   standAt p3
   holding [v,ov,iv] (setItem ov iv v)
   release [v,ov,iv] []):=by intro _;rfl)
  (hs:swapsWithSole [.Subscript (.Subscript (.Name x p1) ge p2) he p3] e pos.line X.env=pure false:=by rfl) (hw:swappedStores [.Subscript (.Subscript (.Name x p1) ge p2) he p3] e X.env=pure none:=by rfl)
  (h1:(assignEach [.Subscript (.Subscript (.Name x p1) ge p2) he p3] X.env).map (·.2)=[assign (.Subscript (.Subscript (.Name x p1) ge p2) he p3) X.env]:=by rfl) :
  PS X (.Assign [.Subscript (.Subscript (.Name x p1) ge p2) he p3] e pos) (tN X.K B i (QF g h f)):=by
 intro aa s σ H Dn I ⟨A,Z,st,P,ps,Xa,r,n,hr,q⟩;refine Qs (hf (Z++B)) (Rx (QW WU (mQ hN hv hd Ec) (hg (Z++B)) fI) (hh (Z++B)) set_list ha) hs hw h1 aa s σ H Dn I ?_
 obtain⟨d,fi,h3⟩:=R.ja hr;obtain⟨a,hga,h4⟩:=R.ja h3;obtain⟨j,rfl,h5⟩:=tM h4;obtain⟨b,hhb,h6⟩:=R.ja h5;obtain⟨k,rfl,h7⟩:=tM h6;obtain⟨m,hm,h8⟩:=R.ja h7;have Kg:=pX hm;have Qb:=bI4 Kg;rw[Pc Qb]at h8;obtain⟨l,hl,h9⟩:=R.ja (show (Xc (Pu.lc (Xa[m]).length k)).bind (λl=>.ok (.nx (Xa.set m ((Xa[m]).set l d)) st))=.ok r from h8)
 cases h9;refine⟨A,st,d,n.rs,fi,λv H1 s1 rv=>?_⟩
 have n1:=n.same s1;refine⟨.ref P,n1.at_,A,st,.int j,n1.rs,hga,λw H2 s2 r2=>?_⟩
 have ev:=r2.int;subst ev;have n2:=n1.same s2;obtain⟨p,vs,e1,e2,e3⟩:=n2.Jh.get (Pc Qb);have Um:L2.Wb (ps.map V.ref) j=some (V.ref p):=by
  have hl:=n2.Jh.len;have:Pu.lc (ps.map V.ref).length j=some m:=by rw[uc,hl];exact Kg
  show (L2.lc (ps.map V.ref).length j).bind (λk=>(ps.map V.ref)[k]?)=_
  rw[show L2.lc (ps.map V.ref).length j=some m from this]
  show (ps.map V.ref)[m]?=_;rw[Vg,e1];rfl
 refine .inl ⟨P,ps.map V.ref,j,.ref p,rfl,rfl,jc.of n2.out,Um,A,st,.int k,n2.rs,hhb,λu H3 s3 r3=>?_⟩
 have n3:=n2.same s3;have Jf:=s3 _ _ e2;have GI:p∈Z:=n.zs p (Uh e1);have hk:L2.lc vs.length k=some l:=by rw[e3.length,cx];exact pX hl
 refine⟨p,vs,k,l,rfl,r3.int,Jf,hk,q A σ _ ?_ ?_⟩
 .refine(Ye.of (Le.of (s1.trans (s2.trans s3)))).trans ?_
  show aY (hide (Z++A) H3) (hide (Z++A) (Ua H3 p _));rw[oV (Dd _ GI)];exact aY.refl _
 .have hh:hide (A++(Z++B)) (Ua H3 p (.lst (vs.set l v)))=hide (A++(Z++B)) H3:=oV (Zc _ (Dd _ GI));have L1:=Gf.mp n.nd;refine⟨n3.rs.UJ (Dd _ GI),n3.no,n3.at_,?_,?_,n3.zb,n3.zp,n3.zs,n3.nd⟩
  .rw[bF (λz:P=p=>L1.1 (by rw[z];exact Uh e1))];exact n3.out
  .rw[hh];exact n3.Jh.put (bC.set (rv.mono (aY.hide (s2.trans s3))) l (e3.mono (aY.hide s3))) L1.2 e1
end
def Kt(v d:Addr):HO:=.ext λh=>h.IsItemsView v d
section
variable {σ:List (Option V)}
def U_(I:xa X aa σ H s)(k:∀b u,s.heap.get? b=some u->h'.get? b=some u)(sm:aY H H')(hn:∀b,b<s.heap.objs.size->H' b=H b)(new:∀a o,H a=none->H' a=some o->mK X.prog X.w H' h' a o):xa X aa σ H' {s with heap:=h',toks:=t'}:=by
 refine I.un ⟨λb u q _ _ _=>k b u q,λb u q _ _ _=>⟨u.slots,k b u q⟩,λb u q n _=>by rw[hn b (dc q)];exact n,λb u q _=>⟨u,k b u q⟩,λb xs q=>sm _ _ q,λb u xs q=>sm _ _ q,λb ps q=>⟨#[],by rw[sm _ _ q];simp⟩⟩ λa o e=>?_
 cases hH:H a with
 |none=>exact new a o hH e
 |some u=>
  have z:=sm a u hH;rw[e]at z;cases z;exact(I.Ra a _ hH).Ae (λb v _ q=>k b v q) (λb q=>sm _ _ q) λb xs q=>sm _ _ q
def V_:yi X "dict.items" (λx vs H Q=>∃(d:Addr) (ma:List (gb×V)),x=.ref d/\vs=[]/\H d=some (.dK ma)/\∀n,H n=none->Q (.ref n) (Ua H n (Kt n d))):=by
 intro aa s σ H x vs v us Q I rx rv h;obtain⟨d,ma,rfl,rfl,hd,q⟩:=h;cases rx;have Wo:=rv.zero;subst Wo;obtain⟨hz,hs,xs,kv,hD⟩:=Dk I.Ra hd;refine Hm XY hD.typeIs PySem.F.entry_dict_items (PySem.F.args_dict_items_1 _) (meets_dict_items (dN X.prog X.w) d hs) ⟨⟨xs,hD⟩,?_⟩;have e:(s.heap.push {cls:=.type "dict_items",data:=.fields #[.ref d]}).get? s.heap.objs.size=some {cls:=.type "dict_items",data:=.fields #[.ref d]}:=Pd _ rfl;exact⟨.ref s.heap.objs.size,_,I.laid (o:=Kt s.heap.objs.size d) (t':=s.toks) (λb u q=>Tb _ q) (Cb _) ⟨⟨_,e,rfl,rfl⟩,⟨_,e⟩,λh1 h2 ⟨o,ho,hc,hd⟩ k=>⟨o,k o ho,hc,hd⟩⟩,rfl,q _ (I.Ra.fresh (Cb _))⟩
theorem oy:∀{ma:List (gb×V)} {vs:List (gb×Value)} {j:Nat} {k:gb} {x:Value},KV ma vs->vs[j]?=some (k,x)->∃p,ma[j]?=some p/\p.1=k/\RelV p.2 x
 |_,_,j,k,x,.nil,e=>by simp at e
 |_,_,0,k,x,.cons h _,e=>by
  simp at e;subst e;exact⟨_,rfl,h.1,h.2⟩
 |_,_,j+1,k,x,.cons _ t,e=>by
  obtain⟨p,e1,e2⟩:=oy (j:=j) (k:=k) (x:=x) t (by simpa using e)
  exact⟨p,by simpa using e1,e2⟩
def Y6(hc:X.calm=true):mL X (.type "list") (λvs H Q=>∃(v d:Addr) (ma:List (gb×V)),vs=[.ref v]/\H v=some (Kt v d)/\H d=some (.dK ma)/\
  ∀(n:Addr)(ps:List Addr)(H':Hp),aY H H'->H' n=none->ps.length=ma.length->(∀a∈ps,H a=none)->(∀(j:Nat)(a:Addr),ps[j]?=some a->∃p,ma[j]?=some p/\H' a=some (.tup [kV p.1,p.2]))->Q (.ref n) (Ua H' n (.lst (ps.map V.ref)))):=by
 intro aa s σ H vs us Q I r h;obtain⟨v,d,ma,rfl,hv,hd,q⟩:=h;obtain⟨u,rfl,ru⟩:=r.one;obtain rfl:u=Value.ref v:=ru;obtain⟨hz,hs,xs,kv,hD⟩:=Dk I.Ra hd;have Ya:=bIe kv;obtain⟨ep,Um⟩:=hD.dictAt;obtain⟨Kv,_,_⟩:=I.Ra v _ hv;refine PySem.W.kdx_call (knd:=dN X.prog X.w) (I.ok.hd hc) Kv Um (by omega) λh' tk qa c as hk hS hl hG Eo=>?_
 have nd:as.Nodup:=hG.rise.imp Hd;have lo:∀a∈as,s.heap.objs.size<a:=hG.above;have nn:∀a∈as,H a=none:=λa ha=>I.Ra.fresh (Bu (lo a ha))
 let G:Hp:=λb=>if b∈as then (ma[as.idxOf b]?).map (λp=>.tup [kV p.1,p.2]) else H b
 have sG:aY H G:=λb o e=>by
  show (if b∈as then _ else H b)=_
  rw[La λz=>by rw[nn b z]at e;cases e]
  exact e
 have gN:G s.heap.objs.size=none:=by
  show (if _∈as then _ else H _)=_
  rw[La λz=>Cg _ (lo _ z)]
  exact I.Ra.fresh (Cb _)
 have gA:∀(j:Nat)(a:Addr),as[j]?=some a->∃p,ma[j]?=some p/\G a=some (.tup [kV p.1,p.2]):=λj a e=>by
  obtain⟨key,k,x,e1,e2,e3⟩:=hG.pairs j a e;obtain⟨p,e4,e5,e6⟩:=oy kv e1;refine⟨p,e4,?_⟩;show (if a∈as then _ else H a)=_
  rw[Na (Uh e)];obtain⟨hj,ej⟩:=Kd.mp e;rw[<-ej,nd.idxOf_getElem j hj,e4];rfl
 refine⟨.ref s.heap.objs.size,_,U_ (H':=Ua G s.heap.objs.size (.lst (as.map V.ref))) (t':=tk) I hk (sG.trans (bT gN)) (λb hb=>?_) (λa o ha e=>?_),rfl,q _ as G sG gN (by rw[hl];exact Ya) nn gA⟩
 .rw[bF (Hd hb)];show (if b∈as then _ else H b)=_
  rw[La λz=>Cg _ (Du hb (lo _ z))]
 .by_cases hb:a=s.heap.objs.size
  .subst hb;rw[bL]at e;cases e;refine⟨by rw[uc,hl];omega,qa.toList,c,?_,by simpa using hS⟩
   rw[Eo];clear Eo hG nd lo nn gA sG gN hl G
   induction as with
   |nil=>exact .nil
   |cons a as ih=>exact .cons rfl ih
  .rw[bF hb]at e;have Eg:a∈as:=by
    refine Zk λz=>?_
    have e':(if a∈as then (ma[as.idxOf a]?).map (λp=>HO.tup [kV p.1,p.2]) else H a)=some o:=e
    rw[La z,ha]at e';cases e'
   obtain⟨j,hj⟩:=Em.mp Eg;obtain⟨p,e1,e2⟩:=gA j a hj;obtain⟨key,k,x,f1,f2,f3⟩:=hG.pairs j a hj;obtain⟨p',g1,g2,g3⟩:=oy kv f1;rw[e1]at g1;cases g1;rw[e2]at e;cases e;refine⟨by rw[Km];show 2<=16777216;decide,[key,x],.cons ?_ (.cons g3 .nil),_,f3,?_⟩
   .rw[g2];exact bId f2
   .exact⟨rfl,_,rfl⟩
theorem LO{K:Frag}{H:Hp}:∀(ma:List (gb×V)) (ds:List D) (ps:List Addr),bC K H ds (ma.map (·.2))->ps.length=ma.length->(∀(j:Nat)(a:Addr),ps[j]?=some a->∃p,ma[j]?=some p/\H a=some (.tup [kV p.1,p.2]))->bC K H (List.zipWith (λk d=>.tup [k,d]) (ma.map λp=>gQ p.1) ds) (ps.map V.ref)
 |[],ds,ps,_,hl,_=>by
  rw[jl.mp hl];exact .nil
 |p::ma,[],ps,r,_,_=>by
  have:=r.length;simp at this
 |p::ma,d::ds,[],_,hl,_=>by simp at hl
 |p::ma,d::ds,a::ps,r,hl,h=>by
  obtain⟨v,rest,e,r1,r2⟩:=bN.mp r;cases e;obtain⟨p',e1,e2⟩:=h 0 a rfl;cases e1;refine .cons (Xr.mpr ⟨a,_,rfl,e2,.cons ?_ (.cons r1 .nil)⟩) (LO ma ds ps r2 (by simpa using hl) λj b hj=>?_)
  .obtain⟨k,v⟩:=p;cases k with
   |inl i=>exact bM.mpr rfl
   |inr x=>exact eN.mpr (by simp[kV])
  .obtain⟨p',e1,e2⟩:=h (j+1) b (by simpa using hj)
   exact⟨p',by simpa using e1,e2⟩
end
section
variable{X:Cx}{B:List Addr}{a e:Expr}{es:List Expr}{f:Ex}{pos p0 Oa Aa:Pos}{sm:Stmt}{rest:List Stmt}{bd ck:Bd}{r:zd}
def bEb(hm:X.mg "list"=none)(hc:X.calm=true)(ha:PE X a (tI X.K B f))(hg:Gl X "list":=by rfl)(qb:attributeBase a "items" X.env (eval a X.env)=eval a X.env:=by rfl)(ub:(Oa.endLine==Aa.line)=true:=by rfl)
  (hs:starEach [.Call (.Attribute a "items" Oa) [] [] Aa] X.env=(false,eval (.Call (.Attribute a "items" Oa) [] [] Aa) X.env)::starEach [] X.env:=by rfl):PE X (.Call (.Name "list" p0) [.Call (.Attribute a "items" Oa) [] [] Aa] [] pos) (tF X.K B (e1 Vs f)):=by
 refine cL (pK (Y6 hc) hg hm (by rfl) (cM (Vx Fq XY PySem.F.type_dict_items V_ ha qb ub) fL hs) (he:=hs)) ?_
 rintro σ H Q ⟨A,st,ds,rs,hd,q⟩;obtain⟨x,hx,h2⟩:=R.ja hd;refine⟨A,st,x,rs,hx,λv H1 s1 r1=>?_⟩
 unfold Vs at h2;split at h2
 .obtain⟨c,h3⟩:=aJ h2;cases h3;obtain⟨p,vs,rfl,h4,r4⟩:=sW.mp r1;rcases h4 with ⟨_,ma,h5,rfl,rfl⟩|⟨h5,_⟩
  .have h6:=bA _ _ _ _ h5;refine⟨.inr (.inr (.inl ⟨rfl,.inl ⟨ma,h6⟩⟩)),p,ma,rfl,rfl,h6,λn hn=>⟨n,p,ma,rfl,bL,by rw[bF (bB h6 hn)];exact h6,λm ps H' s2 Kg hl II hp=>?_⟩⟩
   have s3:=(bT (o:=Kt n p) hn).trans s2;refine q m _ H' (s1.trans s3) Kg (LO ma _ ps (r4.mono (aY.hide s3)) hl λj b hj=>?_)
   obtain⟨p',e1,e2⟩:=hp j b hj;have hb:=II b (Uh hj);exact⟨p',e1,by rw[bK ((rs.own.mono (s1.trans (bT (o:=Kt n p) hn))).free hb)];exact e2⟩
  .cases h5
 .cases h2
def jw(K:Frag)(B:List Addr)(b:Bd)(f:Ex):TS:=λDn σ H=>∃A st st' xs,RS K B A H st σ/\b st=.ok (.nx st')/\f st'=.ok (.lst xs)/\∀A' a vs H',Le A H A' H'->a∈A'->H' a=some (.lst vs)->bC K (hide (A'++B) H') xs vs->Dn.rt (.ref a) H'
def dE(h1:PS X sm (tS X.K B bd))(h2:Dc X rest (jw X.K B ck f)):Dc X (sm::rest) (jw X.K B (bG bd ck) f):=xZ (zT h1 h2) (by
 rintro Dn σ H ⟨A,st,st',xs,rs,hb,hi,q⟩;unfold bG zq at hb;obtain⟨fl,Tc,h3⟩:=R.ja hb;refine⟨A,st,fl,rs,Tc,?_⟩;cases fl with
 |nx s1=>exact λA' jb H' l Of=>⟨A',s1,st',xs,Of,h3,hi,λA2 a vs H2 l2=>q A2 a vs H2 (l.trans l2)⟩
 |rt d=>cases h3
 |bk s1=>cases h3
 |ct s1=>cases h3)
def IW(he:PE X e (tF X.K B f)):Dc X [.Return (some e) pos] (jw X.K B eQ f):=xZ (wx (mE he)) (by
 rintro Dn σ H ⟨A,st,st',xs,rs,hb,hf,q⟩;cases hb;exact⟨A,st,xs,rs,hf,λp vs H' s hp r=>q (p::A) p vs (Ua H' p (.lst vs)) ((Le.of s).trans (Yp hp)) xb bL (r.mono (gx hp))⟩)
end
section
variable {K:Frag} {st:Stmt} {f:Addr} {k:Nat}
def XX(F:Pa K x qual st dV f fd)(S:oa N ps (aH st))(np n:Nat)(bd:Bd)(g:Ex)(ik:ps.length=np)(hn:N.length=n)
  (hb:∀(Qa:Value)(A:Around)(outer:List Env)(s:Shared)(H:Hp)(E:XK)(B:List Addr),Kb k (A.deeper (envOfC qual (aH st) s.heap.objs.size f Qa))->
   Dc (Ri yb P w K mg base N qual (aH st) f Qa A outer s H E).qk (dY st) (jw K B bd g)):Ja P w K mg base yb (k+1) f fd ps (Hi K np (cQ np n (uO bd g))):=by
 refine F.OJ S (λvs H Q E h=>?_) (λQa A outer s H vs Q E hr h=>?_)
 .obtain⟨A,ds,d,own,r,hl,_⟩:=h;rw[r.length,hl,ik]
 .obtain⟨B,ds,xs,own,r,hl,hp,q⟩:=h;refine⟨jw K B bd g,hb Qa A outer s H E B hr,?_⟩;obtain⟨_,h2⟩:=aJ hp;obtain⟨fl,Tc,h3⟩:=R.ja h2;have rs:=YC (N:=N) own r;rw[hl,hn]at rs;unfold uO at Tc;split at Tc
  .rename_i s1 ZH;obtain⟨d,hd,h4⟩:=R.ja Tc;split at h4
   .cases h4;cases h3;refine⟨[],_,s1,_,rs,ZH,hd,λA' a vs' H' l ha hv rv=>?_⟩
    have sm:aY H H':=by
     unfold Le at l;rw[wW]at l;exact l.trans (bA _ _)
    refine q a vs' H' sm ?_ hv (rv.mono (fW λb hb=>?_))
    .cases hH:H a with
     |none=>rfl
     |some o=>
      have z:=l a o (by rw[wW];exact hH)
      rw[cY ha]at z;cases z
    .rcases Nb.mp hb with rfl|hb
     .exact Dd _ ha
     .exact Zc _ hb
   .cases h4
  .cases Tc
def L8(ds:List D)(d:D)(h:cQ np n (uO bd g) ds=.ok d):∃xs,d=.lst xs:=by
 obtain⟨_,h2⟩:=aJ h;obtain⟨fl,Tc,h3⟩:=R.ja h2;unfold uO at Tc;split at Tc
 .obtain⟨d,hd,h4⟩:=R.ja Tc;split at h4
  .cases h4;cases h3;exact⟨_,rfl⟩
  .cases h4
 .cases Tc
end
structure yc(P:Program)(w:World)(K:Frag)(mg:Str->Option Value)(base:Heap)(x:Str)(k np:Nat)(p:List D->R D):Prop where
 ex:∃(fa:Addr)(fd:FuncData)(ps:List Str),Ja P w K mg base yb k fa fd ps (Hi K np p)/\mg x=some (.ref fa)/\keepIn K (.ref fa)=true/\Binds K fd ps []
 len:∀ds d,p ds=.ok d->ds.length=np
 lst:∀ds d,p ds=.ok d->∃xs,d=.lst xs
def yc.of{K:Frag} {k:Nat} (h:Ja P w K mg base yb k fa fd ps (Hi K np (cQ np n (uO bd g)))) (m:mg x=some (.ref fa))
  (kp:keepIn K (.ref fa)=true) (b:Binds K fd ps []):yc P w K mg base x k np (cQ np n (uO bd g)):=⟨⟨fa,fd,ps,h,m,kp,b⟩,ix,L8⟩
def yc.plain{K:Frag} {k:Nat} (h:yc P w K mg base x k np p):Ha P w K mg base x k np p:=by
 obtain⟨fa,fd,ps,F,m,kp,bd⟩:=h.ex;exact⟨⟨fa,fd,ps,sQ h.lst F,m,kp,bd⟩,h.len⟩
structure DA(K:Frag)(n:Str)(st:Stmt):Prop where
 ex:∃(f:Addr)(fd:FuncData),nsIn K mainGlobals n=some (some (.ref f))/\Pa K n n st .none f fd
section
variable{P:Program}{w:World}{K:Frag}{h base:Heap}{mg:Str->Option Value}{n:Str}{st:Stmt}{f:Addr}{ps:List Str}{k np m:Nat}{p:List D->R D}{bd:Bd}{g:Ex}
def dG{od an:Option Addr} {kV doc pm Qa ct:Value} (a:nsIn K mainGlobals n=some (some (.ref f))) (l:K.lookup f=some ⟨oc,od,.func (fnOf n n (fX st) (dY st) (aH st) .none kV doc pm an Qa ct),xg⟩)
  (c:codeIn K Qa n=true) (k:keepIn K (.ref f)=true):DA K n st:=⟨⟨f,_,a,Jp l c k⟩⟩
structure Ct(P:Program)(w:World)(K:Frag)(mg:Str->Option Value)(base h:Heap):Prop where
 X:K.In h
 G:h.Ns mainGlobals mg
def Bn(n:Str)(st:Stmt)(ps:List Str):Prop:=∀(kV doc pm:Value)(an:Option Addr)(Qa ct:Value)(us:List Value),us.length=ps.length->bindArgs (fnOf n n (fX st) (dY st) (aH st) .none kV doc pm an Qa ct) ⟨us,[]⟩=pure (ps.zip us)
structure RA(n q:Str)(st:Stmt)(ps:List Str):Prop where
 ok:∀(kV doc pm:Value)(an:Option Addr)(Qa ct:Value)(us:List Value),us.length=ps.length->bindArgs (fnOf n q (fX st) (dY st) (aH st) .none kV doc pm an Qa ct) ⟨us,[]⟩=pure (ps.zip us):=by first|exact λ_ _ _ _ _ _=>DU rfl|exact λ_ _ _ _ _ _=>aE λ_=>rfl|exact λ_ _ _ _ _ _=>bE λ_ _=>rfl|exact λ_ _ _ _ _ _=>Ms λ_ _ _=>rfl|exact λ_ _ _ _ _ _=>EU λ_ _ _ _=>rfl|exact λ_ _ _ _ _ _=>FU λ_ _ _ _ _=>rfl|exact λ_ _ _ _ _ _=>Ϸ λ_ _ _ _ _ _=>rfl
def DA.use(D:DA K n st)(C:Ct P w K mg base h)(b:Bn n st ps):∃(f:Addr)(fd:FuncData),Pa K n n st .none f fd/\mg n=some (.ref f)/\Binds K fd ps []:=by
 obtain⟨f,fd,a,F⟩:=D.ex;exact⟨f,fd,F,mg_of C.X C.G a,F.Xf b⟩
theorem DA.ok(D:DA K n st)(C:Ct P w K mg base h)(r:∀{f:Addr}{fd:FuncData},Pa K n n st .none f fd->Ja P w K mg base yb k f fd ps (Sb K np (cQ np m bd)))(b:RA n n st ps:=by exact {}):Ha P w K mg base n k np (cQ np m bd):=by
 obtain⟨f,fd,F,a,z⟩:=D.use C b.ok;exact .of (r F) a F.kp z ix
def DA.P1(D:DA K n st)(C:Ct P w K mg base h)(r:∀{f:Addr}{fd:FuncData},Pa K n n st .none f fd->Ja P w K mg base yb k f fd ps (Hi K np (cQ np m (uO bd g))))(b:RA n n st ps:=by exact {}):yc P w K mg base n k np (cQ np m (uO bd g)):=by
 obtain⟨f,fd,F,a,z⟩:=D.use C b.ok;exact .of (r F) a F.kp z
structure MA(K:Frag)(C:Addr)(m:String)(n q:Str)(st:Stmt):Prop where
 ex:∃(f:Addr)(fd:FuncData),Meth K C (Str.ofString m) f/\Pa K n q st .none f fd
def bLi{m:String}{q:Str} {od an:Option Addr} {kV doc pm Qa ct:Value} (a:findIn K (.ref C) (Str.ofString m)=some (some (.ref f))) (e:isFn K (.ref f)=true) (l:K.lookup f=some ⟨oc,od,.func (fnOf n q (fX st) (dY st) (aH st) .none kV doc pm an Qa ct),xg⟩)
  (c:codeIn K Qa q=true) (k:keepIn K (.ref f)=true):MA K C m n q st:=⟨⟨f,_,⟨a,e,k⟩,Jp l c k⟩⟩
theorem MA.ok{C:Addr}{c m:String}{q:Str}{j:Nat}(D:MA K C m n q st)(_:Ct P w K mg base h)(hc:ClsAt K c C)(r:∀{f:Addr}{fd:FuncData},Pa K n q st .none f fd->Ja P w K mg base yb k f fd ps (Sb K np (cQ np j bd)))(b:RA n q st ps:=by exact {}):Xb P w K mg base c m k np [] (cQ np j bd):=by
 obtain⟨f,fd,M,F⟩:=D.ex;exact Xb.of (dvs:=[]) hc M (r F) (F.Xf b.ok) .nil λ_=>.nil
end
end Pu
namespace Pu
open PySem
structure TI(b:Bool)(t:SetTable):Prop where
 rise:t.place.toList.Pairwise (· < ·)
 ZZ:t.dummies = #[]
 led:t.led=b
theorem zD(xs:Array Nat)(j:Nat)(hr:xs.toList.Pairwise (· < ·)):∀(fuel lo hi:Nat),hi-lo<=fuel->lo<=hi->hi<=xs.size->(∀(i:Nat)(a:Nat),i<lo->xs[i]?=some a->a<j)->(∀(i:Nat)(a:Nat),hi<=i->xs[i]?=some a->j<=a)->
  (∀(i:Nat)(a:Nat),i<SetTable.below.go xs j fuel lo hi->xs[i]?=some a->a<j)/\(∀(i:Nat)(a:Nat),SetTable.below.go xs j fuel lo hi<=i->xs[i]?=some a->j<=a)/\SetTable.below.go xs j fuel lo hi<=xs.size
 |0,lo,hi,hf,hl,hs,h1,h2=>by
  have e:lo=hi:=by omega
  subst e;exact⟨h1,h2,hs⟩
 |fuel+1,lo,hi,hf,hl,hs,h1,h2=>by
  unfold SetTable.below.go;have up:∀(i k:Nat)(a b:Nat),i<k->xs[i]?=some a->xs[k]?=some b->a<b:=λi k a b Zz ha hb=>by
   rw[<-xl]at ha hb;obtain⟨Oe,ei⟩:=Kd.mp ha;obtain⟨dk,ek⟩:=Kd.mp hb;have:=XF.mp hr i k Oe dk Zz;rw[ei,ek]at this;exact this
  by_cases Qb:lo<hi
  .rw[Na Qb];have hm:(lo+hi)/2<xs.size:=by omega
   have hx:xs[(lo+hi)/2]?=some xs[(lo+hi)/2]:=Wi hm;have hg:xs.getD ((lo+hi)/2) j=xs[(lo+hi)/2]:=by rw[nz,hx];rfl
   dsimp only;rw[hg]
   by_cases hc:xs[(lo+hi)/2] < j
   .rw[Na hc];refine zD xs j hr fuel _ _ (by omega) (by omega) hs (λi a Oe ha=>?_) h2
    by_cases he:i=(lo+hi)/2
    .subst he;rw[hx]at ha;cases ha;exact hc
    .exact Du (up i _ a _ (by omega) ha hx) hc
   .rw[La hc];refine zD xs j hr fuel _ _ (by omega) (by omega) (by omega) h1 λi a Oe ha=>?_
    by_cases he:i=(lo+hi)/2
    .subst he;rw[hx]at ha;cases ha;omega
    .have:=up _ i _ a (by omega) hx ha;omega
  .rw[La Qb];have e:lo=hi:=by omega
   subst e;exact⟨h1,h2,hs⟩
def MO(xs:Array Nat)(j:Nat)(hr:xs.toList.Pairwise (· < ·)):(∀(i:Nat)(a:Nat),i<SetTable.below xs j->xs[i]?=some a->a<j)/\(∀(i:Nat)(a:Nat),SetTable.below xs j<=i->xs[i]?=some a->j<=a)/\SetTable.below xs j<=xs.size:=
 zD xs j hr xs.size 0 xs.size (by omega) (Dg _) (Cb _) (λi a h=>absurd h (Iu _)) λi a h ha=>by
  have:=(VF.mp ha).1;omega
def O5(xs:Array Nat)(j:Nat)(hr:xs.toList.Pairwise (· < ·))(hn:xs[SetTable.below xs j]?≠some j):(SetTable.insertAt xs (SetTable.below xs j) j).toList.Pairwise (· < ·):=by
 obtain⟨h1,h2,h3⟩:=MO xs j hr;have e:(SetTable.insertAt xs (SetTable.below xs j) j).toList=xs.toList.take (SetTable.below xs j)++j::xs.toList.drop (SetTable.below xs j):=by
  unfold SetTable.insertAt;simp only[Array.toList_append,toList_push,Array.toList_extract];simp[List.extract_eq_drop_take,List.append_assoc];rw[Oq (by simp)]
 rw[e,List.pairwise_append];have ge:∀a∈xs.toList.drop (SetTable.below xs j),j<a:=λa ha=>by
  obtain⟨k,hk⟩:=Em.mp ha;rw[List.getElem?_drop,xl]at hk;have:=h2 _ a (Nat.le_add_right _ _) hk;rcases Nat.lt_or_eq_of_le this with h|h
  .exact h
  .subst h;exfalso;have hb:SetTable.below xs j<xs.size:=by have:=(VF.mp hk).1;omega
   have hx:xs[SetTable.below xs j]?=some xs[SetTable.below xs j]:=Wi hb;have g1:=h2 _ _ (Cb _) hx
   by_cases hz:k=0
   .subst hz;rw[Dl]at hk;exact hn hk
   .have dk:=(VF.mp hk);have:=XF.mp hr (SetTable.below xs j) (SetTable.below xs j+k) (by simpa using hb) (by simpa using dk.1) (by omega)
    rw[WZ,WZ,dk.2]at this;omega
 refine⟨hr.sublist (List.take_sublist _ _),List.pairwise_cons.mpr ⟨ge,hr.sublist (List.drop_sublist _ _)⟩,λa ha b hb=>?_⟩
 have la:a<j:=by
  obtain⟨k,hk⟩:=Em.mp ha;rw[getElem?_take]at hk;split at hk
  .rename_i Qb;rw[xl]at hk;exact h1 k a Qb hk
  .cases hk
 rcases Nb.mp hb with rfl|hb
 .exact la
 .exact Du la (ge b hb)
def KU(j:Nat):SetTable.has #[] j=false:=rfl
theorem fS(t:SetTable)(hashAt:Nat->Int)(h:Int)(hd:t.dummies = #[]):∀(fuel:Nat)(p:SetTable.Probe)(j:Nat)(d:Option Nat),SetTable.probe.go t hashAt h fuel p=some (.empty j d)->t.slot j=.empty/\d=p.dummy
 |0,p,j,d,e=>by cases e
 |fuel+1,p,j,d,e=>by
  unfold SetTable.probe.go at e;cases hs:t.slot p.j with
  |empty=>rw[hs]at e;cases e;exact⟨hs,rfl⟩
  |dummy=>
   exfalso;unfold SetTable.slot at hs;dsimp only at hs;split at hs
   .cases hs
   .rw[hd,KU]at hs;cases hs
  |live i=>
   rw[hs]at e;dsimp only at e;have v_:(t.advance p).dummy=p.dummy:=by
    unfold SetTable.advance;split<;>rfl
   split at e
   .cases e
   .obtain⟨a,b⟩:=fS t hashAt h hd fuel _ j d e;exact⟨a,b.trans v_⟩
def M8{t:SetTable}{h:Int} {w:Bool} (hd:t.dummies = #[]) (e:t.freeSlot h=some (j,w)):t.slot j=.empty:=by
 unfold SetTable.freeSlot at e;split at e
 .rename_i j' d hp;obtain⟨a,b⟩:=fS t _ h hd _ _ _ _ hp;have:d=none:=b;subst this;cases e;exact a
 .cases e
def N8{t:SetTable} (h:t.slot j=.empty):t.place[SetTable.below t.place j]?≠some j:=λe=>by
 unfold SetTable.slot at h;dsimp only at h;rw[Na (by rw[e];exact beq_self_eq_true _)]at h
 cases h
theorem TI.put{b:Bool}{t:SetTable}{j:Nat}(x:TI b t)(h:t.slot j=.empty):TI b (t.put j).1:=by
 refine⟨O5 t.place j x.rise (N8 h),?_,x.led⟩;show (if SetTable.has t.dummies j then _ else t.dummies)=_
 rw[x.ZZ,KU];rfl
def Z6(n:Nat):(Array.range n).toList.Pairwise (· < ·):=by
 rw[Array.toList_range];exact ZF
def TI.Mh{t:SetTable}(x:TI b t)(n:Nat):TI b (t.standIn n):=⟨Z6 n,rfl,x.led⟩
def TI.Ul{t:SetTable}(x:TI b t)(n:Nat):TI b (t.orStandIn n):=by
 unfold SetTable.orStandIn;split
 .exact x
 .exact x.Mh n
def TI.lay{t:SetTable}(x:TI b t)(es:Array (Int×Value))(h:Int)(v:Value):TI b (layNew t es h v).2.1:=by
 unfold layNew;split
 .rename_i j w e;exact(x.put (M8 x.ZZ e)).Ul _
 .exact x.Mh _
def TI.aw{t:SetTable}(x:TI b t)(es:Array (Int×Value))(n:Nat):TI b (relayAll t es n).2.1:=by
 unfold relayAll;split
 .rename_i t' order e;have y:TI b t':=by
   unfold SetTable.relaid SetTable.laid at e;obtain⟨owner,_,e2⟩:=Option.bind_eq_some_iff.mp e;cases e2;refine⟨?_,rfl,x.led⟩;show ((List.map (λx:Nat×Nat=>x.1) (List.filterMap (λj=>Option.map (λx=>(j,x)) (owner.getD j Option.none)) (List.range (SetTable.sizeAbove n-1+1)))).toArray).toList.Pairwise (· < ·)
   rw[FG,List.map_filterMap];refine(ZF (n:=_)).filterMap _ λa a' haa c hc c' Gg=>?_
   have h1:c=a:=by
    cases ho:(owner.getD a none) with
    |none=>rw[ho]at hc;cases hc
    |some k=>rw[ho]at hc;cases hc;rfl
   have h2:c'=a':=by
    cases ho:(owner.getD a' none) with
    |none=>rw[ho]at Gg;cases Gg
    |some k=>rw[ho]at Gg;cases Gg;rfl
   rw[h1,h2];exact haa
  dsimp only;split
  .exact y
  .exact x.Mh _
 .exact x.Mh _
theorem TI.fresh(b:Bool):TI b (.fresh 0 0 b):=⟨List.Pairwise.nil,rfl,rfl⟩
def gS(t:SetTable)(es:Array (Int×Value))(h:Int)(v:Value):(layNew t es h v).1.toList.Perm (es.toList++[(h,v)]):=by
 have p:=layNew_perm t es h v;rw[toList_push]at p;exact p
def numOf:Value->Int
 |.int n _=>n
 |_=>0
def Dq(e:Int×Value):Prop:=∃(n:Int)(t:Tok),e=(hashInt n,.int n t)
structure Eb(b:Bool)(a:Addr)(ns:List Int)(es:Array (Int×Value))(ep:Nat)(t:SetTable)(h:Heap):Prop where
 obj:h.get? a=some {cls:=.type "set",dict:=none,data:=.set es ep t,slots := #[]}
 fit:t.fits es.size=true
 ti:TI b t
 perm:(es.toList.map λe=>numOf e.2).Perm ns
 nums:∀e∈es.toList,Dq e
def Eb.keep{es:Array (Int×Value)} {t:SetTable} (x:Eb b a ns es ep t h) (k:∀o,h.get? a=some o->h'.get? a=some o):Eb b a ns es ep t h':=
 ⟨k _ x.obj,x.fit,x.ti,x.perm,x.nums⟩
theorem Eb.size{b:Bool}{a:Addr}{ns:List Int}{es:Array (Int×Value)}{ep:Nat}{t:SetTable}{h:Heap}(x:Eb b a ns es ep t h):es.size=ns.length:=by
 have:=x.perm.length_eq;simpa using this
def Eb.put{Gi:List Int}{es Md:Array (Int×Value)} {t t':SetTable} (x:Eb b a ns es ep t h) (fit:t'.fits Md.size=true) (ti:TI b t') (perm:(Md.toList.map λe=>numOf e.2).Perm Gi) (nums:∀e∈Md.toList,Dq e) :
  Eb b a Gi Md (ep+1) t' (h.update a (Obj.putSet Md t')):=by
 refine⟨?_,fit,ti,perm,nums⟩;rw[Dm (Obj.putSet Md t') x.obj rfl];rfl
def Wk(ns:List Int)(k:Int):List Int:=if ns.any (· == k) then ns else ns++[k]
def bEc(ns:List Int)(k:Int):(Wk ns k).length<=ns.length+1:=by
 unfold Wk;split
 .exact Om _
 .simp
section
variable {A:Around}
def bEd{es:List (Int×Value)}(nums:∀e∈es,Dq e):ElemsOf (intKind prog w) es:=λe he=>by
 obtain⟨n,t,rfl⟩:=nums e he;exact⟨⟨n,Ju prog w n t,rfl⟩,rfl⟩
def bEe{es:List (Int×Value)} (nums:∀e∈es,Dq e) (perm:(es.map λe=>numOf e.2).Perm ns) (k:Int):(es.findIdx? (λe=>(intKind prog w).is k e.2)).isSome=ns.any (· == k):=by
 rw[TZ,Vq,Al,Al];constructor
 .rintro⟨e,he,hp⟩;obtain⟨n,t,rfl⟩:=nums e he;have en:n=k:=(intKind prog w).inj _ n k (Ju prog w n t) hp;exact⟨n,perm.mem_iff.mp (Rc.mpr ⟨_,he,rfl⟩),Bh.mpr en⟩
 .rintro⟨n,hn,hp⟩;obtain⟨e,he,hv⟩:=Rc.mp (perm.mem_iff.mpr hn);obtain⟨n',t,rfl⟩:=nums e he;have e1:n'=n:=hv;have e2:n=k:=Bh.mp hp;refine⟨_,he,?_⟩;rw[<-e2,<-e1];exact Ju prog w n' t
def fE{Q:Unit->Shared->Prop}(c:Bool)(q:Q () s):wpAny (model prog w) A (match c with|true=>rule "set.scan.the-table-gave-way"|false=>pure ()) Q E s:=by
 cases c with
 |true=>exact ir q
 |false=>exact kb q
def Fd{Gi:List Int}{es Md:Array (Int×Value)}{ep:Nat}{t t':SetTable}{d:Bool}{R:Option Bool->Shared->Prop}{g:Bool->Sem Unit}
  (hg:∀(c:Bool)(Wa:Shared)(Q:Unit->Shared->Prop),Q () Wa->wpAny (model prog w) A (g c) Q E Wa) (x:Eb b a ns es ep t s.heap)
  (ff:Md.size<scanBound) (fit:t'.fits Md.size=true) (ti:TI b t') (perm:(Md.toList.map λe=>numOf e.2).Perm Gi) (nums:∀e∈Md.toList,Dq e)
  (r:∀(h':Heap) (es:Array (Int×Value)) (ep:Nat) (t:SetTable),Heap.SameBut a s.heap h'->Eb b a Gi es ep t h'->R (some true) {s with heap:=h'}) :
  wpAny (model prog w) A (storeSet a Md t' >>= λ_=>if (!d&&t'.tooFull)=true then g (relayAll t' Md (SetTable.grown Md.size)).2.2 >>= λ_=>storeSet a (relayAll t' Md (SetTable.grown Md.size)).1 (relayAll t' Md (SetTable.grown Md.size)).2.1 >>= λ_=>pure (some true) else pure (some true)) R E s:=by
 have y:=x.put fit ti perm nums;have o1:=ou s.heap a (Obj.putSet Md t');refine Ca (wpAny_storeSet_of x.obj rfl ?_ (Bz ff))
 by_cases hc:(!d&&t'.tooFull)=true
 .rw[Na hc];have p:=relayAll_perm t' Md (SetTable.grown Md.size);have sz:(relayAll t' Md (SetTable.grown Md.size)).1.size=Md.size:=by simpa using p.length_eq
  have z:=y.put (relayAll_fits t' Md (SetTable.grown Md.size)) (ti.aw Md _) ((p.map _).trans perm) λe he=>nums e (p.mem_iff.mp he)
  exact Ca (hg _ _ _ (Ca (wpAny_storeSet_of y.obj rfl (kb (r _ _ _ _ (o1.trans (ou _ a _)) z)) (Bz (by rw[sz];exact ff)))))
 .rw[La hc];exact kb (r _ _ _ _ o1 y)
def bIh{es:Array (Int×Value)}{ep:Nat}{t:SetTable}{k:Int}{tk:Tok}{Q:Bool->Shared->Prop}(x:Eb b a ns es ep t s.heap)(ff:ns.length+1<scanBound)
  (q:∀(c:Bool)(h':Heap) (es:Array (Int×Value)) (ep:Nat) (t:SetTable),Heap.SameBut a s.heap h'->Eb b a (Wk ns k) es ep t h'->Q c {s with heap:=h'}) :
  wpAny (model prog w) A (setAddHashed a (.int k tk) (hashInt k)) Q E s:=by
 have el:ElemsOf (intKind prog w) es.toList:=bEd x.nums;have fz:es.size<scanBound:=by rw[x.size];omega
 have fk:=bEe (prog:=prog) (w:=w) x.nums x.perm k;have Rl:∀e∈(layNew t es (hashInt k) (.int k tk)).1.toList,Dq e:=λe he=>by
  rcases Ed.mp ((gS t es _ _).mem_iff.mp he) with he|he
  .exact x.nums e he
  .exact⟨k,tk,cc.mp he⟩
 have Aj:((layNew t es (hashInt k) (.int k tk)).1.toList.map λe=>numOf e.2).Perm (ns++[k]):=by
  have:=(gS t es (hashInt k) (.int k tk)).map λe=>numOf e.2
  rw[Hf]at this;exact this.trans (x.perm.append_right _)
 have Xl:(layNew t es (hashInt k) (.int k tk)).1.size<scanBound:=by
  have:=Aj.length_eq;simp at this;omega
 unfold setAddHashed setAddHashedIn;refine Ah (Ca (Qq x.obj rfl x.fit ?_));dsimp only;rw[Na (byScan_of rfl fz el)];unfold setAddByScan;refine Ca (Ca (ir (Ca (wpAny_setScan_of (knd:=intKind prog w) (Ju prog w k tk) x.obj rfl x.fit el ?_))));cases hr:es.toList.findIdx? (λe=>(intKind prog w).is k e.2) with
 |some j=>
  rw[hr]at fk;have:Wk ns k=ns:=Na fk.symm;rw[this]at q;exact kb (kb (q false s.heap es ep t (Heap.SameBut.refl a s.heap) x))
 |none=>
  rw[hr]at fk;have:Wk ns k=ns++[k]:=by unfold Wk;rw[<-fk];rfl
  rw[this]at q;have tl:=x.ti.lay es (hashInt k) (.int k tk);have fl:=layNew_fits t es (hashInt k) (.int k tk);generalize layNew t es (hashInt k) (.int k tk)=L at Aj Rl Xl tl fl ⊢;obtain⟨es1,t1,d,gv⟩:=L;dsimp only at Aj Rl Xl tl fl ⊢;refine Ca (fE _ ?_)
  by_cases hp:t1.plain=true
  .rw[Na hp];refine Ca ?_
   rw[hashByValue_scannable 8 rfl];exact kb (Fd (λc Wa Q' h'=>fE c h') x Xl fl tl Aj Rl λh' es ep t sb y=>kb (q true h' es ep t sb y))
  .rw[La hp];exact Ca (kb (Fd (λc Wa Q' h'=>fE c h') x Xl fl tl Aj Rl λh' es ep t sb y=>kb (q true h' es ep t sb y)))
end
end Pu
namespace Pu
open PySem PyProof.Rows
section
variable{prog:Program}{w:World}{A:Around}{E:Value->Shared->Prop}{s:Shared}
def Xk(val:Nat->Int):Nat->List Int
 |0=>[]
 |i+1=>Wk (Xk val i) (val i)
theorem LU(val:Nat->Int):∀i,(Xk val i).length<=i
 |0=>Cb _
 |i+1=>Zd (bEc _ _) (Nat.succ_le_succ (LU val i))
def iZ(b:Bool)(a:Addr)(ns:List Int)(h:Heap):Prop:=∃es ep t,Eb b a ns es ep t h
theorem iZ.keep{b:Bool}{a:Addr}{ns:List Int}{h h':Heap}(x:iZ b a ns h)(k:∀o,h.get? a=some o->h'.get? a=some o):iZ b a ns h':=
 let ⟨es,ep,t,y⟩:=x
 ⟨es,ep,t,y.keep k⟩
def bIi{k:Int}{t:Tok}{Q:Bool->Shared->Prop}(x:iZ b a ns s.heap)(ff:ns.length+1<scanBound)
  (q:∀(c:Bool)(h':Heap),Heap.SameBut a s.heap h'->iZ b a (Wk ns k) h'->Q c {s with heap:=h',toks:=s.toks+1}) :
  wpAny (model prog w) A (setAdd a (.int k t)) Q E s:=by
 obtain⟨es,ep,tb,y⟩:=x;unfold setAdd;refine Ah (Ca ((intKind prog w).pyHash (k:=k) (Ju prog w k t) ?_));exact bIh (s:={s with toks:=s.toks+1}) y ff λc h' Md Tu t' sb z=>q c h' sb ⟨Md,Tu,t',z⟩
variable{I:Addr}{fp wr:List Addr}{G:Array GenState->Array GenState->Prop}{n:Nat}{P:Nat->Value->Prop}{St:Nat->Shared->Prop}
def bEf(W:WalksS prog w A.in1 I fp wr G n P St){R:Result->Shared->Prop}(a:Addr)(b:Bool)(out:a∉fp)(val:Nat->Int)(Pl:∀i v,P i v->∃t,v=.int (val i) t)(ff:n+1<scanBound) :
  ∀(m i:Nat)(s:Shared),i+m=n->St i s->iZ b a (Xk val i) s.heap->
   (∀s',Moved (a::wr) G s s'->iZ b a (Xk val n) s'.heap->R (.ok (.ret .none)) s')->
   codeAny (model prog w) A (.builtin "set.update.loop" ⟨[.ref a,.ref I],[]⟩) R s:=by
 have nw:a∉wr:=λh=>out (W.sub _ h)
 have up:∀c∈wr,c∈a::wr:=λc hc=>Bb _ hc
 intro m
 induction m with
 |zero=>
  intro i s e st x r;rw[Dl]at e;subst e;refine Xq F.entry_set_update_loop ?_
  rw[ku YF _];show wpAny _ A.in1 (pyNext (.ref I) >>= _) _ _ s;exact Ca (W.done s _ _ st λs' mv=>kb (r s' (mv.mono up) (x.keep λo ho=>mv.heap a o nw ho)))
 |succ m ih=>
  intro i s e st x r;refine Xq F.entry_set_update_loop ?_
  rw[ku YF _];show wpAny _ A.in1 (pyNext (.ref I) >>= _) _ _ s;refine Ca (W.item i s _ _ (by omega) st λv s' pv st' mv=>?_)
  obtain⟨t,rfl⟩:=Pl i v pv;have fw:(Xk val i).length+1<scanBound:=by have:=LU val i;omega
  refine Ca (Ah (bIi (x.keep λo ho=>mv.heap a o nw ho) fw λc h' sb y=>kb ⟨Au YF _,?_⟩))
  have other:∀c,c≠a->h'.get? c=s'.heap.get? c:=λc hc=>sb.2 c hc
  refine ih (i+1) _ (by omega) (W.frame _ s' _ _ st' (Om _) λc hc o ho=>?_) y λs2 mv2 z=>?_
  .rw[other c λh=>out (h ▸ hc)]
   exact ho
  .refine r s2 (Moved.trans W.gtrans ((mv.mono up).then_heap (Om _) λc o hc ho=>?_) mv2) z
   rw[other c λh=>hc (h ▸ xb)]
   exact ho
end
section
variable{prog:Program}{w:World}{A:Around}{E:Value->Shared->Prop}{s:Shared}
def xG(w:World):Bool:=w.params.followText "set-order"
def uC(w:World):Obj:={cls:=.type "set",dict:=none,data:=.set #[] 0 (.fresh 0 0 (!xG w)),slots := #[]}
def bEg(a:Value) (q:Q (.ref s.heap.objs.size) {s with heap:=s.heap.push (uC w)}) :
  codeAny (model prog w) A (.call (.builtin "set.__new__") ⟨[.type "set",a],[]⟩) (wants Q E) s:=by
 refine codeAny_of_tree (?_:wpAny _ A.in1 (checkBuiltinCall "set.__new__" ⟨[.type "set",a],[]⟩ >>= λ_=>again (.builtin "set.__new__" ⟨[.type "set",a],[]⟩)) _ _ s)
 refine Ca (wpAny_of_eq (F.newCall_set_1 a) (kb ⟨Au F.plain_set_new _,Xq F.entry_set_new ?_⟩));rw[ku F.plain_set_new _];unfold Builtin.«set.__new__» Builtin.Frozenset.newClass;have sub:=sub_set_self;obtain⟨hp,g,d,tk,os⟩:=s;dsimp only
 wp_walk
 refine Uq (kb ?_);dsimp only;simp only[newObj];exact Ca (wpAny_alloc (kb (kb q)))
def O8(w:World) (o:h.get? a=some (uC w)):iZ (!xG w) a [] h:=
 ⟨#[],0,_,o,rfl,TI.fresh _,List.Perm.nil,λe he=>nomatch he⟩
def bEh{l:Addr} {R:Result->Shared->Prop} (hh:A.handled=none) (o:s.heap.get? a=some (uC w)) (ne:l≠a) (hl:s.heap.IsList l items) (Pl:IntsAre items.toList ns) (ff:items.size+1<scanBound)
  (r:∀(h':Heap)(tk:Nat),iZ (!xG w) a (Xk (λi=>ns.getD i 0) items.size) h'->(∀b o,b≠a->s.heap.get? b=some o->h'.get? b=some o)->R (.ok (.ret .none)) {s with heap:=h',toks:=tk}) :
  wpAny (model prog w) A.in1 (Builtin.«set.__init__» ⟨[.ref a,.ref l],[]⟩) (λfin s'=>match fin with|.done f=>R (.ok f) s'|.again c'=>c'.quiet=true/\codeAny (model prog w) A c' R s') (λe s'=>R (.error e) s') s:=by
 have hT:s.TypeIs (.ref a) "set":=⟨_,o,rfl⟩;obtain⟨ol,hol,Fi,nl,G0⟩:=id hl;obtain⟨cl,di,da,sl⟩:=ol;dsimp only at Fi G0;subst Fi;subst G0;have o':s.heap.get? a=some {cls:=.type "set",dict:=none,data:=.set #[] 0 (.fresh 0 0 (!xG w)),slots := #[]}:=o;have h1:=F.sub_list_set;have h2:=F.sub_list_frozenset;have h3:(Value.type "list" == Value.type "dict")=false:=by decide
 unfold Builtin.«set.__init__» noKeywords Builtin.Frozenset.updateFrom;generalize hp:pyIter=it
 wp_walk
 subst hp;refine Az hl (Ca (wpAny_runValue ?_));have ia:a≠s.heap.objs.size:=Hd (dc o);have il:l≠s.heap.objs.size:=Hd (dc hol);have out:a∉[s.heap.objs.size,l]:=by
  intro h;rcases Nb.mp h with h|h
  .exact ia h
  .exact ne (cc.mp h).symm
 refine bEf ((Walks.list (by simp[hh]) _ l il items).toS) a (!xG w) out (λi=>ns.getD i 0) (λi v hv=>IntsAre.int_at Pl i v (by rw[xl];exact hv)) ff items.size 0 _ (Eu _)
  ⟨⟨_,Pd _ rfl,rfl,rfl⟩,hl.push _⟩ (O8 w (Tb _ o)) λs' mv x=>?_
 rw[Moved.eq_with mv];refine kb (kb (r s'.heap s'.toks x λb o hb ho=>mv.heap b o (λhm=>?_) (Tb _ ho)))
 rcases Nb.mp hm with h|h
 .exact hb h
 .exact absurd (cc.mp h) (Hd (dc ho))
def bEi{l:Addr} (hh:A.handled=none) (hl:s.heap.IsList l items) (Pl:IntsAre items.toList ns) (ff:items.size+1<scanBound)
  (q:∀(h':Heap)(tk:Nat),iZ (!xG w) s.heap.objs.size (Xk (λi=>ns.getD i 0) items.size) h'->(∀b o,s.heap.get? b=some o->h'.get? b=some o)->Q (.ref s.heap.objs.size) {s with heap:=h',toks:=tk}) :
  wpAny (model prog w) A (call (.type "set") [.ref l]) Q E s:=by
 obtain⟨c,tl,hmro⟩:=Jm.mro;have g1:=Jm.made;have g2:=Jm.sub;have g3:=Jm.notType;have g4:=Jm.canCreate;have g5:=F.typeCall_set_1 (.ref l);refine wpAny_call (codeAny_of_tree (?_:wpAny _ _ (callAny (.type "set") _) _ _ _));refine kb ⟨Code.quiet_builtin _ (by decide+kernel),Xq F.entry_type_call ?_⟩
 rw[Around.under_plain (weight_type_call_type "set" [.ref l] []) rfl]
 repeat (any_goals (first|assumption|wp_step))
 refine qo (bEg (.ref l) (E:=E) (Q:=λv Wa=>v=.ref s.heap.objs.size/\Wa={s with heap:=s.heap.push (uC w)}) ⟨rfl,rfl⟩) λres Wa LI=>?_
 match res,LI with
 |.error e,he=>exact he
 |.ok (.ret v),⟨hv,hs⟩=>
  subst hv;subst hs;have ob:(s.heap.push (uC w)).get? s.heap.objs.size=some (uC w):=Pd _ rfl;have hT:Shared.TypeIs {s with heap:=s.heap.push (uC w)} (.ref s.heap.objs.size) "set":=⟨_,ob,rfl⟩
  have g6:=Jm.init.lookup;have g7:=Jm.init.bind (.ref s.heap.objs.size)
  repeat (any_goals (first|assumption|wp_step))
  have ne:l≠s.heap.objs.size:=let ⟨_,h,_⟩:=hl;Hd (dc h);refine qo (codeAny_call_builtin (R:=wants (λr Dj=>r=.none/\Q (.ref s.heap.objs.size) Dj) E) Jm.init.plain F.entry_set_init (check_set_init_1 hT
   (bEh (by simp[hh]) ob ne (hl.push _) Pl ff λh' tk x k=>⟨rfl,q h' tk x λb o ho=>k b o (Hd (dc ho)) (Tb _ ho)⟩))) λkK Dj Gv=>?_
  match kK,Gv with
  |.error e,he=>exact he
  |.ok (.ret _),⟨h0,hq⟩=>
   subst h0
   repeat (any_goals (first|assumption|wp_step))
end
theorem PB{α:Type}:∀(xs:List α)(i:Nat)(x:α),xs[i]?=some x->(x::xs.eraseIdx i).Perm xs
 |[],_,_,h=>nomatch h
 |y::xs,0,x,h=>by cases h;exact yu _
 |y::xs,i+1,x,h=>by
  have:=PB xs i x (by simpa using h)
  exact(List.Perm.swap y x _).trans (this.cons y)
theorem EQ{α:Type}(next:Nat->Nat):∀(n k:Nat)(left:List α)(out:Array α),left.length=n->(pickOrder.go next n k left out).toList.Perm (out.toList++left)
 |0,k,left,out,h=>by
  cases left with
  |nil=>rw[Di];exact yu _
  |cons _ _=>cases h
 |n+1,k,left,out,h=>by
  unfold pickOrder.go;have hl:next k%left.length<left.length:=mod_lt _ (by omega)
  have e:left[next k%left.length]?=some left[next k%left.length]:=Pc hl
  rw[e];dsimp only;refine(EQ next n (k+1) _ _ (by rw[KY hl];omega)).trans ?_
  rw[toList_push,wl];exact(PB left _ _ e).append_left _
def E4(next:Nat->Nat)(xs:Array α):(pickOrder next xs).toList.Perm xs.toList:=EQ next xs.size 0 xs.toList #[] (Array.length_toList)
section
variable {A:Around}
def P8{s:Shared}{src:Source} {Q:Nat->Shared->Prop} (hn:n≠0) (q:∀i d,i<n->Q i {s with drawn:=d}):wpAny (model prog w) A (choose src n) Q E s:=
 λ_ _ _=>⟨hn,q _ _ (mod_lt _ (Nat.pos_of_ne_zero hn))⟩
def bEj{α:Type}(n:Nat):∀(xs:List α)(s:Shared)(Q:List α->Shared->Prop),xs.length=n->(∀ys d,ys.Perm xs->Q ys {s with drawn:=d})->wpAny (model prog w) A (drawOrder n xs) Q E s:=by
 induction n with
 |zero=>
  intro xs s Q h q;have e:xs=[]:=jl.mp h;subst e;exact kb (q [] s.drawn (yu _))
 |succ n ih=>
  intro xs s Q h q;have ne:xs≠[]:=λe=>by rw[e]at h;cases h
  obtain⟨x,l,rfl⟩:=List.exists_cons_of_ne_nil ne;refine(?_:wpAny (model prog w) A (choose .order (x::l).length >>= λi=>match (x::l)[i]? with|some y=>drawOrder n ((x::l).eraseIdx i) >>= λr=>pure (y::r)|none=>unsupported "internal:drawOrder") Q E s)
  refine Ca (P8 (by simp) λi d hi=>?_)
  have e:(x::l)[i]?=some (x::l)[i]:=Pc hi;rw[e];refine Ca (ih _ _ _ (by rw[KY hi];omega) λys d' hy=>kb (q _ d' ?_))
  exact(hy.cons _).trans (PB _ _ _ e)
end
def qM:Slot "set_iterator" "__next__" "set_iterator.__next__":=
 .of (owner:="set_iterator") (n:="__next__") (by rw[UG,BG];kernel_rfl) (by decide+kernel) (by decide+kernel) (by decide+kernel) (.inl (by decide+kernel)) (by rw[isSubtype_type];kernel_rfl)
def lx:entryFor table "set_iterator.__next__"=some Builtin.«set_iterator.__next__» := entryFor_of_tree (by kernel_rfl)
def iS:Manifest.owners.lookup (String.ofList ['r', 'o', 't', 'a', 'r', 'e', 't', 'i', '_', 't', 'e', 's'].reverse)=some Manifest.sig_set_iterator:=by kernel_rfl
def Px(a:Value):argsOk "set_iterator.__next__" ⟨[a],[]⟩:=by
 unfold argsOk;rw[signature?_of (id:="set_iterator.__next__") (n:=['_', '_', 't', 'x', 'e', 'n', '_', '_']) (o:=['r', 'o', 't', 'a', 'r', 'e', 't', 'i', '_', 't', 'e', 's']) (by kernel_rfl) iS]
 kernel_rfl
def jS:Slot "set_iterator" "__iter__" "set_iterator.__iter__":=
 .of (owner:="set_iterator") (n:="__iter__") (by rw[UG,BG];kernel_rfl) (by decide+kernel) (by decide+kernel) (by decide+kernel) (.inl (by decide+kernel)) (by rw[isSubtype_type];kernel_rfl)
def Q8:entryFor table "set_iterator.__iter__"=some Builtin.«dict_keyiterator.__iter__» := entryFor_alias (id':="dict_keyiterator.__iter__") (by kernel_rfl) rfl (by decide+kernel) (by kernel_rfl)
def W_(a:Value):argsOk "set_iterator.__iter__" ⟨[a],[]⟩:=by
 unfold argsOk;rw[signature?_of (id:="set_iterator.__iter__") (n:=['_', '_', 'r', 'e', 't', 'i', '_', '_']) (o:=['r', 'o', 't', 'a', 'r', 'e', 't', 'i', '_', 't', 'e', 's']) (by kernel_rfl) iS]
 kernel_rfl
def b7:entryFor table "set.__iter__"=some Builtin.«frozenset.__iter__» := entryFor_alias (id':="frozenset.__iter__") (by kernel_rfl) rfl (by decide+kernel) (by kernel_rfl)
def bEk:typeLookup (.type "set") "__len__"=pure (some (.builtin "set.__len__")):=by rw[UG,BG];kernel_rfl
def Ui(first:Value)(i:Nat)(a:Addr)(n ep:Nat):Obj:={cls:=.type "set_iterator",dict:=none,data:=.fields #[first,.int i 0,.ref a,.int n 0,.int ep 0],slots := #[]}
section
variable{prog:Program}{w:World}{A:Around}{E:Value->Shared->Prop}{s:Shared}
def bEl{es:Array (Int×Value)} {t:SetTable} {c':Nat} {v:Value} {Q:Option Value->Shared->Prop}
  (hI:s.heap.get? I=some (Ui (.int c 0) i a es.size ep)) (x:Eb b a ns es ep t s.heap)
  (nx:∀(A:Around)(E:Value->Shared->Prop) (Q:Option (Value×Nat)->Shared->Prop),Q (some (v,c')) s->wpAny (model prog w) A (setNext a c i ep) Q E s)
  (q:∀h',h'.get? I=some (Ui (.int c' 0) (i+1) a es.size ep)->Heap.SameBut I s.heap h'->Q (some v) {s with heap:=h'}) :
  wpAny (model prog w) A (pyNext (.ref I)) Q E s:=by
 have hT:s.TypeIs (.ref I) "set_iterator":=⟨_,hI,rfl⟩;unfold pyNext;refine Ca (ar (Hq (name:=Str.ofString "__next__") hT qM (Bl qM hT lx ?_ (Px _))));unfold Builtin.«set_iterator.__next__»;refine Ca (kb ?_);refine Ca (Hz hI rfl ?_);dsimp only;refine Ca (qu x.obj rfl x.fit ?_);rw[La (by simp)]
 refine Ca (nx _ _ _ ?_);dsimp only;refine Ca (Zq hI rfl (by simp) ?_)
 have h1:(s.heap.update I (Obj.mapFields (·.setIfInBounds 0 (rawInt c')))).get? I=some (Ui (.int c' 0) i a es.size ep):=by
  rw[Dm _ hI (oz (zz rfl _))];rfl
 refine Ca (Zq h1 rfl (by simp) ?_)
 refine kb ⟨v,rfl,kb (q _ ?_ ((ou ..).trans (ou ..)))⟩;rw[Dm _ h1 (oz (zz rfl _))];rfl
def MU{R:Value->Shared->Prop}{Q:Fin->Shared->Prop}(hh:A.handled=none)(r:∀(h':Heap)(e:Addr),(∀b o,s.heap.get? b=some o->h'.get? b=some o)->(∃o,h'.get? e=some o/\o.cls=.type "StopIteration")->R (.ref e) {s with heap:=h'}) :
  wpAny (model prog w) A (newExc (.type "StopIteration") [] >>= λe=>raiseNew e) Q R s:=by
 refine Ca ?_
 simp only[newExc,newTuple];refine Ca (Pq ?_ (by size_fits))
 refine Ca (m:=firstArgMember _ _) (wpAny_of_eq (a:=Value.none) (by first|rfl|(simp only[firstArgMember];rfl)) (Pq ?_ (by size_fits)))
 simp only[raiseNew];refine Ca (wpAny_handled ?_);rw[hh];exact Ca (kb (wpAny_throw (r _ _ (λb o ho=>Tb _ (Tb _ ho)) ⟨_,Pd _ rfl,rfl⟩)))
def bIj{b:Bool} {es:Array (Int×Value)} {t:SetTable} {Q:Option Value->Shared->Prop} (hh:A.handled=none)
  (hI:s.heap.get? I=some (Ui (.int c 0) i a es.size ep)) (x:Eb b a ns es ep t s.heap)
  (nx:∀(A:Around)(E:Value->Shared->Prop) (Q:Option (Value×Nat)->Shared->Prop),Q none s->wpAny (model prog w) A (setNext a c i ep) Q E s)
  (q:∀h',(∀b o,b≠I->s.heap.get? b=some o->h'.get? b=some o)->Q none {s with heap:=h'}) :
  wpAny (model prog w) A (pyNext (.ref I)) Q E s:=by
 have hT:s.TypeIs (.ref I) "set_iterator":=⟨_,hI,rfl⟩;unfold pyNext;refine Ca (ar (Hq (name:=Str.ofString "__next__") hT qM (Bl qM hT lx ?_ (Px _))));unfold Builtin.«set_iterator.__next__»;refine Ca (kb ?_);refine Ca (Hz hI rfl ?_);dsimp only;refine Ca (qu x.obj rfl x.fit ?_);rw[La (by simp)]
 refine Ca (nx _ _ _ ?_);dsimp only;refine Ca (Zq hI rfl (by simp) ?_)
 refine MU hh λh' e k o=>?_
 obtain⟨o,ho,hc⟩:=o;refine Ca (Dz (T:="StopIteration") (b:=true) ⟨o,ho,hc⟩ isSubtype_stop (kb (q _ λb o' hb nj=>k b o' ?_)))
 rw[bo _ _ (tf hb)];exact nj
def R8{es:Array (Int×Value)} {t:SetTable} (x:Eb b a ns es ep t s.heap) (hb:xG w=true) (c i:Nat) {Q:Option (Value×Nat)->Shared->Prop}
  (q:Q (((pickOrder (w.params.setOrder a ep) es)[i]?).map λe=>(e.2,c)) s):wpAny (model prog w) A (setNext a c i ep) Q E s:=by
 have uf:w.params.followText "set-order"=true:=hb;unfold setNext;refine Ca (Qq x.obj rfl x.fit ?_);dsimp only;unfold setsByText;refine Ca (Ca (Uq (kb ?_)));refine ak (λ_=>?_) λh=>absurd uf h
 rw[La (by simp)]
 refine Ca ?_
 unfold setWalk;refine Ca (Qq x.obj rfl x.fit ?_);dsimp only;unfold setsByText;refine Ca (Ca (Uq (kb ?_)));refine ak (λ_=>?_) λh=>absurd uf h
 exact Ca (Uq (kb (kb q)))
def yH(t:SetTable):Nat->Nat
 |0=>0
 |i+1=>t.place.getD i 0+1
def below_at{t:SetTable}(ti:TI b t)(i:Nat)(hi:i<=t.place.size):SetTable.below t.place (yH t i)=i:=by
 obtain⟨h1,h2,h3⟩:=MO t.place (yH t i) ti.rise;generalize hm:SetTable.below t.place (yH t i)=m at h1 h2 h3;rcases Nat.lt_trichotomy m i with h|h|h
 .exfalso;have lt:i-1<t.place.size:=by omega
  have e:t.place[i-1]?=some t.place[i-1]:=Wi lt;have:=h2 (i-1) _ (by omega) e
  have se:yH t i=t.place[i-1]+1:=by
   cases i with
   |zero=>omega
   |succ k=>
    show t.place.getD k 0+1=_;rw[nz,Wi (by omega)]
    rfl
  omega
 .exact h
 .exfalso;have lt:i<t.place.size:=by omega
  have e:t.place[i]?=some t.place[i]:=Wi lt;have g:=h1 i _ h e;cases i with
  |zero=>exact absurd g (Iu _)
  |succ k=>
   have gk:t.place[k]?=some t.place[k]:=Wi (by omega)
   have se:yH t (k+1)=t.place[k]+1:=by
    show t.place.getD k 0+1=_;rw[nz,gk];rfl
   have r:=XF.mp ti.rise k (k+1) (by simp;omega) (by simp;omega) (by omega)
   simp at r;omega
def X_{es:Array (Int×Value)} {t:SetTable} (x:Eb true a ns es ep t s.heap) (hb:xG w=false) (hd:(!t.plain&&decide (es.size>1))=false) (i:Nat) (hi:i<=es.size) {Q:Option (Value×Nat)->Shared->Prop}
  (q:Q ((es[i]?).map λe=>(e.2,yH t (i+1))) s):wpAny (model prog w) A (setNext a (yH t i) i ep) Q E s:=by
 have uf:w.params.followText "set-order"=false:=hb;have sz:t.place.size=es.size:=by
  have:=x.fit;simp only[SetTable.fits,and_eq_true,beq_iff_eq]at this;exact this.1
 unfold setNext;refine Ca (Qq x.obj rfl x.fit ?_);dsimp only;unfold setsByText;refine Ca (Ca (Uq (kb ?_)));refine ak (λh=>absurd (uf.symm.trans h) Ef) λ_=>?_
 refine ak (λh=>absurd (hd.symm.trans h) Ef) λ_=>?_
 refine Ca (m:=(if (!t.led && !es.isEmpty)=true then unsupported "set:maker-not-led" else pure ())) ?_
 rw[La (by rw[x.ti.led];exact Ef)]
 refine kb ?_
 rw[below_at x.ti i (by rw[sz];exact hi)]
 by_cases Qb:i<es.size
 .rw[Wi Qb]at q;rw[Wi Qb,Wi (by rw[sz];exact Qb)]
  refine kb ?_
  have:yH t (i+1)=t.place[i]+1:=by
   show t.place.getD i 0+1=_;rw[nz,Wi (by rw[sz];exact Qb)]
   rfl
  rw[this]at q;exact q
 .have hn:es[i]?=none:=Array.getElem?_eq_none (by omega)
  rw[hn]at q ⊢;exact kb q
def bEm{T:Addr} {es:Array (Int×Value)} {t:SetTable} {ys:List Nat} {e:Int×Value} {y:Nat} {Q:Option Value->Shared->Prop}
  (hI:s.heap.get? I=some (Ui (.ref T) i a es.size ep)) (x:Eb b a ns es ep t s.heap) (hy:s.heap.get? T=some {cls:=.type "tuple",data:=.seq (ys.map λ(n:Nat)=>rawInt n).toArray})
  (hi:ys[i]?=some y) (he:es[y]?=some e)
  (q:∀h',h'.get? I=some (Ui (.ref T) (i+1) a es.size ep)->Heap.SameBut I s.heap h'->Q (some e.2) {s with heap:=h'}) :
  wpAny (model prog w) A (pyNext (.ref I)) Q E s:=by
 have hT:s.TypeIs (.ref I) "set_iterator":=⟨_,hI,rfl⟩;unfold pyNext;refine Ca (ar (Hq (name:=Str.ofString "__next__") hT qM (Bl qM hT lx ?_ (Px _))));unfold Builtin.«set_iterator.__next__»;refine Ca (kb ?_);refine Ca (Hz hI rfl ?_);dsimp only;refine Ca (qu x.obj rfl x.fit ?_);rw[La (by simp)]
 refine Ca (Fm hy rfl ?_);dsimp only;have ei:((ys.map λ(n:Nat)=>rawInt n).toArray)[(i:Int).toNat]?=some (.int y 0):=by
  rw[rg,AG,Vg,hi];rfl
 rw[ei];dsimp only;unfold setNextDrawn;refine Ca (Ca (Qq x.obj rfl x.fit ?_));dsimp only;rw[La (by simp),rg,he]
 refine kb ?_
 refine Ca (Zq hI rfl (by simp) ?_)
 refine kb ⟨e.2,rfl,kb (q _ ?_ (ou ..))⟩;rw[Dm _ hI (oz (zz rfl _))];rfl
def bIk{T:Addr}{b:Bool} {es:Array (Int×Value)} {t:SetTable} {ys:List Nat} {Q:Option Value->Shared->Prop} (hh:A.handled=none)
  (hI:s.heap.get? I=some (Ui (.ref T) i a es.size ep)) (x:Eb b a ns es ep t s.heap) (hy:s.heap.get? T=some {cls:=.type "tuple",data:=.seq (ys.map λ(n:Nat)=>rawInt n).toArray})
  (hi:ys[i]?=none)
  (q:∀h',(∀b o,b≠I->s.heap.get? b=some o->h'.get? b=some o)->Q none {s with heap:=h'}) :
  wpAny (model prog w) A (pyNext (.ref I)) Q E s:=by
 have hT:s.TypeIs (.ref I) "set_iterator":=⟨_,hI,rfl⟩;unfold pyNext;refine Ca (ar (Hq (name:=Str.ofString "__next__") hT qM (Bl qM hT lx ?_ (Px _))));unfold Builtin.«set_iterator.__next__»;refine Ca (kb ?_);refine Ca (Hz hI rfl ?_);dsimp only;refine Ca (qu x.obj rfl x.fit ?_);rw[La (by simp)]
 refine Ca (Fm hy rfl ?_);dsimp only;have ei:((ys.map λ(n:Nat)=>rawInt n).toArray)[(i:Int).toNat]?=none:=by
  rw[rg,AG,Vg,hi];rfl
 rw[ei];dsimp only;refine Ca (Zq hI rfl (by simp) ?_)
 have h1:(s.heap.update I (Obj.mapFields (·.setIfInBounds 0 (rawInt 0)))).get? I=some (Ui (.int 0 0) i a es.size ep):=by
  rw[Dm _ hI (oz (zz rfl _))];rfl
 refine Ca (Zq h1 rfl (by simp) ?_)
 refine MU hh λh' e k o=>?_
 obtain⟨o,ho,hc⟩:=o;refine Ca (Dz (T:="StopIteration") (b:=true) ⟨o,ho,hc⟩ isSubtype_stop (kb (q _ λb o' hb nj=>k b o' ?_)))
 rw[bo _ _ (tf hb),bo _ _ (tf hb)];exact nj
end
section
variable{prog:Program}{w:World}{A:Around}{E:Value->Shared->Prop}{s:Shared}
def NU{o:Obj} (hI:s.heap.get? I=some o) (hc:o.cls=.type "set_iterator") (q:Q (.ref I) s):wpAny (model prog w) A (pyIter (.ref I)) Q E s:=by
 have hT:s.TypeIs (.ref I) "set_iterator":=⟨o,hI,hc⟩;refine wpAny_pyIter_slot hT jS (Bl jS hT Q8 (?_:wpAny _ _ (ret (.ref I)) _ _ s) (W_ _));exact kb ⟨_,rfl,"set_iterator",_,hT,qM.lookup,q⟩
def kS(hh:A.handled=none) (ne:a≠I) {es:Array (Int×Value)} {t:SetTable} (c:Nat->Nat) (vs:List Value)
  (nx:∀(s:Shared)(i:Nat),i<=vs.length->Eb b a ns es ep t s.heap->∀(A:Around)(E:Value->Shared->Prop) (Q:Option (Value×Nat)->Shared->Prop),Q ((vs[i]?).map λv=>(v,c (i+1))) s->wpAny (model prog w) A (setNext a (c i) i ep) Q E s) :
  Walks prog w A I [I,a] [I] vs.length (λi v=>vs[i]?=some v) (λi h=>h.get? I=some (Ui (.int (c i) 0) i a es.size ep)/\Eb b a ns es ep t h) where
 sub:=λb hb=>by rw[cc.mp hb];exact xb
 frame:=λ_ _ _ st k=>⟨k I xb _ st.1,st.2.keep λo ho=>k a (Bb _ xb) o ho⟩
 item:=λi s Q E hi st q=>by
  have e:vs[i]?=some vs[i]:=Pc hi;refine bEl (v:=vs[i]) (c':=c (i+1)) st.1 st.2 (λA E Q' h=>nx s i (Bu hi) st.2 A E Q' (by rw[e];exact h)) λh' hI sb=>?_
  have k:∀b o,b≠I->s.heap.get? b=some o->h'.get? b=some o:=λb o hb ho=>by rw[sb.2 b hb];exact ho
  exact q _ h' s.toks e ⟨hI,st.2.keep λo ho=>k a o ne ho⟩ λb o hb ho=>k b o (λh=>hb (cc.mpr h)) ho
 done:=λs Q E st q=>
  bIj hh st.1 st.2 (λA E Q' h=>nx s _ (Cb _) st.2 A E Q' (by rw[iz (Cb _)];exact h)) λh' k=>q h' s.toks λb o hb ho=>k b o (λh=>hb (cc.mpr h)) ho
 self:=λ_ _ _ _ st q=>NU st.1 rfl q
def bEn(hh:A.handled=none){T:Addr}(ne:a≠I)(nT:T≠I) {es:Array (Int×Value)} {t:SetTable} (ys:List Nat) (lt:∀y∈ys,y<es.size) :
  Walks prog w A I [I,a,T] [I] (ys.map λy=>(es.getD y (0,.none)).2).length (λi v=>(ys.map λy=>(es.getD y (0,.none)).2)[i]?=some v)
   (λi h=>h.get? I=some (Ui (.ref T) i a es.size ep)/\Eb b a ns es ep t h/\h.get? T=some {cls:=.type "tuple",data:=.seq (ys.map λ(n:Nat)=>rawInt n).toArray}) where
 sub:=λb hb=>by rw[cc.mp hb];exact xb
 frame:=λ_ _ _ st k=>⟨k I xb _ st.1,st.2.1.keep λo ho=>k a (Bb _ xb) o ho,k T (Bb _ (Bb _ xb)) _ st.2.2⟩
 item:=λi s Q E hi st q=>by
  rw[uc]at hi;have e:ys[i]?=some ys[i]:=Pc hi;have l:=lt _ (Wf hi);have eg:es[ys[i]]?=some es[ys[i]]:=Wi l;refine bEm (e:=es[ys[i]]) st.1 st.2.1 st.2.2 e eg λh' hI sb=>?_
  have k:∀b o,b≠I->s.heap.get? b=some o->h'.get? b=some o:=λb o hb ho=>by rw[sb.2 b hb];exact ho
  refine q _ h' s.toks ?_ ⟨hI,st.2.1.keep λo ho=>k a o ne ho,k T _ nT st.2.2⟩ λb o hb ho=>k b o (λh=>hb (cc.mpr h)) ho
  rw[Vg,e];simp[getD_eq_getD_getElem?,eg]
 done:=λs Q E st q=>by
  rw[uc]at st;exact bIk hh st.1 st.2.1 st.2.2 (iz (Cb _)) λh' k=>q h' s.toks λb o hb ho=>k b o (λh=>hb (cc.mpr h)) ho
 self:=λ_ _ _ _ st q=>NU st.1 rfl q
def Nums(vs:List Value)(ns:List Int):Prop:=(vs.map numOf).Perm ns/\∀v∈vs,∃n t,v=.int n t
def Eb.jg{es:Array (Int×Value)} {t:SetTable} (x:Eb b a ns es ep t h) {l:List (Int×Value)} (p:l.Perm es.toList):Nums (l.map (·.2)) ns:=by
 refine⟨?_,λv hv=>?_⟩
 .rw[ug];exact(p.map λe=>numOf e.2).trans x.perm
 .obtain⟨e,he,rfl⟩:=Rc.mp hv;obtain⟨n,tk,rfl⟩:=x.nums e (p.mem_iff.mp he);exact⟨n,tk,rfl⟩
def bEo(hh:A.handled=none) (x:iZ (!xG w) a ns s.heap) (ff:ns.length<scanBound)
  (q:∀(I:Addr)(h':Heap)(d:_)(vs:List Value)(fp:List Addr)(St:Nat->Heap->Prop),Nums vs ns->(∀b o,s.heap.get? b=some o->h'.get? b=some o)->s.heap.objs.size<=I->(∀f∈fp,f=a\/s.heap.objs.size<=f)->
   Walks prog w A I fp [I] vs.length (λi v=>vs[i]?=some v) St->St 0 h'->Q (.ref I) {s with heap:=h',drawn:=d}) :
  wpAny (model prog w) A (pyIter (.ref a)) Q E s:=by
 obtain⟨es,ep,t,x⟩:=x;have hT:s.TypeIs (.ref a) "set":=⟨_,x.obj,rfl⟩;have la:a<s.heap.objs.size:=dc x.obj;refine wpAny_pyIter_slot hT F.slot_set_iter (Bl F.slot_set_iter hT b7 ?_ (F.args_set_iter_1 _));unfold Builtin.«frozenset.__iter__» Builtin.Frozenset.slot0;refine Ca (Ca (kb (?_:wpAny _ _ (pure a) _ _ s)));refine kb ?_
 unfold Builtin.Frozenset.sizeOf;refine Ca (Ca (qu x.obj rfl x.fit (kb ?_)));unfold setDrawn;refine Ca (Ca (Qq x.obj rfl x.fit ?_));dsimp only;unfold setsByText;refine Ca (Ca (Uq (kb (kb ?_))));have fin:∀(s':Shared)(first:Value),Eb (!xG w) a ns es ep t s'.heap->Q (.ref s'.heap.objs.size) {s' with heap:=s'.heap.push (Ui first 0 a es.size ep)}->wpAny (model prog w) A.in1 (setEpoch a >>= λe=>newFields "set_iterator" [first,rawInt 0,.ref a,rawInt es.size,rawInt e] >>= λr=>ret r)
   (λfin s'=>∃r,fin=.done (.ret r)/\∃T' r',s'.TypeIs r T'/\typeLookup (.type T') "__next__"=pure (some r')/\Q r s') E s':=λs' first y q'=>by
  refine Ca (wpAny_setEpoch_of y.obj rfl y.fit ?_);unfold newFields;refine Ca (Pq (kb ⟨_,rfl,"set_iterator",_,⟨_,Pd _ rfl,rfl⟩,qM.lookup,?_⟩));exact q'
 by_cases hd:(!xG w&&(!t.plain&&decide (es.size>1)))=true
 .refine ak (λ_=>?_) λh=>absurd hd h
  refine Ca (bEj es.size (List.range es.size) s _ Im λys d py=>?_)
  have lt:∀y∈ys,y<es.size:=λy hy=>Qc.mp (py.mem_iff.mp hy)
  have sz:ys.length<=sizeLine:=Bz (by rw[py.length_eq,Im,x.size];exact ff)
  simp only[newTuple];refine Ca (Pq ?_ (by show (List.map _ ys).toArray.size<=sizeLine;rw[De,uc];exact sz))
  refine fin _ _ (x.keep λo ho=>Tb _ ho) ?_
  refine q _ _ d (ys.map λy=>(es.getD y (0,.none)).2) _ _ ?_ (λb o ho=>Tb _ (Tb _ ho)) ?_ (λf hf=>?_)
   (bEn hh (T:=s.heap.objs.size) ?_ ?_ ys lt) ⟨Pd _ rfl,x.keep λo ho=>Tb _ (Tb _ ho),Tb _ (Pd _ rfl)⟩
  .have e:(ys.map λy=>(es.getD y (0,.none)).2)=(ys.map λy=>es.getD y (0,.none)).map (·.2):=by rw[ug];rfl
   rw[e];refine x.jg ((py.map _).trans (List.Perm.of_eq ?_));refine wu λi=>?_
   by_cases hi:i<es.size
   .simp[List.getElem?_map,List.getElem?_range hi,getD_eq_getD_getElem?,hi]
   .simp[hi]
  .rw[qg];exact Om _
  .rcases Nb.mp hf with h|h
   .exact .inr (by rw[h,qg];exact Om _)
   .rcases Nb.mp h with h|h
    .exact .inl h
    .exact .inr (Cu (cc.mp h).symm)
  .rw[qg];exact Hd (MG la)
  .rw[qg];exact Hd (Sq _)
 .refine ak (λh=>absurd h hd) λ_=>Ca (kb ?_)
  refine fin s (.int 0 0) x ?_
  by_cases hb:xG w=true
  .refine q s.heap.objs.size _ s.drawn ((pickOrder (w.params.setOrder a ep) es).toList.map (·.2)) _ _ (x.jg (E4 _ es)) (λb o ho=>Tb _ ho) (Cb _) (λf hf=>?_)
    (kS hh (Hd la) (λ_=>0) _ λs i hi y A E Q' h=>R8 y hb 0 i ?_) ⟨Pd _ rfl,x.keep λo ho=>Tb _ ho⟩
   .rcases Nb.mp hf with h|h
    .exact .inr (Cu h.symm)
    .exact .inl (cc.mp h)
   .rw[Vg,Option.map_map,xl]at h;exact h
  .have RH:xG w=false:=by revert hb;cases xG w<;>intro h<;>first|rfl|exact absurd rfl h
   have hd0:(!t.plain&&decide (es.size>1))=false:=by
    rw[RH]at hd;revert hd;cases (!t.plain&&decide (es.size>1)) <;> intro h<;>first|rfl|exact absurd rfl h
   have x':Eb true a ns es ep t s.heap:=by rw[RH]at x;exact x
   refine q s.heap.objs.size _ s.drawn (es.toList.map (·.2)) _ _ (x.jg (yu _)) (λb o ho=>Tb _ ho) (Cb _) (λf hf=>?_)
    (kS hh (b:=true) (t:=t) (ns:=ns) (Hd la) (yH t) _ λs i hi y A E Q' h=>X_ y RH hd0 i (by simpa using hi) ?_) ⟨Heap.get?_push_size _ rfl,x'.keep λo ho=>Heap.get?_push_of_some _ ho⟩
   .rcases Nb.mp hf with h|h
    .exact .inr (Cu h.symm)
    .exact .inl (cc.mp h)
   .rw[Vg,Option.map_map,xl]at h;exact h
end
section
variable {A:Around}
def Y_{r:Addr}{Q:Bool->Shared->Prop}(hT:s.TypeIs (.ref r) "set")(q:Q false s):wpAny (model prog w) A (Builtin.List.listLengthHint (.ref r)) Q E s:=by
 unfold Builtin.List.listLengthHint;refine Ca (SG hT bEk ?_);generalize H0:("set.__len__":String)=id0
 wp_delta
 rw[show splitId id0=some ("set","__len__") from by subst H0;decide+kernel]
 subst H0;refine Ca (Dz (T:="set") (b:=true) hT sub_set_self ?_);refine ak (λh=>absurd h (by decide)) λ_=>ak (λ_=>?_) λh=>absurd (by decide+kernel) h
 exact Ca (wpAny_typeOf hT (kb q))
def iZ.typeIs(x:iZ b a ns s.heap):s.TypeIs (.ref a) "set":=let ⟨_,_,_,y⟩:=x;⟨_,y.obj,rfl⟩
def Nums.len{vs:List Value} (h:Nums vs ns):vs.length=ns.length:=by
 have:=h.1.length_eq;simpa using this
def bIl{S:Addr} {res:Value} {R:Result->Shared->Prop} (hh:A.handled=none) (x:iZ (!xG w) a ns s.heap) (ff:ns.length<scanBound) (hS:s.heap.get? S=some {cls:=.type "list",data:=.seq #[] 0}) (ne:S≠a)
  (r:∀(h':Heap)(d:_)(tk:Nat)(vs:List Value)(c:Nat),Nums vs ns->(∀b o,b≠S->s.heap.get? b=some o->h'.get? b=some o)->h'.get? S=some {cls:=.type "list",dict:=none,data:=.seq vs.toArray c,slots := #[]}->R (.ok (.ret res)) {s with heap:=h',drawn:=d,toks:=tk}) :
  wpAny (model prog w) A.in1 (Builtin.List.listExtendWith (.ref S) (.ref a) res) (λfin s'=>match fin with|.done f=>R (.ok f) s'|.again c'=>c'.quiet=true/\codeAny (model prog w) A c' R s') (λe s'=>R (.error e) s') s:=by
 unfold Builtin.List.listExtendWith;refine Ca (wpAny_typeOf (T:="set") x.typeIs ?_);rw[La (by simp[Builtin.List.listSameRef,ne])]
 refine Ca (bEo (A:=A.in1) hh x ff λI h' d vs fp St nv k lI lf W st=>?_)
 refine Ca (Ah (Y_ (iZ.typeIs (s:={s with heap:=h',drawn:=d}) (x.keep λo ho=>k a o ho)) ?_))
 have lS:S<s.heap.objs.size:=dc hS;have nS:S∉fp:=λh=>by
  rcases lf S h with e|e
  .exact ne e
  .exact absurd lS (Nat.not_lt.mpr e)
 have go:∀(h1:Heap)(Hl:Nat),St 0 h1->(∀b o,b≠S->s.heap.get? b=some o->h1.get? b=some o)->h1.get? S=some {cls:=.type "list",data:=.seq #[] Hl}->
   codeAny (model prog w) A (.builtin "list.extend.loop" ⟨[.ref S,.ref I,res],[]⟩) R {s with heap:=h1,drawn:=d}:=λh1 Hl X1 k1 hS1=>by
  refine codeAny_extend_loopS W.toS (Bz (by rw[nv.len];exact ff)) S nS res vs.length 0 _ #[] Hl rfl (Dg _) X1 hS1 (ItemsOf.nil _) λs' qa c' mv hS' it=>?_
  have ev:qa=vs.toArray:=by
   apply ext';refine wu λi=>?_
   rw[xl,FG];cases ha:qa[i]? with
   |some v=>exact(it.2 i v ha).symm
   |none=>exact(iz (by rw[<-it.1];exact Array.getElem?_eq_none_iff.mp ha)).symm
  subst ev;rw[Moved.eq_with mv];refine r s'.heap d s'.toks vs c' nv (λb o hb ho=>mv.heap b o (λhm=>?_) (k1 b o hb ho)) hS'
  rcases Nb.mp hm with h|h
  .exact hb h
  .exact absurd (dc ho) (by rw[cc.mp h];exact Nat.not_lt.mpr lI)
 refine ak (λ_=>?_) λ_=>kb ⟨Au NY _,go h' 0 st (λb o _ ho=>k b o ho) (k S _ hS)⟩
 refine Ca (ir (Ca (?_:wpAny _ _ (updateSeq S (·.push .none) >>= λ_=>updateSeq S (·.pop)) _ _ _)))
 have o1:=k S _ hS;have o2:=Dm (Obj.mapSeq (·.push Value.none)) o1 rfl;have o3:=Dm (Obj.mapSeq (·.pop)) o2 rfl;have Q1:∀b o,b≠S->h'.get? b=some o->((h'.update S (Obj.mapSeq (·.push Value.none))).update S (Obj.mapSeq (·.pop))).get? b=some o:=λb o hb ho=>by
  rw[bo _ _ (tf hb),bo _ _ (tf hb)];exact ho
 refine Ca (wpAny_updateSeq o1 rfl (wpAny_updateSeq (hz:=by seq_fits) o2 rfl ?_))
 exact kb ⟨Au NY _,go _ _ (W.frame 0 _ _ st λb hb o ho=>Q1 b o (λe=>nS (e ▸ hb)) ho) (λb o hb ho=>Q1 b o hb (k b o ho)) o3⟩
def bEp{R:List Value->Shared->Prop}(hh:A.handled=none)(x:iZ (!xG w) a ns s.heap)(ff:ns.length<scanBound)
  (r:∀(h':Heap)(d:_)(tk:Nat)(vs:List Value),Nums vs ns->(∀b o,s.heap.get? b=some o->h'.get? b=some o)->R vs {s with heap:=h',drawn:=d,toks:=tk}) :
  wpAny (model prog w) A (collect (.ref a)) R E s:=by
 unfold collect;refine Ca (wpAny_runValue (Xq entry_proto_collect' ?_));rw[ku PySem.F.plain_proto_collect _];refine(?_:wpAny _ A.in1 (newList [] >>= λl=>again (.builtin "list.__iadd__" ⟨[l,.ref a],[]⟩)) _ _ s)
 refine Ca (Pq (kb ⟨Au YY _,Xq entry_list_iadd' ?_⟩));rw[ku YY _];have la:a<s.heap.objs.size:=let ⟨_,_,_,y⟩:=x;dc y.obj;have hS:(s.heap.push {cls:=.type "list",data:=.seq ([]:List Value).toArray}).get? s.heap.objs.size=some {cls:=.type "list",data:=.seq #[] 0}:=Pd _ rfl;have key:=bIl (A:=A) (s:={s with heap:=s.heap.push {cls:=.type "list",data:=.seq ([]:List Value).toArray} }) (res:=.ref s.heap.objs.size) (prog:=prog)
  (R:=λ(q:Result)(s':Shared)=>q=.ok (.ret (.ref s.heap.objs.size))/\∃(h':Heap)(d:_)(tk:Nat)(vs:List Value)(c:Nat),s'={s with heap:=h',drawn:=d,toks:=tk}/\Nums vs ns/\(∀b o,s.heap.get? b=some o->h'.get? b=some o)/\h'.get? s.heap.objs.size=some {cls:=.type "list",dict:=none,data:=.seq vs.toArray c,slots := #[]})
  hh (x.keep λo ho=>Tb _ ho) ff hS (Kz la)
  λh' d tk vs c nv k o=>⟨rfl,h',d,tk,vs,c,rfl,nv,λb o' ho=>k b o' (Hd (dc ho)) (Tb _ ho),o⟩
 have last:∀(h':Heap)(d:_)(tk:Nat)(vs:List Value)(c:Nat),Nums vs ns->(∀b o,s.heap.get? b=some o->h'.get? b=some o)->h'.get? s.heap.objs.size=some {cls:=.type "list",dict:=none,data:=.seq vs.toArray c,slots := #[]}->
   wpAny (model prog w) A (load s.heap.objs.size >>= λo=>match o.data with|.seq xs _=>pure xs.toList|_=>unsupported "internal:collect") R E {s with heap:=h',drawn:=d,toks:=tk}:=λh' d tk vs c nv k o=>by
  refine Ca (wpAny_load o ?_);exact kb (r h' d tk vs nv k)
 refine Wh key (λfin s' y=>?_) λe s' y=>nomatch y.1
 cases fin with
 |done f=>
  obtain⟨e,h',d,tk,vs,c,rfl,nv,k,o⟩:=y;cases e;exact last h' d tk vs c nv k o
 |again Hl=>
  refine⟨y.1,qo y.2 λq Dj z=>?_⟩
  obtain⟨rfl,h',d,tk,vs,c,rfl,nv,k,o⟩:=z;exact last h' d tk vs c nv k o
theorem mS:∀{vs:List Value},(∀v∈vs,∃n t,v=Value.int n t)->IntsAre vs (vs.map Pu.numOf)
 |[],_=>IntsAre.nil
 |v::vs,h=>by
  obtain⟨n,t,rfl⟩:=h v xb;exact IntsAre.cons _ _ (mS λv hv=>h v (Bb _ hv))
def S8(hh:A.handled=none)(x:iZ (!xG w) a ns s.heap)(ff:ns.length<64)
  (q:∀(D:Addr)(h':Heap)(d:_)(tk:Nat)(out:Array Value)(Gi:List Int)(c:Nat),IntsAre out.toList Gi->Gi.Perm ns->Gi.Pairwise (· <= ·)->(∀b o,s.heap.get? b=some o->h'.get? b=some o)->(∀b o,s.heap.get? b=some o->b<D)->h'.get? D=some (seqObj "list" out c)->Q (.ref D) {s with heap:=h',drawn:=d,toks:=tk}) :
  wpAny (model prog w) A (call (.builtin "sorted") [.ref a]) Q E s:=by
 refine Calls.call_function_entry kind_sorted plain_sorted entry_sorted (args_sorted1 _) ?_
 unfold Builtin.«sorted»;have fb:ns.length<scanBound:=by unfold scanBound;omega
 refine Ca (m:=checkCount "sorted" 1 1 _) (kb (Ca (bEp (A:=A.in1) hh x fb λh' d tk vs nv k=>?_)))
 have l64:vs.length<64:=by rw[nv.len];exact ff
 refine Ca (wpAny_newList ?_ (by rw[Km];omega))
 have o:(h'.push (seqObj "list" vs.toArray 0)).get? h'.objs.size=some (seqObj "list" vs.toArray 0):=Pd _ rfl;refine Ca (Ah (Bl slot_list_sort ⟨_,o,rfl⟩ entry_list_sort (list_sort_tree o (mS nv.2) l64 λout Gi e1 e2 e3=>⟨_,rfl,?_⟩) (args_list_sort _)))
 obtain⟨c,oc⟩:=sortedHeap_at (out:=out) o;refine kb ⟨_,rfl,q _ _ d tk out Gi c e1 (e2.trans nv.1) e3 (λb ob hb=>?_) (λb ob hb=>dc (k b ob hb)) oc⟩
 have l:=dc (k b ob hb);rw[sortedHeap_old (Hd l) (by rw[qg];exact MG l)]
 exact Tb _ (k b ob hb)
end
end Pu
namespace Pu
open PySem PySem.Spec PyProof.Rows L2
theorem FQ(ns:List Int):∀k,k<=ns.length->Xk (λi=>ns.getD i 0) k=oK (ns.take k)
 |0,_=>rfl
 |k+1,h=>by
  have e:ns.take (k+1)=ns.take k++[ns.getD k 0]:=by
   rw[List.take_add_one,xf,Pc (show k<ns.length by omega)]
   rfl
  rw[e];show Wk (Xk _ k) _=_;rw[FQ ns k (by omega)]
  unfold oK;rw[List.foldl_append];rfl
def bIm{l m:List Int}(h:m.Perm l)(hw:m.Pairwise (· <= ·)):m=Rk l:=List.Perm.eq_of_pairwise (le:=(· <= ·)) (λa b _ _ h1 h2=>Int.le_antisymm h1 h2) hw (G9 l) (h.trans (OC l).symm)
theorem oS:∀{us:List Value}{ns:List Int},IntsAre us ns->Ea (ns.map V.int) us
 |_,_,.nil=>.nil
 |_,_,.cons n t h=>.cons ⟨t,rfl⟩ (oS h)
def Z_(x:mK P w H h a o):∃u,h.get? a=some u:=by
 cases o with
 |lst xs=>obtain⟨_,_,_,_,e⟩:=x;exact⟨_,e⟩
 |tup xs=>obtain⟨_,_,_,o,e,_⟩:=x;exact⟨_,e⟩
 |dK ma=>obtain⟨_,_,_,_,o,_,_,e,_⟩:=x;exact⟨_,e⟩
 |dT ma=>obtain⟨_,_,_,_,o,_,_,e,_⟩:=x;exact⟨_,e⟩
 |set S n=>obtain⟨o,_,_,_,e,_⟩:=x;exact⟨_,e⟩
 |ins C dx fs=>obtain⟨_,_,_,e,_⟩:=x;exact⟨_,e⟩
 |own y=>obtain⟨_,e⟩:=x;exact⟨_,e⟩
 |xd fs=>obtain⟨_,⟨_,_,_,e,_⟩,_⟩:=x;exact⟨_,e⟩
 |uk lo hi=>obtain⟨_,_,_,e⟩:=x;exact⟨_,e⟩
 |ci ob u=>obtain⟨e,_⟩:=x;exact⟨_,e⟩
 |xn ps=>exact⟨_,(show h.get? a=some _ from x)⟩
 |met f y=>exact⟨_,(show h.get? a=some _ from x)⟩
 |ext φ=>obtain⟨_,⟨_,e⟩,_⟩:=x;exact⟨_,e⟩
section
variable {a:Expr}
def T8(hc:X.calm=true):mL X (.type "set") (λxs H Q=>∃p ns,xs=[.ref p]/\jc X.K H p (ns.map V.int)/\ns.length<=4000/\∀l,H l=none->Q (.ref l) (Ua H l (.ext (iZ (!xG X.w) l (oK ns))))):=by
 intro aa s σ H xs us Q I r h;obtain⟨p,ns,rfl,hq,hl,q⟩:=h;obtain⟨u,rfl,rx⟩:=vals1 r;cases rx;obtain⟨Ga,r',pl,hz⟩:=I.list hq;have Ya:=r'.length;rw[uc]at Ya;refine bEi (ns:=ns) (I.ok.hd hc) pl.isList (by simpa using xD r') (by rw[List.size_toArray,<-Ya];show ns.length+1<4096;omega) λh' tk hS hk=>?_
 rw[show Ga.toArray.size=ns.length by rw[De,Ya],FQ ns _ (Cb _),OG]at hS
 obtain⟨es,ep,t,hIs⟩:=id hS;exact⟨.ref s.heap.objs.size,_,I.laid (t':=tk) (o:=.ext (iZ (!xG X.w) s.heap.objs.size (oK ns))) hk (Cb _) ⟨hS,⟨_,hIs.obj⟩,λh1 h2 x k=>x.keep k⟩,rfl,q _ (I.Ra.fresh (Cb _))⟩
def U8(hc:X.calm=true):mL X (.builtin "sorted") (λxs H Q=>∃p ns,xs=[.ref p]/\H p=some (.ext (iZ (!xG X.w) p ns))/\ns.length<64/\∀l,H l=none->Q (.ref l) (Ua H l (.lst ((Rk ns).map V.int)))):=by
 intro aa s σ H xs us Q I r h;obtain⟨p,ns,rfl,hq,hn,q⟩:=h;obtain⟨u,rfl,rx⟩:=vals1 r;cases rx;obtain⟨hS,_,_⟩:=I.Ra _ _ hq;refine S8 (I.ok.hd hc) hS hn λD h' d tk out Gi c ho hp hw hk hD hd=>?_
 obtain rfl:=bIm hp hw;have A0:H D=none:=by
  cases hH:H D with
  |none=>rfl
  |some o=>
   obtain⟨u,e⟩:=Z_ (I.Ra D o hH);exact absurd (hD D u e) (Cg _)
 have sm:aY H (Ua H D (.lst ((Rk ns).map V.int))):=bT A0;have hl:(Rk ns).length=ns.length:=(OC ns).length_eq;refine⟨.ref D,Ua H D (.lst ((Rk ns).map V.int)),I.step (g':=s.gens) (d':=d) (t':=tk) (ch:=[]) (λ_ z=>nomatch z) (λb o _ _ _ e _=>hk b o e) (λb o _ _ _ e _=>⟨o.slots,hk b o e⟩) (λb o _ e n=>by rw[bF (Hd (hD b o e))];exact n) (λb o _ e=>⟨o,hk b o e⟩) (λb xs e=>sm _ _ e) (λb o u e=>sm _ _ e) (λb ps e=>⟨#[],by rw[sm _ _ e];simp⟩) (λm ⟨o,es,ep,ho,r⟩=>⟨o,es,ep,hk _ o ho,r⟩) (λb o e=>?_) I.bare,rfl,q _ A0⟩
 by_cases hb:b=D
 .subst hb;rw[bL]at e;cases e;exact⟨by rw[uc,hl,Km];omega,out.toList,c,oS ho,by simpa using hd⟩
 .rw[bF hb]at e;exact(I.Ra b _ e).Ae (λb v _ q=>hk b v q) (λb q=>sm _ _ q) λb xs q=>sm _ _ q
theorem pS{K:Frag}{H:Hp}:∀(l:List Int),bC K H (l.map D.int) (l.map V.int)
 |[]=>.nil
 |_::l=>.cons (bM.mpr rfl) (pS l)
def B'(hm:X.mg "sorted"=none)(xI:X.mg "set"=none)(hc:X.calm=true)(ha:PE X a (tP X.K B f))(hg:Gl X "sorted":=by rfl)(cg:Gl X "set":=by rfl)(hs:starEach [.Call (.Name "set" p1) [a] [] p2] X.env=(false,eval (.Call (.Name "set" p1) [a] [] p2) X.env)::starEach [] X.env:=by rfl)
  (Ud:starEach [a] X.env=(false,eval a X.env)::starEach [] X.env:=by rfl):PE X (.Call (.Name "sorted" p0) [.Call (.Name "set" p1) [a] [] p2] [] pos) (tI X.K B (e1 Cs f)):=by
 refine cL (qR (U8 hc) hg hm PyProof.Rows.boot_sorted (cM (pK (T8 hc) cg xI MZ (cM ha fL Ud) (he:=Ud)) fL hs) (he:=hs)) ?_
 rintro σ H Q ⟨A,st,d,rs,hd,q⟩;obtain⟨x,hx,h2⟩:=R.ja hd;cases x<;>first|(cases h2;done)|skip
 rename_i xs;obtain⟨l,hl,h3⟩:=R.ja h2;obtain⟨c,h4⟩:=aJ h3;cases h4;refine⟨A,st,_,rs,hx,λv H1 s1 r1=>?_⟩
 obtain⟨p,vs,e,h6,r6⟩:=r1.lst;rw[wF hl]at r6;rw[FC r6]at h6;exact⟨p,l,by rw[e],h6,c.1,λn hn=>⟨n,_,rfl,bL,c.2,λm Kg=>q _ _ (s1.trans ((bT hn).trans (bT Kg))) (jF (rs.own.mono (s1.trans (bT hn))) Kg (pS _))⟩⟩
end
section
variable {o x:Expr} {h:Ex}
def JW{K:Frag} {t:Bool} {ks:List D} (rx:lG K A H (.jd t ks ds) v):∃a,v=.ref a/\Bw H a:=by
 rcases rx with h|⟨a,kk,o,Pz,vs,e,e2,h,ko,r⟩
 .obtain⟨a,vs,e,q,r⟩:=sW.mp h;rcases q with ⟨_,ma,q1,_,_⟩|⟨_,ma,q1,_,_⟩
  .exact⟨a,e,.inl ⟨ma,.inl (bA _ _ _ _ q1)⟩⟩
  .exact⟨a,e,.inr ⟨ma,.inl (bA _ _ _ _ q1)⟩⟩
 .cases kk<;>cases e;rcases ko with ⟨_,ma,q1,_⟩|⟨_,ma,q1,_⟩
  .subst q1;exact⟨a,e2,.inl ⟨ma,.inl h⟩⟩
  .subst q1;exact⟨a,e2,.inr ⟨ma,.inl h⟩⟩
def OU{K:Frag} {k z r:D} {u y:V} (hv:v=.ref a) (rx:lG K A H d v) (ry:Va K (hide A H) k u) (rz:Va K (hide A H) z y) (hd:jq d k z=.ok r):∃ov,zM H a u ov/\Va K (hide A H) r (ov.getD y):=by
 unfold jq at hd;split at hd
 .obtain⟨hk,h2⟩:=aJ hd;obtain⟨a',ov,e3,g,hs,g2⟩:=Lx rx (ry.mono (bA _ _)) hk;rw[hv]at e3;cases e3;refine⟨ov,g,?_⟩;split at h2
  .obtain⟨w,rfl,Te⟩:=g2 r (pX h2);exact Te
  .rename_i hn;cases h2;have:ov=none:=by
    cases ov with
    |none=>rfl
    |some w=>exact absurd (hs.symm.trans rfl) hn
   rw[this];exact rz
 .cases hd
def qS{k z r:D}(hd:jq d k z=.ok r):∃t ks vs,d=.jd t ks vs:=by
 unfold jq at hd;split at hd
 .exact⟨_,_,_,rfl⟩
 .cases hd
def bIn(hu:X.A.units+64<cLine)(ho:PE X o (tP X.K B f))(he:PE X e (tI X.K B g))(m1:attributeBase o "get" X.env (eval o X.env)=eval o X.env:=by rfl)
  (m2:((backTo Aa (starEach [e] X.env)).all (λx=>!x.1)&&(backToKw Aa (keywordEach [] X.env)).all (λx=>x.1.isSome)
   && decide (([e]:List Expr).length+([]:List Keyword).length+(if ([]:List Keyword).isEmpty then 0 else 1)<30))=true:=by rfl)
  (m3:(Oa.endLine==Aa.line)=true:=by rfl) (m4:backTo Aa (starEach [e] X.env)=[(false,eval e X.env)]:=by rfl):PE X (.Call (.Attribute o "get" Oa) [e] [] Aa) (tI X.K B (Qt f g (eC .Gb))):=by
 refine cL (w9 (by omega) ho he ⟨m1,m2,m3,m4⟩) ?_
 rintro σ H Q ⟨A,st,r,rs,hr,q⟩;obtain⟨d,hd,h2⟩:=R.ja hr;obtain⟨k,hk,h3⟩:=R.ja h2;have h4:jq d k .Gb=.ok r:=h3;refine⟨A,st,d,rs,hd,λv H1 s1 rx=>?_⟩
 obtain⟨t,ks,vs,rfl⟩:=qS h4;obtain⟨a,rfl,hD⟩:=JW rx;refine⟨a,rfl,hD,A,st,k,rs.mono s1,hk,λu H2 s2 ry=>?_⟩
 obtain⟨ov,g1,g2⟩:=OU rfl (rx.mono s2) ry (sV.mpr rfl) h4;exact⟨ov,g1,q _ H2 (s1.trans s2) g2⟩
def bIo(hu:X.A.units+64<cLine)(ho:PE X o (tP X.K B f))(he:PE X e (tI X.K B g))(hx:PE X x (tI X.K B h))(m1:attributeBase o "get" X.env (eval o X.env)=eval o X.env:=by rfl)
  (m2:((backTo Aa (starEach [e,x] X.env)).all (λx=>!x.1)&&(backToKw Aa (keywordEach [] X.env)).all (λx=>x.1.isSome)
   && decide (([e,x]:List Expr).length+([]:List Keyword).length+(if ([]:List Keyword).isEmpty then 0 else 1)<30))=true:=by rfl)
  (m3:(Oa.endLine==Aa.line)=true:=by rfl) (m4:backTo Aa (starEach [e,x] X.env)=[(false,eval e X.env),(false,eval x X.env)]:=by rfl):PE X (.Call (.Attribute o "get" Oa) [e,x] [] Aa) (tI X.K B (Qt f g h)):=by
 refine cL (A9 (by omega) ho he hx ⟨m1,m2,m3,m4⟩) ?_
 rintro σ H Q ⟨A,st,r,rs,hr,q⟩;obtain⟨d,hd,h2⟩:=R.ja hr;obtain⟨k,hk,h3⟩:=R.ja h2;obtain⟨z,hz,h4⟩:=R.ja h3;refine⟨A,st,d,rs,hd,λv H1 s1 rx=>?_⟩
 obtain⟨t,ks,vs,rfl⟩:=qS h4;obtain⟨a,rfl,hD⟩:=JW rx;refine⟨a,rfl,hD,A,st,k,rs.mono s1,hk,λu H2 s2 ry=>⟨A,st,z,rs.mono (s1.trans s2),hz,λy H3 s3 rz=>?_⟩⟩
 obtain⟨ov,g1,g2⟩:=OU rfl (rx.mono (s2.trans s3)) (ry.mono (aY.hide s3)) rz h4;exact⟨ov,g1,q _ H3 (s1.trans (s2.trans s3)) g2⟩
end
section
variable {a b:Expr}
def bIp(i j:Nat){y fx:Str}{k jj:Nat} {cp:Pos} (h:Ha X.prog X.w X.K X.mg X.base fx k 2 p) (hr:Kb jj X.A) (hk:k<=jj) (he:PE X e (tI X.K B f)) (hN:X.N.Nodup) (hi:X.N[i]?=some x:=by rfl) (hj:X.N[j]?=some y:=by rfl)
  (hx:Loc X.env.scope x:=by first|exact Or.inl rfl|exact Or.inr rfl) (hv:Sf X.env.scope y:=by first|exact Or.inl rfl|exact Or.inr (Or.inl rfl)|exact Or.inr (Or.inr rfl)) (hd:(y==("__debug__":Str))=false:=by decide) (Ec:(y==("__classdict__":Str))=false:=by decide)
  (hg:Gl X fx:=by rfl) (Ig:(fx==("__debug__":Str))=false:=by decide) (qb:attributeBase (.Name y p1) "pop" X.env (eval (.Name y p1) X.env)=eval (.Name y p1) X.env:=by rfl) (ub:(Oa.endLine==Aa.line)=true:=by rfl)
  (Ud:starEach [.Call (.Attribute (.Name y p1) "pop" Oa) [] [] Aa] X.env=(false,eval (.Call (.Attribute (.Name y p1) "pop" Oa) [] [] Aa) X.env)::starEach [] X.env:=by rfl)
  (dg:starEach [e,.Call (.Attribute (.Name y p1) "pop" Oa) [] [] Aa] X.env=(false,eval e X.env)::starEach [.Call (.Attribute (.Name y p1) "pop" Oa) [] [] Aa] X.env:=by rfl)
  (hpl:(backTo cp (starEach [.Call (.Attribute (.Name y p1) "pop" Oa) [] [] Aa] X.env)).any (·.1)=false:=by rfl)
  (hs:swapsWith (.Call (.Name fx p0) [e,.Call (.Attribute (.Name y p1) "pop" Oa) [] [] Aa] [] cp) (some (.Name x pos')) pos.line X.env=pure false:=by rfl)
  (hf:X.fn x=true\/X.env.scope.names.lookup x=some .local:=by first|exact .inl rfl|exact .inr rfl|assumption) :
  PS X (.Assign [.Name x pos'] (.Call (.Name fx p0) [e,.Call (.Attribute (.Name y p1) "pop" Oa) [] [] Aa] [] cp) pos) (tS X.K B (Ay i j p f)):=by
 obtain⟨fa,fd,ps,F,m,kp,bd⟩:=h.ex;refine iY (Gn hN hi hx (zS F (hr.mono hk) hg m kp bd .nil xt (cM he (cM (Vx Gq yz NZ bG9 (mQ hj hv hd Ec) qb ub) fL Ud) dg) Ig dg hpl) hs hf) ?_
 rintro Dn σ H ⟨A,st,r,rs,hr,pc⟩;obtain⟨x',vj,h3⟩:=R.ja hr;split at h3
 .rename_i ys e1;split at h3
  .rename_i d ed;obtain⟨c,h4⟩:=aJ h3;obtain⟨y',hy,h5⟩:=R.ja h4;cases h5;obtain⟨l,o,vs,e2,ml,h1,ko,q,u⟩:=rs.lst j _ ys e1;have eo:o=.lst vs:=ko;subst eo;refine⟨A,st,x',rs,vj,λv H' s rv=>?_⟩
   have ql:=q.length;have q':=q.mono (aY.hide s);rw[LY]at ed;obtain⟨w,hw,Te⟩:=q'.get ed;obtain⟨w1,w2⟩:=(rs.mono s).write e1 e2 (k1:=.l) (ds:=ys.dropLast) (vs':=vs.dropLast) rfl (by
    rw[OZ,OZ,ql];exact q'.take _)
   refine⟨.ref l,e2,.inl ⟨rfl,vs,jc.of (s _ _ h1)⟩,l,vs,w,rfl,rfl,s _ _ h1,by rw[ql];exact hw,?_⟩
   have hh:hide (A++B) (Ua H' l (.lst vs.dropLast))=hide (A++B) H':=oV (Dd _ ml);refine⟨A++B,[x',d],y',w1.own,?_,rfl,hy,λz H3 s3 r3=>pc A _ H3 ((Le.of s).trans (w2.trans (Le.of s3))) ((w1.mono s3).set i r3)⟩
   rw[hh];exact .cons rv (.cons Te .nil)
  .cases h3
 .cases h3
end
section
variable {a b:Expr} {r:zd}
def bIq(ha:PA X es (tA X.K B r))(hb:PE X b (tP X.K B g)):PE X (.BinOp (.List es p1) .Mult b pos) (tI X.K B (vm r g)):=by
 refine cL (QE YU (Ux ha) hb) ?_
 rintro σ H Q ⟨A,st,d,rs,hd,q⟩;obtain⟨xs,hx,h2⟩:=R.ja hd;obtain⟨y,hy,h3⟩:=R.ja h2;obtain⟨j,rfl,h4⟩:=tM h3;obtain⟨⟨c0,c1,c2,c3⟩,h5⟩:=aJ h4;cases h5;refine⟨A,st,xs,rs,hx,λvs H1 s1 r1=>⟨by rw[r1.length];exact lim c0,λp hp=>?_⟩⟩
 have s2:=s1.trans (bT (o:=.lst vs) hp);refine⟨A,st,_,rs.mono s2,hy,λv H2 s3 r2=>?_⟩
 refine⟨p,j,vs,rfl,r2.int,s3 _ _ bL,by omega,by omega,by rw[r1.length];exact lim c1,λn hn=>?_⟩
 refine q _ _ (s2.trans (s3.trans (bT hn))) (jF (rs.own.mono (s2.trans s3)) hn ?_);exact((r1.mono (aY.hide (bT hp))).mono (aY.hide s3)).rep j.toNat
end
def Yk(ma more:List (gb×V)):List (gb×V):=more.foldl (λqa p=>Vb qa p.1 p.2) ma
def D'(more:List (gb×V)):∀ma:List (gb×V),(Yk ma more).length<=ma.length+more.length:=by
 induction more with
 |nil=>intro ma;exact Cb _
 |cons p more ih=>
  intro ma;have h1:=ih (Vb ma p.1 p.2);have h2:=qT ma p.1 p.2;show (Yk (Vb ma p.1 p.2) more).length<=_;rw[Qd];omega
def KV.mrg{more:List (gb×V)}{us:List (gb×Value)}(r2:KV more us):∀{ma:List (gb×V)} {vs:List (gb×Value)},KV ma vs->KV (Yk ma more) (merged vs us):=by
 induction r2 with
 |nil=>exact λr=>r
 |@cons p q more us h _ ih=>
  intro ma vs r;obtain⟨e,rv⟩:=h;have z:=ih (KV.put r p.1 rv);show KV (Yk (Vb ma p.1 p.2) more) (merged (stored vs q.1 q.2) us);rw[<-e];exact z
section
variable {σ:L2.St} {b:Addr} {A:Around} {ma more:List (gb×V)} {k:gb} {r:Value}
def bLj(I:xa X aa σ H s)(e:H a=some (.dK ma))(e2:H b=some (.dK more))(ne:a≠b)(hl:ma.length+more.length<=sizeLine)(h:∀s',xa X aa σ (Ua H a (.dK (Yk ma more))) s'->Q .none s'):wpAny (model X.prog X.w) A (call (.builtin "dict.update") [.ref a,.ref b]) Q E s:=by
 obtain⟨z,hd,vs,rel,dd⟩:=Dk I.Ra e;obtain⟨z2,hd2,qi,Zv,KH⟩:=Dk I.Ra e2;refine Hm QY dd.typeIs PySem.F.entry_dict_update (PySem.F.args_dict_update_2 _ _) (meets_dict_update (dN X.prog X.w) a b ne hd2) ⟨vs,qi,dd,KH,by rw[<-rel.length,<-Zv.length];exact hl,λh' Yh _ hs=>h _ ?_⟩
 have he:∃q,h'.get? a=some q:=let ⟨q,_,_,hq,_⟩:=Yh;⟨q,hq⟩;exact Zr (t':=s.toks) I (by rw[e];exact True.intro) hs he (Wx (Zd (D' more ma) hl) hd (KV.mrg Zv rel) Yh)
def bIr(I:xa X aa σ H s)(e:H a=some (.dK ma))(ry:RelV (kV k) u)(rv:RelV v r)(hl:ma.length+1<=sizeLine)
  (h1:∀w',vD ma k=some w'->∀u' s',RelV w' u'->xa X aa σ H s'->Q u' s') (h2:vD ma k=none->∀s',xa X aa σ (Ua H a (.dK (Vb ma k v))) s'->Q r s'):wpAny (model X.prog X.w) A (call (.builtin "dict.setdefault") [.ref a,u,r]) Q E s:=by
 obtain⟨z,hd,vs,rel,dd⟩:=Dk I.Ra e;refine Hm DY dd.typeIs PySem.F.entry_dict_setdefault (PySem.F.args_dict_setdefault_3 _ _ _) (kt_meets_setdefault (dN X.prog X.w) a (Bk ry) hd r) ⟨vs,dd,by rw[<-rel.length];exact z,λv' Ml=>?_,λhn h' Yh hs=>?_⟩
 .have q:=rel.val k;rw[Ml]at q;cases e3:vD ma k with
  |none=>rw[e3]at q;exact q.elim
  |some w'=>
   rw[e3]at q;exact h1 w' e3 _ _ q (I.tok _)
 .have q:=rel.val k;rw[hn]at q;cases e3:vD ma k with
  |some w'=>rw[e3]at q;exact q.elim
  |none=>
   have he:∃q,h'.get? a=some q:=let ⟨q,_,_,hq,_⟩:=Yh;⟨q,hq⟩;exact h2 e3 _ (Zr I (by rw[e];exact True.intro) hs he (Wx (by have:=qT ma k v;omega) hd (KV.put rel k rv) Yh))
end
theorem KW{K:Frag}{H:Hp}:∀(more:List (gb×V)) (es:List D) (ma:List (gb×V)) (ds:List D),bC K H es (more.map (·.2))->bC K H ds (ma.map (·.2))->
  (Yk ma more).map (λp=>gQ p.1)=(Ai (ma.map λp=>gQ p.1) ds (more.map λp=>gQ p.1) es).1/\bC K H (Ai (ma.map λp=>gQ p.1) ds (more.map λp=>gQ p.1) es).2 ((Yk ma more).map (·.2))
 |[],es,ma,ds,_,r=>by
  refine⟨?_,?_⟩
  .show ma.map _=(Ai _ _ [] es).1;unfold Ai;rfl
  .show bC K H (Ai _ _ [] es).2 (ma.map _);unfold Ai;exact r
 |p::more,[],ma,ds,h,r=>by
  have:=h.length;simp at this
 |p::more,d::es,ma,ds,h,r=>by
  obtain⟨v,vs,e,r1,r2⟩:=bN.mp h;rw[wc]at e;injection e with e1 e2
  subst e1 e2;obtain⟨z1,z2⟩:=Kx Ip p.1 p.2 d r1 ma ds r;have ih:=KW more es (Vb ma p.1 p.2) _ r2 z2;rw[z1]at ih;exact ih
def bN5:V->List V->Hp->VK->Prop:=λx vs H Q=>∃a b ma more,x=.ref a/\vs=[.ref b]/\H a=some (.dK ma)/\H b=some (.dK more)/\a≠b/\ma.length+more.length<=sizeLine/\Q .Gb (Ua H a (.dK (Yk ma more)))
def bIs:yi X "dict.update" bN5:=by
 intro aa s σ H x vs v us Q I rx rv h;obtain⟨a,b,ma,more,rfl,rfl,e,e2,ne,hl,q⟩:=h;cases rx;obtain⟨u,rfl,ru⟩:=rv.one;cases ru;exact bLj I e e2 ne hl λs' I'=>⟨.Gb,_,I',rfl,q⟩
section
def EX(i:Nat){x:Str} (he:PE X e (tI X.K B f)) (hN:X.N[i]?=some x:=by rfl) (hv:Sf X.env.scope x:=by first|exact Or.inl rfl|exact Or.inr (Or.inl rfl)|exact Or.inr (Or.inr rfl)) (hd:(x==("__debug__":Str))=false:=by decide)
  (Ec:(x==("__classdict__":Str))=false:=by decide) (qb:attributeBase (.Name x p1) "update" X.env (eval (.Name x p1) X.env)=eval (.Name x p1) X.env:=by rfl)
  (md:((backTo Aa (starEach [e] X.env)).all (λx=>!x.1)&&(backToKw Aa (keywordEach [] X.env)).all (λx=>x.1.isSome)
   && decide (([e]:List Expr).length+([]:List Keyword).length+(if ([]:List Keyword).isEmpty then 0 else 1)<30))=true:=by rfl)
  (ub:(Oa.endLine==Aa.line)=true:=by rfl) (hs:starEach [e] X.env=(false,eval e X.env)::starEach [] X.env:=by rfl)
  (Mg:swapsWith (.Call (.Attribute (.Name x p1) "update" Oa) [e] [] Aa) none pos.line X.env=pure false:=by rfl) :
  PS X (.Expr (.Call (.Attribute (.Name x p1) "update" Oa) [e] [] Aa) pos) (tS X.K B (Rt i f)):=by
 refine iY (Dp (tm Fq QY PySem.F.type_dict_update bIs (mQ hN hv hd Ec) (cM he fL hs) qb md ub hs rfl) Mg) ?_
 rintro Dn σ H ⟨A,st,r,rs,hr,p⟩;obtain⟨d,hd,h3⟩:=R.ja hr;split at h3
 .rename_i sA qi;split at h3
  .rename_i ks ds e1;obtain⟨⟨c1,c2⟩,h4⟩:=aJ h3;cases h4;obtain⟨l,o,vs,e2,m,h1,ko,q,u⟩:=rs.lst i _ _ e1;rcases ko with ⟨_,ma,rfl,rfl,rfl⟩|⟨z,_⟩
   .refine⟨.ref l,e2,.inr (.inr (.inl ⟨rfl,.inl ⟨ma,h1⟩⟩)),A,st,_,rs,hd,λv H' s rv=>?_⟩
    obtain⟨b,us,rfl,hb,rr⟩:=sW.mp rv;rcases hb with ⟨_,more,hb,rfl,rfl⟩|⟨z,_⟩
    .have uf:H' b=some (.dK more):=bA _ _ _ _ hb;have Lf:l∈A++B:=Dd _ m;have ne:l≠b:=λz=>by rw[<-z,cY Lf]at hb;cases hb
     have ql:=q.length;have rl:=rr.length;rw[uc]at ql rl;refine⟨l,b,ma,more,rfl,rfl,s _ _ h1,uf,ne,by rw[ql,rl];rw[jH]at c2;exact Zd c2 (by decide),?_⟩
     obtain⟨z1,z2⟩:=KW more qi ma ds rr (q.mono (aY.hide s));obtain⟨w1,w2⟩:=(rs.mono s).write e1 e2 (k1:=.d false (Ai (ma.map λp=>gQ p.1) ds (more.map λp=>gQ p.1) qi).1) (.inl ⟨rfl,Yk ma more,rfl,z1,rfl⟩) z2
     exact p A _ _ ((Le.of s).trans w2) w1
    .cases z
   .cases z
  .cases h3
 .cases h3
end
def bLk:V->List V->Hp->VK->Prop:=λx vs H Q=>∃a ma k v,x=.ref a/\vs=[kV k,v]/\H a=some (.dK ma)/\ma.length+1<=sizeLine/\(∀w',vD ma k=some w'->Q w' H)/\(vD ma k=none->Q v (Ua H a (.dK (Vb ma k v))))
def bEq:yi X "dict.setdefault" bLk:=by
 intro aa s σ H x vs v us Q I rx rv h;obtain⟨a,ma,k,v',rfl,rfl,e,hl,q1,q2⟩:=h;cases rx;obtain⟨u1,u2,rfl,r1,r2⟩:=rv.two;exact bIr I e r1 r2 hl (λw' hw u' s' ru I'=>⟨w',H,I',ru,q1 w' hw⟩) λhn s' I'=>⟨v',_,I',r2,q2 hn⟩
section
variable {e1 e2:Expr}
def bIt(i:Nat){x:Str} (hk:PE X e1 (tI X.K B g)) (he:PE X e2 (tI X.K B f)) (hN:X.N[i]?=some x:=by rfl) (hv:Sf X.env.scope x:=by first|exact Or.inl rfl|exact Or.inr (Or.inl rfl)|exact Or.inr (Or.inr rfl)) (hd:(x==("__debug__":Str))=false:=by decide)
  (Ec:(x==("__classdict__":Str))=false:=by decide) (qb:attributeBase (.Name x p1) "setdefault" X.env (eval (.Name x p1) X.env)=eval (.Name x p1) X.env:=by rfl)
  (md:((backTo Aa (starEach [e1,e2] X.env)).all (λx=>!x.1)&&(backToKw Aa (keywordEach [] X.env)).all (λx=>x.1.isSome)
   && decide (([e1,e2]:List Expr).length+([]:List Keyword).length+(if ([]:List Keyword).isEmpty then 0 else 1)<30))=true:=by rfl)
  (ub:(Oa.endLine==Aa.line)=true:=by rfl) (hs:starEach [e1,e2] X.env=(false,eval e1 X.env)::starEach [e2] X.env:=by rfl) (Ud:starEach [e2] X.env=(false,eval e2 X.env)::starEach [] X.env:=by rfl)
  (hpl:(backTo Aa (starEach [e2] X.env)).any (·.1)=false:=by rfl)
  (Mg:swapsWith (.Call (.Attribute (.Name x p1) "setdefault" Oa) [e1,e2] [] Aa) none pos.line X.env=pure false:=by rfl) :
  PS X (.Expr (.Call (.Attribute (.Name x p1) "setdefault" Oa) [e1,e2] [] Aa) pos) (tS X.K B (By i g f)):=by
 refine iY (Dp (tm Fq DY PySem.F.type_dict_setdefault bEq (mQ hN hv hd Ec) (cM hk (cM he fL Ud) hs) qb md ub hs hpl) Mg) ?_
 rintro Dn σ H ⟨A,st,r,rs,hr,p⟩;obtain⟨k,hk,h2⟩:=R.ja hr;obtain⟨d,hd,h3⟩:=R.ja h2;split at h3
 .rename_i ks ds e3;obtain⟨⟨c1,c2⟩,h4⟩:=aJ h3;cases h4;obtain⟨l,o,vs,e4,m,h1,ko,q,u⟩:=rs.lst i _ _ e3;rcases ko with ⟨_,ma,rfl,rfl,rfl⟩|⟨z,_⟩
  .refine⟨.ref l,e4,.inr (.inr (.inl ⟨rfl,.inl ⟨ma,h1⟩⟩)),A,st,k,rs,hk,λv1 H1 s1 r1=>⟨A,st,d,rs.mono s1,hd,λv2 H2 s2 r2=>?_⟩⟩
   obtain⟨k',e5,e6⟩:=yD r1 c1;subst e5 e6;have ql:=q.length;rw[uc]at ql;have q2:=q.mono (aY.hide (s1.trans s2));have an:oH (ma.map λp=>gQ p.1) (gQ k')=(vD ma k').isSome:=by rw[<-MC,NR (E:=gQ) Ip]
   refine⟨l,ma,k',v2,rfl,rfl,(s1.trans s2) _ _ h1,by rw[ql];rw[jH]at c2;exact Zd c2 (by decide),λw' hw=>?_,λhn=>?_⟩
   .rw[hw]at an;have AF:oH (ma.map λp=>gQ p.1) (gQ k')=true:=an
    rw[Na AF]at p;exact p A _ _ (Le.of (s1.trans s2)) (rs.mono (s1.trans s2))
   .rw[hn]at an;have AF:oH (ma.map λp=>gQ p.1) (gQ k')=false:=an
    rw[La (by rw[AF];exact Ef)]at p
    obtain⟨z1,z2⟩:=Kx Ip k' v2 d r2 ma ds q2;obtain⟨w1,w2⟩:=(rs.mono (s1.trans s2)).write e3 e4 (k1:=.d false (oJ (ma.map λp=>gQ p.1) (gQ k'))) (.inl ⟨rfl,Vb ma k' v2,rfl,z1,rfl⟩) z2
    exact p A _ _ ((Le.of (s1.trans s2)).trans w2) w1
  .cases z
 .cases h3
end
def IF(v d:Addr):HO:=.ext λh=>h.IsValuesView v d
section
def V8:yi X "dict.values" (λx vs H Q=>∃(d:Addr) (ma:List (gb×V)),x=.ref d/\vs=[]/\H d=some (.dK ma)/\∀n,H n=none->Q (.ref n) (Ua H n (IF n d))):=by
 intro aa s σ H x vs v us Q I rx rv h;obtain⟨d,ma,rfl,rfl,hd,q⟩:=h;cases rx;have Wo:=rv.zero;subst Wo;obtain⟨hz,hs,xs,kv,hD⟩:=Dk I.Ra hd;refine Hm RY hD.typeIs PySem.F.entry_dict_values (PySem.F.args_dict_values_1 _) (meets_dict_values (dN X.prog X.w) d hs) ⟨⟨xs,hD⟩,?_⟩;have e:(s.heap.push {cls:=.type "dict_values",data:=.fields #[.ref d]}).get? s.heap.objs.size=some {cls:=.type "dict_values",data:=.fields #[.ref d]}:=Pd _ rfl;exact⟨.ref s.heap.objs.size,_,I.laid (o:=IF s.heap.objs.size d) (t':=s.toks) (λb u q=>Tb _ q) (Cb _) ⟨⟨_,e,rfl,rfl⟩,⟨_,e⟩,λh1 h2 ⟨o,ho,hc,hd⟩ k=>⟨o,k o ho,hc,hd⟩⟩,rfl,q _ (I.Ra.fresh (Cb _))⟩
def W8(hc:X.calm=true):mL X (.builtin "max") (λvs H Q=>∃(v d:Addr) (ma:List (gb×V)) (is:List Int),vs=[.ref v]/\H v=some (IF v d)/\H d=some (.dK ma)/\ma.map (·.2)=is.map V.int/\0<is.length/\Q (.int (Sg is)) H):=by
 intro aa s σ H vs us Q I r h;obtain⟨v,d,ma,is,rfl,hv,hd,hi,hp,q⟩:=h;obtain⟨u,rfl,ru⟩:=r.one;obtain rfl:u=Value.ref v:=ru;obtain⟨hz,hs,xs,kv,hD⟩:=Dk I.Ra hd;obtain⟨ep,Um⟩:=hD.dictAt;have hvw:s.heap.IsValuesView v d:=(I.Ra v _ hv).1;have Ee:d≠s.heap.objs.size:=Hd Um.lt_size;have Ya:xs.length=is.length:=by
  have h1:=kv.length;have h2:=congrArg List.length hi;rw[uc,uc]at h2;omega
 have num:∀(i:Nat)(w:Value),(∃k,xs[i]?=some (k,w))->∃t,w=.int (is.getD i 0) t:=λi w ⟨k,e⟩=>by
  obtain⟨p,e1,_,e3⟩:=oy kv e;have e4:(ma.map (·.2))[i]?=some p.2:=by rw[Vg,e1];rfl
  rw[hi,Vg]at e4;cases e5:is[i]? with
  |none=>rw[e5]at e4;cases e4
  |some n=>
   rw[e5]at e4;have e6:V.int n=p.2:=by simpa using e4
   rw[<-e6]at e3;obtain⟨t,e7⟩:=e3;exact⟨t,by rw[e7,xf,e5];rfl⟩
 refine call_max_walk (wpAny_pyIter_values hvw Um ?_);refine⟨_,_,_,_,_,_,_,rfl,Walks.dictValues (knd:=dN X.prog X.w) (A:=X.A.in1) (I.ok.hd hc) s.heap.objs.size d Ee xs ep,⟨⟨_,Pd _ rfl,rfl,rfl⟩,Um.push _⟩,λb hb=>?_,by omega,CmpOf.ints_gt (λi=>is.getD i 0) num,λw h' tk hP hk=>?_⟩
 .rw[qg];rcases Nb.mp hb with rfl|hb
  .exact Sq _
  .rw[cc.mp hb];exact MG Um.lt_size
 .obtain⟨t,rfl⟩:=num _ _ hP;refine⟨.int (Sg is),H,I.kept λb o e=>hk b o (λhm=>?_) (Tb _ e),⟨t,?_⟩,q⟩
  .rw[cc.mp hm]at e;exact absurd (dc e) (Cg _)
  .congr 1;obtain⟨h1,h2⟩:=argBest_gt (λi=>is.getD i 0) (xs.length-1)
   have hb:argBest (λi j=>decide (is.getD i 0>is.getD j 0)) (xs.length-1)<is.length:=by omega
   refine(As ?_ λx hx=>?_).symm
   .rw[xf,Pc hb];exact Wf _
   .obtain⟨i,Oe,rfl⟩:=io.mp hx;have:=h2 i (by omega)
    rwa [xf,Pc Oe]at this
end
section
variable {a:Expr}
def bIu(hm:X.mg "max"=none)(hc:X.calm=true)(ha:PE X a (tI X.K B f))(hg:Gl X "max":=by rfl)(qb:attributeBase a "values" X.env (eval a X.env)=eval a X.env:=by rfl)(ub:(Oa.endLine==Aa.line)=true:=by rfl)
  (hs:starEach [.Call (.Attribute a "values" Oa) [] [] Aa] X.env=(false,eval (.Call (.Attribute a "values" Oa) [] [] Aa) X.env)::starEach [] X.env:=by rfl):PE X (.Call (.Name "max" p0) [.Call (.Attribute a "values" Oa) [] [] Aa] [] pos) (tI X.K B (e1 Cy f)):=by
 refine cL (qR (W8 hc) hg hm (by rfl) (cM (Vx Fq RY PySem.F.type_dict_values V8 ha qb ub) fL hs) (he:=hs)) ?_
 rintro σ H Q ⟨A,st,d,rs,hd,q⟩;obtain⟨x,hx,h2⟩:=R.ja hd;refine⟨A,st,x,rs,hx,λv H1 s1 r1=>?_⟩
 unfold Cy at h2;split at h2
 .rename_i ks ds;obtain⟨l,h3,h4⟩:=R.ja h2;obtain⟨c,h5⟩:=aJ h4;cases h5;obtain⟨p,vs,rfl,h6,r4⟩:=sW.mp r1;rcases h6 with ⟨_,ma,h7,rfl,rfl⟩|⟨z,_⟩
  .have h8:=bA _ _ _ _ h7;rw[wF h3]at r4;refine⟨.inr (.inr (.inl ⟨rfl,.inl ⟨ma,h8⟩⟩)),p,ma,rfl,rfl,h8,λn hn=>⟨n,p,ma,l,rfl,bL,by rw[bF (bB h8 hn)];exact h8,eD r4,c,q _ _ (s1.trans (bT hn)) (bM.mpr rfl)⟩⟩
  .cases z
 .cases h2
end
def rS{ss:List Stmt}:Dc X ss (tS X.K B nO):=by
 intro aa s σ H Dn I h;obtain⟨A,st,r,_,hr,_⟩:=h;cases hr
section
variable {a b:Expr} {r:zd} {q:Pos}
def LW(ha:PA X es (tA X.K B r))(hb:PE X b (tP X.K B g)):PE X (.BinOp (.List es p1) .Mult b pos) (tF X.K B (vm r g)):=by
 refine cL (QE YU (Ux ha) hb) ?_
 rintro σ H Q ⟨A,st,d,rs,hd,q⟩;obtain⟨xs,hx,h2⟩:=R.ja hd;obtain⟨y,hy,h3⟩:=R.ja h2;obtain⟨j,rfl,h4⟩:=tM h3;obtain⟨⟨c0,c1,c2,c3⟩,h5⟩:=aJ h4;cases h5;refine⟨A,st,xs,rs,hx,λvs H1 s1 r1=>⟨by rw[r1.length];exact lim c0,λp hp=>?_⟩⟩
 have s2:=s1.trans (bT (o:=.lst vs) hp);refine⟨A,st,_,rs.mono s2,hy,λv H2 s3 r2=>?_⟩
 refine⟨p,j,vs,rfl,r2.int,s3 _ _ bL,by omega,by omega,by rw[r1.length];exact lim c1,λn hn=>q _ _ _ (s2.trans s3) hn ?_⟩
 exact((r1.mono (aY.hide (bT hp))).mono (aY.hide s3)).rep j.toNat
def P5:mL X (.type "range") (λvs H Q=>∃i j:Int,vs=[.int i,.int j]/\∀r,H r=none->Q (.ref r) (Ua H r (.uk i j))):=by
 intro aa s σ H vs us Q I r h;obtain⟨i,j,rfl,q⟩:=h;obtain⟨u1,u2,rfl,⟨t1,rfl⟩,⟨t2,rfl⟩⟩:=r.two;exact call_range_2 ⟨.ref s.heap.objs.size,_,I.laid (a:=s.heap.objs.size) (o:=.uk i j) (λb o e=>Tb _ e) (Cb _) ⟨_,_,_,Pd _ rfl⟩,rfl,q _ (I.Ra.fresh (Cb _))⟩
def YL(hc:X.calm=true):mL X (.type "list") (λvs H Q=>∃r,∃i j:Int,vs=[.ref r]/\H r=some (.uk i j)/\-10000000<=i/\i<=10000000/\-10000000<=j/\j<=10000000/\j-i<=10000000/\∀n,H n=none->Q (.ref n) (Ua H n (.lst ((List.range (j-i).toNat).map λ(k:Nat)=>V.int (i+(k:Int)))))):=by
 intro aa s σ H vs us Q I r h;obtain⟨l,i,j,rfl,hl,h1,h2,h3,h4,h5,q⟩:=h;obtain⟨u,rfl,ru⟩:=r.one;obtain rfl:u=Value.ref l:=ru;obtain⟨t,u,v,ho⟩:=(show ∃t u v,s.heap.get? l=some {cls:=.type "range",data:=.fields #[.int i t,.int j u,.int 1 v]} from I.Ra l _ hl)
 have hn:Builtin.Range.rangeSize i j 1=((j-i).toNat:Nat):=by rw[rangeSize_one];split<;>omega
 refine call_list_range (I.ok.hd hc) ho (small_one (by omega) (by omega) (by omega) (by omega)) hn (by omega) λh' tk qa c' hk hs hi=>?_
 refine⟨.ref s.heap.objs.size,_,I.laid (o:=.lst ((List.range (j-i).toNat).map λ(k:Nat)=>V.int (i+(k:Int)))) (t':=tk) hk (Cb _) ⟨?_,qa.toList,c',?_,by simpa using hs⟩,rfl,q _ (I.Ra.fresh (Nat.le_refl _))⟩
 .rw[uc,Im,Km];omega
 .obtain⟨h3,h4⟩:=hi;have key:∀(n:Nat)(xs:List Value),xs.length=n->(∀(k:Nat) w,xs[k]?=some w->∃t,w=.int (i+(k:Int)*1) t)->Ea ((List.range n).map λ(k:Nat)=>V.int (i+(k:Int))) xs:=by
   intro n
   induction n with
   |zero=>intro xs hx _;rw[jl.mp hx];exact .nil
   |succ n ih=>
    intro xs hx hp;obtain⟨ys,y,rfl⟩:∃ys y,xs=ys++[y]:=by
     rcases KZ xs with e|⟨ys,y,e⟩
     .rw[e]at hx;simp at hx
     .exact⟨ys,y,by rw[e,LZ]⟩
    have hy:ys.length=n:=by simpa using hx
    rw[List.range_succ,Hf];refine(ih ys hy λk w hk=>?_).append (.cons ?_ .nil)
    .exact hp k w (by rw[Vi (Kd.mp hk).1];exact hk)
    .obtain⟨t,e⟩:=hp n y (by rw[bu (by omega),hy];simp)
     exact⟨t,by rw[e];simp⟩
  exact key _ _ (by simpa using h3) λk w hk=>by
   obtain⟨t,e⟩:=h4 k w (by simpa using hk)
   exact⟨t,e⟩
def EN{K:Frag} (i:Int) (n:Nat):bC K H (iC i n) ((List.range n).map λ(k:Nat)=>V.int (i+(k:Int))):=by
 unfold iC;generalize List.range n=l
 induction l with
 |nil=>exact .nil
 |cons x l ih=>exact .cons (bM.mpr rfl) ih
def X8(hm:X.mg "list"=none)(hr:X.mg "range"=none)(hc:X.calm=true)(ha:PE X a (tP X.K B f))(hb:PE X b (tP X.K B g))(hg:Gl X "list":=by rfl)(cg:Gl X "range":=by rfl)(hs:starEach [a,b] X.env=(false,eval a X.env)::starEach [b] X.env:=by rfl)(dg:starEach [b] X.env=(false,eval b X.env)::starEach [] X.env:=by rfl)(hp1:(backTo q (starEach [b] X.env)).any (·.1)=false:=by rfl)(Ud:starEach [Expr.Call (.Name "range" p1) [a,b] [] q] X.env=(false,eval (.Call (.Name "range" p1) [a,b] [] q) X.env)::starEach [] X.env:=by rfl) :
  PE X (.Call (.Name "list" p0) [.Call (.Name "range" p1) [a,b] [] q] [] pos) (tF X.K B (NX f g)):=by
 refine cL (pK (YL hc) hg hm (by rfl) (cM (pK P5 cg hr boot_range (cM ha (cM hb fL dg) hs) (he:=hs) (hpl:=hp1)) fL Ud) (he:=Ud)) ?_
 rintro σ H Q ⟨A,st,d,rs,hd,qq⟩;obtain⟨x,hx,h2⟩:=R.ja hd;obtain⟨y,hy,h3⟩:=R.ja h2;obtain⟨i,rfl,h4⟩:=tM h3;obtain⟨j,rfl,h5⟩:=tM h4;obtain⟨c,h6⟩:=aJ h5;cases h6;rw[jH]at c;refine⟨A,st,_,rs,hx,λv H1 s1 r1=>⟨A,st,_,rs.mono s1,hy,λu H2 s2 r2=>⟨i,j,by rw[r1.int,r2.int],λr hr=>⟨r,i,j,rfl,bL,by omega,by omega,by omega,by omega,by omega,λn hn=>?_⟩⟩⟩⟩
 exact qq _ _ _ (s1.trans (s2.trans (bT hr))) hn (EN _ _)
def YX(hm:X.mg "list"=none)(hr:X.mg "range"=none)(hc:X.calm=true)(ha:PE X a (tP X.K B f))(hg:Gl X "list":=by rfl)(cg:Gl X "range":=by rfl)(hs:starEach [a] X.env=(false,eval a X.env)::starEach [] X.env:=by rfl)(Ud:starEach [Expr.Call (.Name "range" p1) [a] [] q] X.env=(false,eval (.Call (.Name "range" p1) [a] [] q) X.env)::starEach [] X.env:=by rfl) :
  PE X (.Call (.Name "list" p0) [.Call (.Name "range" p1) [a] [] q] [] pos) (tI X.K B (e1 Bs f)):=by
 refine cL (pK (YL hc) hg hm (by rfl) (cM (bIb hr (cM ha fL hs) cg hs) fL Ud) (he:=Ud)) ?_
 rintro σ H Q ⟨A,st,d,rs,hd,qq⟩;obtain⟨x,hx,h2⟩:=R.ja hd;refine⟨A,st,x,rs,hx,λv H1 s1 r1=>?_⟩
 cases x<;>first|(cases h2;done)|skip
 rename_i j;obtain⟨c,h3⟩:=aJ h2;cases h3;rw[jH]at c;refine⟨j,by rw[r1.int],λr hr=>⟨r,0,j,rfl,bL,by omega,by omega,by omega,by omega,by omega,λn hn=>?_⟩⟩
 have w1:=rs.own.mono (s1.trans (bT (o:=.uk 0 j) hr));rw[Int.sub_zero];exact qq _ _ (s1.trans ((bT hr).trans (bT hn))) (jF w1 hn (EN _ _))
def d7{j:Int} (h:Pu.lc n j=some m):seqIndex? j n=some m:=by
 unfold Pu.lc at h;unfold seqIndex?;split at h
 .split at h
  .cases h;rename_i a b;rw[show (if j<0 then j+(n:Int) else j)=j from La (by omega)]
   simp_all
  .cases h
 .split at h
  .cases h
   simp_all
   omega
  .cases h
def J'(i j:Nat){x y:Str}{p3 a1 a2 c1 c2:Pos}(he:PE X e (tP X.K B f))(hi:X.N[i]?=some x:=by rfl)(hj:X.N[j]?=some y:=by rfl)
  (hv:Sf X.env.scope x:=by first|exact Or.inl rfl|exact Or.inr (Or.inl rfl)|exact Or.inr (Or.inr rfl)) (hd:(x==("__debug__":Str))=false:=by decide) (Ec:(x==("__classdict__":Str))=false:=by decide)
  (hv2:Sf X.env.scope y:=by first|exact Or.inl rfl|exact Or.inr (Or.inl rfl)|exact Or.inr (Or.inr rfl)) (hd2:(y==("__debug__":Str))=false:=by decide) (VH:(y==("__classdict__":Str))=false:=by decide)
  (hb1:attributeBase (.Name x p2) "append" X.env (eval (.Name x p2) X.env)=eval (.Name x p2) X.env:=by rfl) (Fh:attributeBase (.Name y p3) "pop" X.env (eval (.Name y p3) X.env)=eval (.Name y p3) X.env:=by rfl)
  (mI:(a1.endLine==c1.line)=true:=by rfl) (I0:(a2.endLine==c2.line)=true:=by rfl)
  (uv:((backTo c1 (starEach [.Call (.Attribute (.Name y p3) "pop" a2) [e] [] c2] X.env)).all (λx=>!x.1)&&(backToKw c1 (keywordEach [] X.env)).all (λx=>x.1.isSome)
   && decide (([.Call (.Attribute (.Name y p3) "pop" a2) [e] [] c2]:List Expr).length+([]:List Keyword).length+(if ([]:List Keyword).isEmpty then 0 else 1)<30))=true:=by rfl)
  (vv:((backTo c2 (starEach [e] X.env)).all (λx=>!x.1)&&(backToKw c2 (keywordEach [] X.env)).all (λx=>x.1.isSome)
   && decide (([e]:List Expr).length+([]:List Keyword).length+(if ([]:List Keyword).isEmpty then 0 else 1)<30))=true:=by rfl)
  (dg:starEach [.Call (.Attribute (.Name y p3) "pop" a2) [e] [] c2] X.env=(false,eval (.Call (.Attribute (.Name y p3) "pop" a2) [e] [] c2) X.env)::starEach [] X.env:=by rfl) (Ud:starEach [e] X.env=(false,eval e X.env)::starEach [] X.env:=by rfl)
  (Mg:swapsWith (.Call (.Attribute (.Name x p2) "append" a1) [.Call (.Attribute (.Name y p3) "pop" a2) [e] [] c2] [] c1) none pos.line X.env=pure false:=by rfl) :
  PS X (.Expr (.Call (.Attribute (.Name x p2) "append" a1) [.Call (.Attribute (.Name y p3) "pop" a2) [e] [] c2] [] c1) pos) (tS X.K B (OS i j f)):=by
 refine iY (Dp (tm Gq cz PY dP (mQ hi hv hd Ec) (cM (tm Gq yz NZ s9 (mQ hj hv2 hd2 VH) (cM he fL Ud) Fh vv I0 Ud rfl) fL dg) hb1 uv mI dg rfl) Mg) ?_
 rintro Dn σ H ⟨A,st,r,rs,hr,p⟩;obtain⟨d,hd,h3⟩:=R.ja hr;obtain⟨n,rfl,h4⟩:=tM h3;split at h4
 .rename_i xs ys e1 e2;obtain⟨m,hm,h5⟩:=R.ja h4;obtain⟨y',hy,h6⟩:=R.ja h5;obtain⟨⟨c1,c2,c3⟩,h7⟩:=aJ h6;cases h7;obtain⟨l,o,vs,i2,ml,h1,ko,qx,u⟩:=rs.lst i _ xs e1;have eo:o=.lst vs:=ko;subst eo;obtain⟨l',o',ws,j2,ml',Wz,tJ,qy,u'⟩:=rs.lst j _ ys e2;have LH:o'=.lst ws:=tJ;subst LH;have Kg:=pX hm;have Ol:=pX hy;refine⟨.ref l,i2,.inl ⟨rfl,vs,jc.of h1⟩,.ref l',j2,.inl ⟨rfl,ws,jc.of Wz⟩,A,st,_,rs,hd,λv H' s rv=>?_⟩
  have vn:=rs.mono s;have VJ:=qy.mono (aY.hide s);obtain⟨w,hw,Te⟩:=VJ.get Ol;obtain⟨w1,w2⟩:=vn.write e2 j2 (k1:=.l) (ds:=ys.eraseIdx m) (vs':=ws.eraseIdx m) rfl (by
   rw[au,au];exact(VJ.take m).append (VJ.drop (m+1)))
  have lt:m<ys.length:=by
   obtain⟨z,_⟩:=Kd.mp Ol;exact z
  have nlt : -(ys.length:Int)<=n/\n<ys.length:=by
   unfold Pu.lc at Kg;split at Kg
   .split at Kg
    .omega
    .cases Kg
   .split at Kg
    .omega
    .cases Kg
  have hb:=jH;refine⟨l',ws,n,m,w,rfl,by rw[rv.int],s _ _ Wz,by omega,by omega,by rw[qy.length];exact d7 Kg,hw,?_⟩
  have yf:(st.set j (some (.o .l (ys.eraseIdx m))))[i]?=some (some (.o .l xs)):=by rw[kl (tf c2)];exact e1
  obtain⟨l2,o2,qi,i3,ml2,OH,ko2,q2,u2⟩:=w1.lst i _ xs yf;have eo2:o2=.lst qi:=ko2;subst eo2;have el:l2=l:=by
   have z:=i3.symm.trans i2;injection z with z
   injection z with z
   injection z
  subst el;have hh:hide (A++B) (Ua H' l' (.lst (ws.eraseIdx m)))=hide (A++B) H':=oV (Dd _ ml');obtain⟨w3,w4⟩:=w1.write yf i2 (k1:=.l) (ds:=xs++[y']) (vs':=qi++[w]) rfl (q2.append (.cons (by rw[hh];exact Te) .nil))
  exact⟨l2,qi,w,rfl,rfl,OH,by rw[q2.length];rw[jH]at c1;exact ue c1 (by decide),p A _ _ ((Le.of s).trans (w2.trans w4)) w3⟩
 .cases h4
def bIv(j:Nat) {ge:Expr} {p3:Pos} (hg:∀B,PE X ge (tP X.K B g)) (he:∀B,PE X e (tI X.K B f)) (Nd:i≠j:=by decide) (hN:X.N[j]?=some x:=by rfl) (hv:Sf X.env.scope x:=by first|exact Or.inl rfl|exact Or.inr (Or.inl rfl)|exact Or.inr (Or.inr rfl)) (hd:(x==("__debug__":Str))=false:=by decide)
  (Ec:(x==("__classdict__":Str))=false:=by decide)
  (ha:∀v,assign (.Subscript (.Name x p2) ge p3) X.env v=(do
   let ov <- holding [v] (eval (.Name x p2) X.env)
   let iv <- holding [v,ov] (eval ge X.env)
   standAt p3
   holding [v,ov,iv] (setItem ov iv v)
   release [v,ov,iv] []):=by intro _;rfl)
  (hs:swapsWithSole [.Subscript (.Name x p2) ge p3] e pos.line X.env=pure false:=by rfl) (hw:swappedStores [.Subscript (.Name x p2) ge p3] e X.env=pure none:=by rfl)
  (h1:(assignEach [.Subscript (.Name x p2) ge p3] X.env).map (·.2)=[assign (.Subscript (.Name x p2) ge p3) X.env]:=by rfl) :
  PS X (.Assign [.Subscript (.Name x p2) ge p3] e pos) (tN X.K B i (VE j g f)):=by
 intro aa s σ H Dn I ⟨A,Z,st,P,ps,Xa,r,n,hr,q⟩;refine Qs (he (Z++B)) (Rx (mQ hN hv hd Ec) (hg (Z++B)) set_list ha) hs hw h1 aa s σ H Dn I ?_
 obtain⟨d,hd,h3⟩:=R.ja hr;obtain⟨y,hy,h4⟩:=R.ja h3;obtain⟨k,rfl,h5⟩:=tM h4;have rs:=n.rs;split at h5
 .rename_i xs e1;obtain⟨m,hn,h6⟩:=R.ja h5;cases h6;obtain⟨l,o,vs,e2,ml,h1,ko,qx,u⟩:=rs.lst j _ xs e1;have eo:o=.lst vs:=ko;subst eo;refine⟨A,st,d,rs,hd,λv H' s rv=>⟨.ref l,e2,A,st,_,rs.mono s,hy,λw H2 s2 cK=>?_⟩⟩
  have ql:=qx.length;have hk:L2.lc vs.length k=some m:=by rw[ql,cx];exact pX hn
  refine⟨l,vs,k,m,rfl,cK.int,(s.trans s2) _ _ h1,hk,?_⟩;obtain⟨w1,w2⟩:=(rs.mono (s.trans s2)).write e1 e2 (k1:=.l) (ds:=xs.set m d) (vs':=vs.set m v) rfl (bC.set (rv.mono (aY.hide s2)) m (qx.mono (aY.hide (s.trans s2))));have l2:=(Le.of (s.trans s2)).trans w2;exact q A _ _ (Ye.of l2) (n.step l2 w1 (by rw[Nn Nd];exact n.no) n.at_)
 .cases h5
end
section
def Ba(i:Nat) (hN:X.N[i]?=some x:=by rfl) (hv:Sf X.env.scope x:=by first|exact Or.inl rfl|exact Or.inr (Or.inl rfl)|exact Or.inr (Or.inr rfl)) (hd:(x==("__debug__":Str))=false:=by decide)
  (Ec:(x==("__classdict__":Str))=false:=by decide):PE X (.Name x pos) (tP X.K B (aB i)):=Ia (aF i hN hv hd Ec)
def Za{i:Int}:PE X (.Constant (.int i) j pos) (tP X.K B (eC (.int i))):=Ia cP
def fc{P:List Str}{sc:Scope}(h:N.Nodup/\N.take P.length=P/\(∀x∈P,sc.names.lookup x=some .local\/sc.names.lookup x=some .cell)/\∀y∈sc.names,y.2≠.free:=by decide+kernel)(k:sc.kind=.function:=by rfl)(co:sc.isCoroutine=false:=by rfl)(gen:sc.isGenerator=false:=by rfl):oa N P sc:=⟨k,co,gen,h.1,h.2.1,h.2.2.1,h.2.2.2⟩
def bW{k:Nat} {r:zd} (h:Ha X.prog X.w X.K X.mg X.base x k np p) (hr:Kb j X.A) (ha:PA X (e::es) (tA X.K B r)) (hk:k<=j:=by decide) (hg:Gl X x:=by rfl) (Ig:(x==("__debug__":Str))=false:=by decide)
  (he:starEach (e::es) X.env=(false,eval e X.env)::starEach es X.env:=by rfl) (hpl:(backTo pos (starEach es X.env)).any (·.1)=false:=by rfl):PE X (.Call (.Name x p0) (e::es) [] pos) (tI X.K B (aK p r)):=mF h hr hk ha hg Ig he hpl
end
end Pu
set_option maxHeartbeats 4000000
namespace Pu
open PySem PySem.Spec PyProof.Rows L2
def top(i:Nat):Stmt:=PySem.Challenge.pw_looprank_k34_whole_alike_needs_as_many.main.body.getD i (.Pass ⟨0,0,0,0⟩)
def Og(s:Stmt)(j:Nat):Stmt:=match s with
 |.ClassDef _ _ _ b _ _ _ _ _ _ _=>b.getD j (.Pass ⟨0,0,0,0⟩)
 |_=>.Pass ⟨0,0,0,0⟩
abbrev nB:Stmt:=top 54
abbrev QB:Stmt:=top 55
abbrev uD:Stmt:=top 56
abbrev yI:Stmt:=top 58
abbrev uE:Stmt:=top 59
abbrev RB:Stmt:=top 26
abbrev TB:Stmt:=top 27
abbrev GC:Stmt:=top 25
abbrev yJ:Stmt:=top 29
abbrev yK:Stmt:=top 31
abbrev vV:Stmt:=top 32
abbrev yL:Stmt:=top 33
abbrev oB:Stmt:=top 28
abbrev qB:Stmt:=top 30
abbrev vW:Stmt:=top 42
abbrev UB:Stmt:=top 35
abbrev HC:Stmt:=top 36
abbrev vX:Stmt:=top 40
abbrev vY:Stmt:=top 41
abbrev vZ:Stmt:=top 46
abbrev xB:Stmt:=top 22
abbrev rP:Stmt:=top 23
abbrev IC:Stmt:=top 34
abbrev AD:Stmt:=top 37
abbrev dO:Stmt:=Og (top 20) 3
abbrev VB:Stmt:=top 38
abbrev JC:Stmt:=top 47
abbrev uF:Stmt:=top 48
abbrev gE:Stmt:=top 49
abbrev uG:Stmt:=top 60
abbrev wA:Stmt:=top 62
abbrev wB:Stmt:=top 50
abbrev yM:Stmt:=top 43
abbrev uH:Stmt:=top 44
abbrev yN:Stmt:=top 45
abbrev uI:Stmt:=top 51
abbrev yB:Stmt:=top 61
abbrev pZ:Stmt:=top 16
abbrev WB:Stmt:=top 14
abbrev XB:Stmt:=top 15
abbrev BD:Stmt:=top 17
abbrev AB:Stmt:=top 18
abbrev BB:Stmt:=top 19
abbrev fJ:Stmt:=Og (top 20) 0
abbrev KC:Stmt:=top 52
abbrev CB:Stmt:=top 57
abbrev LC:Stmt:=top 9
abbrev yO:Stmt:=top 10
abbrev lH:Stmt:=Og (top 20) 1
abbrev jA:Stmt:=Og (top 20) 6
abbrev jB:Stmt:=Og (top 20) 7
abbrev Lk:Stmt:=top 63
theorem NM:oa ["_law_script","_law_k"] ["_law_script","_law_k"] (aH nB):=fc
theorem FN:oa ["_law_cell_here","_law_k","_law_many_here","_law_number"] ["_law_cell_here","_law_k","_law_many_here"] (aH QB):=fc
theorem zB:oa ["_law_script","_law_at","_law_most","_law_cell_here","_law_rooms","_law_letters","_law_factor","_law_steps","_law_ranks","_law_room","_law_one","_law_row","_law_rank","_law_k"] ["_law_script","_law_at","_law_most"] (aH uD):=fc
theorem ZL:oa ["_law_script","_law_many_here","_law_left","_law_order_here"] ["_law_script","_law_many_here"] (aH yI):=fc
theorem zE:oa ["_law_script","_law_steps","_law_ranks","_law_many_here","_law_order_here","_law_twins","_law_raised","_law_odd","_law_more","_law_room","_law_k","_law_goal"] ["_law_script","_law_steps","_law_ranks"] (aH uE):=fc
theorem GN:oa ["bits","room"] ["bits","room"] (aH RB):=fc
theorem HN:oa ["bits","room"] ["bits"] (aH TB):=fc
theorem NO:oa ["rooms","bits","room"] ["rooms"] (aH GC):=fc
theorem eM:oa ["steps","allowed","rooms","seen","room","middle"] ["steps","allowed"] (aH yJ):=fc
theorem kM:oa ["steps","part","rooms"] ["steps","part"] (aH yK):=fc
theorem DL:oa ["steps","allowed","seen","parts","room","part","other"] ["steps","allowed"] (aH vV):=fc
theorem mM:oa ["machine","allowed"] ["machine","allowed"] (aH yL):=fc
theorem OM:oa ["machine"] ["machine"] (aH oB):=fc
theorem PM:oa ["machine","room"] ["machine","room"] (aH qB):=fc
theorem EL:oa ["machine"] ["machine"] (aH vW):=fc
theorem JN:oa ["machine","bits","room"] ["machine","bits"] (aH UB):=fc
theorem OO:oa ["machine","bits"] ["machine","bits"] (aH HC):=fc
theorem FL:oa ["machine","loop","rank","room"] ["machine","loop"] (aH vX):=fc
theorem GL:oa ["machine","loop","found","left","rest","part"] ["machine","loop"] (aH vY):=fc
theorem uJ:oa ["machine","loop","good","longest","inner","row"] ["machine","loop","good"] (aH vZ):=fc
theorem QM:oa ["steps","start","allowed","ways","met","place","here","letter","room"] ["steps","start","allowed"] (aH xB):=fc
theorem xH:oa ["machine","ways"] ["machine"] (aH rP):=fc
theorem QO:oa ["machine","bits"] ["machine","bits"] (aH IC):=fc
theorem GQ:oa ["machine","allowed","room","goal"] ["machine","allowed","room","goal"] (aH AD):=fc
theorem pA:oa ["self","room","text","rooms","letter"] ["self","room","text"] (aH dO):=fc
theorem KN:oa ["machine","bits","room","text","here","goal"] ["machine","bits","room"] (aH VB):=fc
theorem RO:oa ["machine","row","entries","room","front","entry","loop"] ["machine","row"] (aH JC):=fc
theorem zF:oa ["machine","good","longest","loop","row"] ["machine","good"] (aH uF):=fc
theorem uS:oa ["machine"] ["machine"] (aH gE):=fc
theorem zG:oa ["_law_machine_here","_law_nest"] ["_law_machine_here"] (aH uG):=fc
theorem HL:oa ["_law_steps","_law_seen","_law_at","_law_goal"] ["_law_steps"] (aH wA):=fc
theorem IL:oa ["nest"] ["nest"] (aH wB):=fc
theorem sM:oa ["base","good"] ["base","good"] (aH yM):=fc
theorem rQ:oa ["machine","loop","base","ranks","rank","inner","room","below"] ["machine","loop","base"] (aH uH):=fc
theorem AM:oa ["machine","base","ranks","loop","room"] ["machine","base"] (aH yN):=fc
theorem zH:oa ["machine","told","good","bad"] ["machine"] (aH uI):=fc
theorem RM:oa ["_law_machine_here","_law_steps","_law_seen","_law_found","_law_papers","_law_room"] ["_law_machine_here","_law_steps"] (aH yB):=fc
theorem uY:oa ["thing","most"] ["thing","most"] (aH pZ):=fc
theorem LN:oa ["thing"] ["thing"] (aH WB):=fc
theorem MN:oa ["thing","limit"] ["thing","limit"] (aH XB):=fc
theorem HQ:oa ["thing","letters","rooms","room"] ["thing","letters","rooms"] (aH BD):=fc
theorem SM:oa ["thing","row"] ["thing"] (aH AB):=fc
theorem TM:oa ["thing","rooms","rank"] ["thing","rooms"] (aH BB):=fc
theorem sI:oa ["self","steps","ranks","row"] ["self","steps","ranks"] (aH fJ):=fc
theorem SO:oa ["machine"] ["machine"] (aH KC):=fc
theorem UM:oa ["_law_cell_here","_law_letters","_law_least","_law_most","_law_size","_law_k"] ["_law_cell_here","_law_letters","_law_least","_law_most"] (aH CB):=fc
theorem UO:oa ["thing","many"] ["thing","many"] (aH LC):=fc
theorem CM:oa ["thing","many"] ["thing","many"] (aH yO):=fc
theorem pJ:oa ["self","thing"] ["self","thing"] (aH lH):=fc
theorem zJ:oa ["self","word","room","rooms","begun","ahead"] ["self","word","room"] (aH jA):=fc
theorem zK:oa ["self","word","room","ring","place"] ["self","word","room"] (aH jB):=fc
theorem MW:oa ["_law_script","_law_machine_here","_law_other","_law_low","_law_below","_law_cell_here","_law_steps","_law_ranks","_law_twins","_law_raised","_law_word_here","_law_truths","_law_one"] ["_law_script"] (aH Lk):=fc
section
variable{P:Program}{w:World}{K:Frag}{mg:Str->Option Value}{base:Heap}{fa:Addr}{fd:FuncData}{dV:Value}
variable(bR:mg "len"=none)
include bR in
theorem Q5(F:Pa K "_law_cell" "_law_cell" nB dV fa fd):Ja P w K mg base yb 1 fa fd ["_law_script","_law_k"] (Sb K 2 cI):=by
 refine cR (k:=0) F NM 2 2 XM rfl rfl λQa A outer s H E B hr=>?_
 have nd:=NM.nd;refine aQ (pG (dX vy Ox (Ba 1) (Ia (gO bR (Ba 0))) (cJ _)) (aZ (cF (dJ hr.units (Ba 0) (Ba 1)))) jG) ?_
 refine aQ (pG (dX (nR hr.units) nU (Ba 0) (Ia (pI aM)) (cJ _)) (aZ (cF (oZ Za (Ba 1)))) jG) ?_
 exact aZ (cF (gG (Ia (Xp (Ia (dJ hr.units (Ba 0) (Ia (rZ (Ba 1) (Ia (gO bR (Ba 0))))))) (Ia (gG (Ba 1) Za)))) (Ia (oZ Za (Ba 1)))))
theorem f7(F:Pa K "_law_mix" "_law_mix" QB dV fa fd):Ja P w K mg base yb 1 fa fd ["_law_cell_here","_law_k","_law_many_here"] (Sb K 3 bI):=by
 refine cR (k:=0) F FN 3 4 DB rfl rfl λQa A outer s H E B hr=>?_
 have nd:=FN.nd;refine aQ (cN 3 (rZ (Ia (oZ (Ia (gG (Ia (rZ (Ba 0) Za)) (Ia (oZ Za (Ba 1))))) Za)) Za) nd) ?_
 refine aQ (cN 3 (rZ (Ia (oZ (Ia (rZ (Ia (oZ (Ba 3) (Ba 3))) Za)) Za)) Za) nd) ?_
 exact aZ (cF (rZ (Ia (rZ (Ia (oZ (Ba 3) (Ba 3))) Za)) (Ba 2)))
variable(dF:Ha P w K mg base "_law_cell" 1 2 cI)
variable(bV:Ha P w K mg base "_law_mix" 1 3 bI)
variable(cW:mg "range"=none)
include dF bV cW in
theorem F4(F:Pa K "_law_machine" "_law_machine" uD dV fa fd):Ja P w K mg base yb 2 fa fd ["_law_script","_law_at","_law_most"] (Sb K 3 kE):=by
 refine cR (k:=1) F zB 3 14 ZK rfl rfl λQa A outer s H E B hr=>?_
 have nd:=zB.nd;refine aQ (cN 3 (bW dF hr (aC (aF 0) (aC (aF 1) aM))) nd) ?_
 refine aQ (cN 4 (gG Za (Ia (bW bV hr (aC (aF 3) (aC cP (aC (aF 2) aM)))))) nd) ?_
 refine aQ (cN 5 (gG Za (Ia (bW bV hr (aC (aF 3) (aC cP (aC cP aM)))))) nd) ?_
 refine aQ (cN 6 (dJ hr.units (Ia (pI (aC cP (aC cP (aC cP (aC (gG Za (Ia (oZ Za (Ia (rZ (Ia (bW dF hr (aC (aF 0) (aC (gG (Ba 1) Za) aM)))) (Ia (iX Za Za))))))) aM)))))) (Ia (bW bV hr (aC (aF 3) (aC cP (aC cP aM)))))) nd) ?_
 refine aQ (vP 7 (xm aM) nd) ?_
 refine aQ (vP 8 (xm aM) nd) ?_
 refine aQ (sH (Kk cW (Ba 4)) (cV 9 nd) (aQ (by exact cN 10 (bW dF hr (aC (aF 0) (aC (gG (Ia (gG (Ba 1) Za)) (Ba 9)) aM))) nd) (by exact aQ (by exact JU 11 [13] nD (.of rfl) (Kk cW (Ba 5)) (λ_ _ _ _ _=>cV 13 nd) (λ_ _ _ _ _=>bW bV hr (aC (aF 10) (aC (gG Za (Ba 13)) (aC (aF 4) aM)))) rfl nd) (by exact aQ (by exact cN 12 (bW bV hr (aC (aF 10) (aC cP (aC cP aM)))) nd) (by exact aQ (by exact pG (dX (nR hr.units) nU (Ia (bW bV hr (aC (aF 3) (aC cP (aC cP aM))))) Za (cJ _)) (aQ (by exact JU 11 [13] nD (.of rfl) (Kk cW (Ba 5)) (λ_ _ _ _ _=>cV 13 nd) (λ_ _ _ _ _=>rZ (Ia (Xp (Ba 10) (Ia (dJ hr.units (Ia (pI (aC cP (aC cP (aC cP aM))))) (Ba 13))))) (Ba 4)) rfl nd) (by exact aZ (cN 12 (rZ (Ia (Xp (Ba 10) Za)) Za) nd))) (aZ (pG (PW.pt (sF (dX (nR hr.units) nU (Ia (bW bV hr (aC (aF 3) (aC cP (aC cP aM))))) Za (cJ _)) (ME (dX wt jt (Ia (bW bV hr (aC (aF 10) (aC cP (aC cP aM))))) Za (cJ _))))) (aZ (bLb 11 (Ia (bW bV hr (aC (aF 10) (aC cP (aC (aF 5) aM))))) (rZ (Ia (gG (Ba 9) Za)) (Ba 4)))) jG))) (by exact aQ (by exact Vk [11] (Vn 7 (aF 11))) (by exact aZ (Vn 8 (oZ (Ba 12) (Ba 6))))))))) cf rfl) ?_
 exact aZ (Vk [7,8] (cF (Tj (aC (aF 7) (aC (aF 8) aM)))))
variable(iJ:mg "list"=none)
include bR dF bV cW iJ in
theorem t5(F:Pa K "_law_order" "_law_order" yI dV fa fd):Ja P w K mg base yb 2 fa fd ["_law_script","_law_many_here"] (Sb K 2 sJ):=by
 refine cR (k:=1) F ZL 2 4 DM rfl rfl λQa A outer s H E B hr=>?_
 have nd:=ZL.nd;refine aQ (vP 2 (X8 iJ cW rfl Za (Ba 1)) nd) ?_
 refine aQ (vP 3 (xm (aC cP aM)) nd) ?_
 refine aQ (Ks 100000 (dX (vR hr.units) vU (gU 2) (Ia (pI aM)) (cJ _)) (aZ (J' 3 2 (Ia (bW bV hr (aC (bW dF hr (aC (aF 0) (aC (gG Za (Ia (gO bR (gU 2)))) aM))) (aC cP (aC (gO bR (gU 2)) aM))))))) cf) ?_
 exact aZ (Vk [3] (cF (aF 3)))
variable(sX:Ha P w K mg base "_law_order" 2 2 sJ)
include bR dF bV cW sX in
theorem G4(F:Pa K "_law_doubled" "_law_doubled" uE dV fa fd):Ja P w K mg base yb 3 fa fd ["_law_script","_law_steps","_law_ranks"] (Sb K 3 kI):=by
 refine cR (k:=2) F zE 3 12 gL rfl rfl λQa A outer s H E B hr=>?_
 have nd:=zE.nd;exact aQ (by exact cN 3 (oZ Za (Ia (gO bR (Ba 1)))) nd) (by exact aQ (by exact cN 4 (bW sX hr (aC (aF 0) (aC (aF 3) aM))) nd) (by exact bEa (i:=5) [9] (by exact Zp (bI8 6 (λ_=>LW (aC cP aM) (Ba 3)) nd) (Zp (GF 7 (λ_=>gG Za (Ia (oZ Za (Ia (bW bV hr (aC (bW dF hr (aC (aF 0) (aC cP aM))) (aC cP (aC cP aM)))))))) nd) (Zp (GF 8 (λ_=>oZ Za (Ia (rZ (Ia (bW dF hr (aC (aF 0) (aC cP aM)))) (Ia (dJ hr.units (Ia (pI (aC cP (aC cP (aC (iX Za Za) aM))))) (Ia (bW bV hr (aC (bW dF hr (aC (aF 0) (aC cP aM))) (aC cP (aC cP aM)))))))))) nd) (Zp (BX 9 (λ_=>Kk cW (Ba 3)) (Zp (BX 10 (λ_=>Kk cW (Ia (gO bR (Ia (dJ hr.units (Ba 1) Za))))) (Zp (GF 11 (λ_=>gG (Ia (oZ Za (Ia (dJ hr.units (Ia (dJ hr.units (Ba 1) (Ia (Xp (Ba 9) Za)))) (Ba 10))))) (Ia (bW bV hr (aC (bW dF hr (aC (aF 0) (aC (gG Za (Ba 9)) aM))) (aC (gG Za (Ba 10)) (aC cP aM)))))) nd) (AX (bLg (λ_=>Ia (dJ hr.units (Ba 4) (Ba 9))) (λ_=>Ba 10) (λ_=>dJ hr.units (Ba 4) (Ba 11))))) cf rfl nd) (AX (bIv 6 (λ_=>Ia (dJ hr.units (Ba 4) (Ba 9))) (λ_=>gG (Ia (oZ (Ia (dJ hr.units (Ba 2) (Ia (Xp (Ba 9) Za)))) (Ba 7))) (Ba 8))))) cf rfl nd) (ϸ (aZ (Vk [6] (cF (Tj (aC (aF 5) (aC (aF 6) aM))))))))))) nD (.of rfl) (Kk cW (Ba 3)) (λ_ _ _ _ _=>cV 9 nd) (λ_ _ _ _ _=>LW (aC cP aM) (Ia (gO bR (Ia (dJ hr.units (Ba 1) Za))))) rfl nd))
theorem i7(F:Pa K "has_room" "has_room" RB dV fa fd):Ja P w K mg base yb 1 fa fd ["bits","room"] (Sb K 2 iG):=by
 refine cR (k:=0) F GN 2 2 EB rfl rfl λQa A outer s H E B hr=>?_
 have nd:=GN.nd;exact aZ (cF (mV (nR hr.units) nU (Ia (HW (Ia (bLe (Ba 0) (Ba 1))) Za)) Za (cJ _)))
variable(cO:Ha P w K mg base "has_room" 1 2 iG)
include cW cO in
theorem j7(F:Pa K "rooms_of" "rooms_of" TB dV fa fd):Ja P w K mg base yb 2 fa fd ["bits"] (Sb K 1 cT):=by
 refine cR (k:=1) F HN 1 2 GB rfl rfl λQa A outer s H E B hr=>?_
 have nd:=HN.nd;exact aZ (cF (jx [1] nD (.of rfl) (Kk cW (Ia (bIc (Ba 0)))) (λ_ _ _ _ _=>cV 1 nd) (λ_ _ _ _ _=>mW (bW cO hr (aC (aF 0) (aC (aF 1) aM)))) (λ_ _ _ _ _=>aF 1) rfl))
theorem Y8(F:Pa K "bits_of" "bits_of" GC dV fa fd):Ja P w K mg base yb 1 fa fd ["rooms"] (Sb K 1 lQ):=by
 refine cR (k:=0) F NO 1 3 kC rfl rfl λQa A outer s H E B hr=>?_
 have nd:=NO.nd;refine aQ (cN 1 cP nd) ?_
 refine aQ (sH (oW (aF 0)) (cV 2 nd) (aZ (cN 1 (HF (Ba 1) (Ia (DX Za (Ba 2)))) nd)) cf rfl) ?_
 exact aZ (cF (aF 1))
variable(bO:Ha P w K mg base "rooms_of" 2 1 cT)
variable(gB:Ha P w K mg base "bits_of" 1 1 lQ)
include cO bO gB in
theorem u5(F:Pa K "seen_among" "seen_among" yJ dV fa fd):Ja P w K mg base yb 3 fa fd ["steps","allowed"] (Sb K 2 lR):=by
 refine cR (k:=2) F eM 2 6 EM rfl rfl λQa A outer s H E B hr=>?_
 have nd:=eM.nd;refine aQ (cN 2 (bW bO hr (aC (aF 1) aM)) nd) ?_
 refine aQ (Nx 3 nd) ?_
 refine aQ (sH (oW (aF 2)) (cV 4 nd) (aZ (my hr.units 3 (aF 4) (HW (Ia (HF (Ia (bW gB hr (aC (dJ hr.units (Ba 0) (Ba 4)) aM))) (Ia (DX Za (Ba 4))))) (Ba 1)))) cf rfl) ?_
 refine aQ (sH (oW (aF 2)) (cV 5 nd) (aZ (sH (oW (aF 2)) (cV 4 nd) (aZ (pG (mW (bW cO hr (aC (dJ hr.units (gU 3) (Ba 4)) (aC (aF 5) aM)))) (aZ (my hr.units 3 (aF 4) (HF (Ia (dJ hr.units (gU 3) (Ba 4))) (Ia (dJ hr.units (gU 3) (Ba 5)))))) jG)) cf rfl)) cf rfl) ?_
 exact aZ (Vk [3] (cF (aF 3)))
include bR bO in
theorem v5(F:Pa K "goes_round" "goes_round" yK dV fa fd):Ja P w K mg base yb 3 fa fd ["steps","part"] (Sb K 2 sO):=by
 refine cR (k:=2) F kM 2 3 HM rfl rfl λQa A outer s H E B hr=>?_
 have nd:=kM.nd;refine aQ (cN 2 (bW bO hr (aC (aF 1) aM)) nd) ?_
 exact aZ (cF (bMy (mV wt jt (Ia (gO bR (Ba 2))) Za (cJ _)) (bL1 (mV (EW hr.units) FW (Ia (dJ hr.units (Ba 2) Za)) (Ia (dJ hr.units (Ba 0) (Ia (dJ hr.units (Ba 2) Za)))) rfl))))
variable(jM:Ha P w K mg base "seen_among" 3 2 lR)
variable(sY:Ha P w K mg base "goes_round" 3 2 sO)
include cO bO gB jM sY in
theorem T4(F:Pa K "parts_among" "parts_among" vV dV fa fd):Ja P w K mg base yb 4 fa fd ["steps","allowed"] (Sb K 2 qC):=by
 refine cR (k:=3) F DL 2 7 LL rfl rfl λQa A outer s H E B hr=>?_
 have nd:=DL.nd;refine aQ (cN 2 (bW jM hr (aC (aF 0) (aC (aF 1) aM))) nd) ?_
 refine aQ (vP 3 (xm aM) nd) ?_
 refine aQ (sH (oW (bW bO hr (aC (aF 1) aM))) (cV 4 nd) (aQ (by exact cN 5 (bW gB hr (aC (jx [6] nD (.of rfl) (oW (bW bO hr (aC (dJ hr.units (Ba 2) (Ba 4)) aM))) (λ_ _ _ _ _=>cV 6 nd) (λ_ _ _ _ _=>mW (bW cO hr (aC (dJ hr.units (Ba 2) (Ba 6)) (aC (aF 4) aM)))) (λ_ _ _ _ _=>aF 6) rfl) aM)) nd) (by exact aZ (pG (PW.pt (sF (dX (wZ hr.units) xF (Ba 5) (gU 3) rfl) (ME (mW (bW sY hr (aC (aF 0) (aC (aF 5) aM))))))) (aZ (Vn 3 (aF 5))) jG))) cf rfl) ?_
 exact aZ (Vk [3] (cF (aF 3)))
variable(qN:Ha P w K mg base "parts_among" 4 2 qC)
variable{Ka:Addr}(ka:ClsAt K "Machine" Ka)
variable(aX:mR K Ka (Str.ofString "steps"))
include qN ka aX in
theorem w5(F:Pa K "loop_parts" "loop_parts" yL dV fa fd):Ja P w K mg base yb 5 fa fd ["machine","allowed"] (Sb K 2 lU):=by
 refine cR (k:=4) F mM 2 2 IM rfl rfl λQa A outer s H E B hr=>?_
 have nd:=mM.nd;exact aZ (cF (bW qN hr (aC (uB ka aX (Ba 0)) (aC (aF 1) aM))))
variable(bQ:mR K Ka (Str.ofString "many"))
include cW iJ gB ka bQ in
theorem R5(F:Pa K "all_rooms" "all_rooms" oB dV fa fd):Ja P w K mg base yb 2 fa fd ["machine"] (Sb K 1 qY):=by
 refine cR (k:=1) F OM 1 1 YM rfl rfl λQa A outer s H E B hr=>?_
 have nd:=OM.nd;exact aZ (cF (bW gB hr (aC (YX iJ cW rfl (Ia (uB ka bQ (Ba 0)))) aM)))
variable(uZ:Ha P w K mg base "all_rooms" 2 1 qY)
include jM ka aX uZ in
theorem S5(F:Pa K "seen_from" "seen_from" qB dV fa fd):Ja P w K mg base yb 4 fa fd ["machine","room"] (Sb K 2 uP):=by
 refine cR (k:=3) F PM 2 2 ZM rfl rfl λQa A outer s H E B hr=>?_
 have nd:=PM.nd;exact aZ (cF (dJ hr.units (Ia (bW jM hr (aC (uB ka aX (Ba 0)) (aC (bW uZ hr (aC (aF 0) aM)) aM)))) (Ba 1)))
variable(fK:Ha P w K mg base "loop_parts" 5 2 lU)
variable(vA:Ha P w K mg base "seen_from" 4 2 uP)
include fK vA in
theorem U4(F:Pa K "outer_loops" "outer_loops" vW dV fa fd):Ja P w K mg base yb 6 fa fd ["machine"] (Sb K 1 mX):=by
 refine cR (k:=5) F EL 1 1 ML rfl rfl λQa A outer s H E B hr=>?_
 have nd:=EL.nd;exact aZ (cF (bW fK hr (aC (aF 0) (aC (bW vA hr (aC (aF 0) (aC cP aM))) aM))))
variable(bY:mR K Ka (Str.ofString "ranks"))
variable(Oi:mg "max"=none)
include bO ka bY Oi in
theorem o7(F:Pa K "top_rank" "top_rank" UB dV fa fd):Ja P w K mg base yb 3 fa fd ["machine","bits"] (Sb K 2 tU):=by
 refine cR (k:=2) F JN 2 3 HB rfl rfl λQa A outer s H E B hr=>?_
 have nd:=JN.nd;refine aQ (pG (dX (nR hr.units) nU (Ba 1) Za (cJ _)) (aZ yG) jG) ?_
 exact aZ (cF (rX Oi rfl (Ia (uA [2] nD (.of rfl) (oW (bW bO hr (aC (aF 1) aM))) (λ_ _ _ _ _=>cV 2 nd) (λ_ _ _ _ _=>dJ hr.units (Ia (uB ka bY (Ba 0))) (Ba 2)) rfl))))
variable(nW:Ha P w K mg base "top_rank" 3 2 tU)
include nW in
theorem Z8(F:Pa K "is_good" "is_good" HC dV fa fd):Ja P w K mg base yb 4 fa fd ["machine","bits"] (Sb K 2 gW):=by
 refine cR (k:=3) F OO 2 2 oC rfl rfl λQa A outer s H E B hr=>?_
 have nd:=OO.nd;exact aZ (cF (mV (nR hr.units) nU (Ia (rZ (Ia (bW nW hr (aC (aF 0) (aC (aF 1) aM)))) Za)) Za (cJ _)))
include bO gB ka bY nW in
theorem V4(F:Pa K "without_top" "without_top" vX dV fa fd):Ja P w K mg base yb 4 fa fd ["machine","loop"] (Sb K 2 qD):=by
 refine cR (k:=3) F FL 2 4 NL rfl rfl λQa A outer s H E B hr=>?_
 have nd:=FL.nd;refine aQ (cN 2 (bW nW hr (aC (aF 0) (aC (aF 1) aM))) nd) ?_
 exact aZ (cF (bW gB hr (aC (jx [3] nD (.of rfl) (oW (bW bO hr (aC (aF 1) aM))) (λ_ _ _ _ _=>cV 3 nd) (λ_ _ _ _ _=>dX (vR hr.units) vU (Ia (dJ hr.units (Ia (uB ka bY (Ba 0))) (Ba 3))) (Ba 2) (cJ _)) (λ_ _ _ _ _=>aF 3) rfl) aM)))
variable(qO:Ha P w K mg base "without_top" 4 2 qD)
variable(jC:Ha P w K mg base "is_good" 4 2 gW)
include fK qO jC in
theorem W4(F:Pa K "inner_loops" "inner_loops" vY dV fa fd):Ja P w K mg base yb 6 fa fd ["machine","loop"] (Sb K 2 iH):=by
 refine cR (k:=5) F GL 2 6 OL rfl rfl λQa A outer s H E B hr=>?_
 have nd:=GL.nd;refine aQ (vP 2 (xm aM) nd) ?_
 refine aQ (vP 3 (xm (aC (aF 1) aM)) nd) ?_
 refine aQ (Ks 100000 (dX (vR hr.units) vU (gU 3) (Ia (pI aM)) (cJ _)) (aQ (by exact bIp 4 3 qO hr (by decide) (aF 0) nd) (by exact aZ (sH (oW (bW fK hr (aC (aF 0) (aC (aF 4) aM)))) (cV 5 nd) (aZ (pG (dX (nR hr.units) nU (Ia (bW jC hr (aC (aF 0) (aC (aF 5) aM)))) (Ia (bW jC hr (aC (aF 0) (aC (aF 1) aM)))) (cJ _)) (aZ (Vn 3 (aF 5))) (aZ (Vn 2 (aF 5))))) cf rfl))) cf) ?_
 exact aZ (Vk [2] (cF (aF 2)))
variable(iK:Ha P w K mg base "inner_loops" 6 2 iH)
include bR jC iK in
theorem X4{pr:List D->R D}{n:Nat}(gj:Ha P w K mg base "longest_row" (7+n) 3 pr)(F:Pa K "longest_row" "longest_row" vZ dV fa fd):Ja P w K mg base yb (7+n+1) fa fd ["machine","loop","good"] (Sb K 3 (cQ 3 6 (vI pr))):=by
 refine cR (k:=7+n) F uJ 3 6 (vI pr) rfl rfl λQa A outer s H E B hr=>?_
 have nd:=uJ.nd;refine aQ (cN 3 (Gy (dX (nR hr.units) nU (Ia (mF jC hr (by omega) (aC (aF 0) (aC (aF 1) aM)))) (Ba 2) (cJ _)) (pI (aC (aF 1) aM)) (pI aM)) nd) ?_
 refine aQ (sH (oW (mF iK hr (by omega) (aC (aF 0) (aC (aF 1) aM)))) (cV 4 nd) (aQ (by exact cN 5 (mF gj hr (by omega) (aC (aF 0) (aC (aF 4) (aC (aF 2) aM)))) nd) (by exact aZ (pG (dX wy iy (Ia (gO bR (Ba 5))) (Ia (gO bR (Ba 3))) (cJ _)) (aZ (cN 3 (gG (Ba 5) (Ia (pI (aC (aF 1) aM)))) nd)) jG))) cf rfl) ?_
 exact aZ (cF (aF 3))
variable(Ky:mg "zip"=none)
variable{Be:Tok}(pb:mg "LETTERS"=some (.str "abc" Be))
include bR Ky pb in
theorem T5(F:Pa K "ways_from" "ways_from" xB dV fa fd):Ja P w K mg base yb 1 fa fd ["steps","start","allowed"] (Sb K 3 qZ):=by
 refine cR (k:=0) F QM 3 9 YA rfl rfl λQa A outer s H E B hr=>?_
 have nd:=QM.nd;refine aQ (ϻ 3 (aF 1) (uq []) nd) ?_
 refine aQ (vP 4 (xm (aC (aF 1) aM)) nd) ?_
 refine aQ (cN 5 cP nd) ?_
 refine aQ (Ks 100000 (dX vy Ox (Ba 5) (Ia (gO bR (gU 4))) (cJ _)) (aQ (by exact cN 6 (dJ hr.units (gU 4) (Ba 5)) nd) (by exact aQ (by exact sH (bIa Ky (fy [97,98,99] pb) (dJ hr.units (Ba 0) (Ba 6))) (Hy rfl (uW 7 (uW 8 jy nd) nd)) (aZ (pG (PW.pt (sF (dX (EW hr.units) FW (Ba 8) (Ba 2) rfl) (ME (dX (wZ hr.units) xF (Ba 8) (gU 3) rfl)))) (aQ (by exact my hr.units 3 (aF 8) (gG (Ia (dJ hr.units (gU 3) (Ba 6))) (Ba 7))) (by exact aZ (Vn 4 (aF 8)))) jG)) cf rfl) (by exact aZ (cN 5 (gG (Ba 5) Za) nd)))) cf) ?_
 exact aZ (Vk [3] (cF (aF 3)))
variable(lJ:Ha P w K mg base "ways_from" 1 3 qZ)
include cW iJ ka aX bQ lJ in
theorem u4(F:Pa K "rooms_reached" "rooms_reached" rP dV fa fd):Ja P w K mg base yb 2 fa fd ["machine"] (Hi K 1 jP):=by
 refine XX (k:=1) F xH 1 2 lV (e1 Vs (aB 1)) rfl rfl λQa A outer s H E B hr=>?_
 have nd:=xH.nd;exact dE (by exact cN 1 (bW lJ hr (aC (uB ka aX (Ba 0)) (aC cP (aC (YX iJ cW rfl (Ia (uB ka bQ (Ba 0)))) aM)))) nd) (by exact IW (bEb iJ rfl (aF 1)))
include fK in
theorem b9(F:Pa K "is_loop" "is_loop" IC dV fa fd):Ja P w K mg base yb 6 fa fd ["machine","bits"] (Sb K 2 wI):=by
 refine cR (k:=5) F QO 2 2 sC rfl rfl λQa A outer s H E B hr=>?_
 have nd:=QO.nd;exact aZ (cF (mV (nR hr.units) nU (Ia (bW fK hr (aC (aF 0) (aC (aF 1) aM)))) (Ia (pI (aC (aF 1) aM))) (cJ _)))
include cO bO ka aX lJ in
theorem N'(F:Pa K "way_in" "way_in" AD dV fa fd):Ja P w K mg base yb 3 fa fd ["machine","allowed","room","goal"] (Sb K 4 Sr):=by
 refine cR (k:=2) F GQ 4 4 PQ rfl rfl λQa A outer s H E B hr=>?_
 have nd:=GQ.nd;refine aQ (pG (Ni (mW (bW cO hr (aC (aF 1) (aC (aF 2) aM))))) (aZ (cF Fy)) jG) ?_
 exact aZ (cF (bIn hr.units (Ia (bW lJ hr (aC (uB ka aX (Ba 0)) (aC (aF 2) (aC (bW bO hr (aC (aF 1) aM)) aM))))) (aF 3)))
include ka aX pb in
theorem zR(F:Pa K "rooms_along" "Machine.rooms_along" dO dV fa fd):Ja P w K mg base yb 1 fa fd ["self","room","text"] (Hi K 3 bJ):=by
 refine bN3 (k:=0) F pA 3 5 3 eX rfl rfl λQa A outer s H E B hr=>?_
 have nd:=pA.nd;exact HU (by exact vP 3 (xm (aC (aF 1) aM)) nd) (by exact HU (by exact sH (oW (aF 2)) (cV 4 nd) (aQ (by exact cN 1 (dJ hr.units (Ia (dJ hr.units (Ia (uB ka aX (Ba 0))) (Ba 1))) (Ia (bHy (Ia (fy [97,98,99] pb)) (aC (aF 4) aM)))) nd) (by exact aZ (Vn 3 (aF 1)))) cf rfl) (by exact bI5))
variable(Kw:Ha P w K mg base "is_loop" 6 2 wI)
variable(Yr:Ha P w K mg base "way_in" 3 4 Sr)
variable(bZ:Zb P w K mg base "Machine" "rooms_along" 1 3 [] bJ)
include cO bO ka aX pb Kw Yr bZ in
theorem p7(F:Pa K "round_in" "round_in" VB dV fa fd):Ja P w K mg base yb 7 fa fd ["machine","bits","room"] (Sb K 3 kO):=by
 refine cR (k:=6) F KN 3 6 ON rfl rfl λQa A outer s H E B hr=>?_
 have nd:=KN.nd;refine aQ (pG (Ni (mW (bW Kw hr (aC (aF 0) (aC (aF 1) aM))))) (aZ yG) jG) ?_
 refine aQ (pG (Ni (mW (bW cO hr (aC (aF 1) (aC (aF 2) aM))))) (aZ yG) jG) ?_
 refine aQ (pG (dX (nR hr.units) nU (Ia (bW bO hr (aC (aF 1) aM))) (Ia (pI (aC (aF 2) aM))) (cJ _)) (aZ (cF (dJ hr.units (Ia (fy [97,98,99] pb)) (Ia (Q_ (Ia (dJ hr.units (Ia (uB ka aX (Ba 0))) (Ba 2))) (aC (aF 2) aM)))))) jG) ?_
 refine aQ (cN 3 (uq []) nd) ?_
 refine aQ (cN 4 (aF 2) nd) ?_
 refine aQ (sH (oW (bW bO hr (aC (aF 1) aM))) (cV 5 nd) (aZ (pG (dX (wZ hr.units) xF (Ba 5) (Ia (vt (pl:=_) (Zb.plain bZ) hr (by decide) (aF 0) (aC (aF 2) (aC (aF 3) aM)))) rfl) (aQ (by exact cN 3 (gG (Ba 3) (Ia (bW Yr hr (aC (aF 0) (aC (aF 1) (aC (aF 4) (aC (aF 5) aM))))))) nd) (by exact aZ (cN 4 (aF 5) nd))) jG)) cf rfl) ?_
 exact aZ (cF (gG (Ba 3) (Ia (bW Yr hr (aC (aF 0) (aC (aF 1) (aC (aF 4) (aC (aF 2) aM))))))))
variable(nM:yc P w K mg base "rooms_reached" 2 1 jP)
variable(yP:Ha P w K mg base "round_in" 7 3 kO)
include cO nM yP in
theorem d9(F:Pa K "nest_of" "nest_of" JC dV fa fd):Ja P w K mg base yb 8 fa fd ["machine","row"] (Sb K 2 tH):=by
 refine cR (k:=7) F RO 2 7 kP rfl rfl λQa A outer s H E B hr=>?_
 have nd:=RO.nd;refine aQ (L_ 2 [5] nD (.of rfl) (oW (mF (yc.plain nM) hr (by decide) (aC (aF 0) aM))) (λ_ _ _ _ _=>cV 5 nd) (λ_ _ _ _ _=>mW (bW cO hr (aC (dJ hr.units (Ba 1) Za) (aC (dJ hr.units (Ba 5) Za) aM)))) (λ_ _ _ _ _=>aF 5) rfl nd) ?_
 refine aQ (cN 3 (dJ hr.units (Ia (dJ hr.units (Ba 2) Za)) Za) nd) ?_
 refine aQ (cN 4 (dJ hr.units (Ia (dJ hr.units (Ba 2) Za)) Za) nd) ?_
 exact aZ (cF (Tj (aC (aF 4) (aC (uA [6] nD (.of rfl) (oW (aF 1)) (λ_ _ _ _ _=>cV 6 nd) (λ_ _ _ _ _=>bW yP hr (aC (aF 0) (aC (aF 6) (aC (aF 3) aM)))) rfl) aM))))
variable(iM:Ha P w K mg base "outer_loops" 6 1 mX)
variable(qP:Ha P w K mg base "longest_row" 19 3 mY)
variable(Lw:Ha P w K mg base "nest_of" 8 2 tH)
include bR iM qP Lw in
theorem J4(F:Pa K "longest_nest" "longest_nest" uF dV fa fd):Ja P w K mg base yb 20 fa fd ["machine","good"] (Sb K 2 fM):=by
 refine cR (k:=19) F zF 2 5 nL rfl rfl λQa A outer s H E B hr=>?_
 have nd:=zF.nd;refine aQ (cN 2 (pI aM) nd) ?_
 refine aQ (sH (oW (bW iM hr (aC (aF 0) aM))) (cV 3 nd) (aQ (by exact cN 4 (bW qP hr (aC (aF 0) (aC (aF 3) (aC (aF 1) aM)))) nd) (by exact aZ (pG (dX wt jt (Ia (gO bR (Ba 4))) (Ia (gO bR (Ba 2))) (cJ _)) (aZ (cN 2 (aF 4) nd)) jG))) cf rfl) ?_
 exact aZ (cF (Gy (dX (vR hr.units) vU (Ba 2) (Ia (pI aM)) (cJ _)) (bW Lw hr (aC (aF 0) (aC (aF 2) aM))) Fy))
variable(lK:Ha P w K mg base "longest_nest" 20 2 fM)
include lK in
theorem bEr(F:Pa K "nests" "nests" gE dV fa fd):Ja P w K mg base yb 21 fa fd ["machine"] (Sb K 1 xU):=by
 refine cR (k:=20) F uS 1 1 QS rfl rfl λQa A outer s H E B hr=>?_
 have nd:=uS.nd;exact aZ (cF (Tj (aC (bW lK hr (aC (aF 0) (aC Uk aM))) (aC (bW lK hr (aC (aF 0) (aC Uk aM))) aM))))
variable(yQ:Ha P w K mg base "nests" 21 1 xU)
include bR yQ in
theorem K4(F:Pa K "_law_lengths" "_law_lengths" uG dV fa fd):Ja P w K mg base yb 22 fa fd ["_law_machine_here"] (Sb K 1 gC):=by
 refine cR (k:=21) F zG 1 2 rL rfl rfl λQa A outer s H E B hr=>?_
 have nd:=zG.nd;exact aZ (cF (uA [1] nD (.of rfl) (oW (bW yQ hr (aC (aF 0) aM))) (λ_ _ _ _ _=>cV 1 nd) (λ_ _ _ _ _=>Mi (mV w8 z8 (Ba 1) (Ia Fy) (cJ _)) (rm (gO bR (Ia (dJ hr.units (Ba 1) Za))))) rfl))
variable(ox:mg "sorted"=none)
variable(Wn:mg "set"=none)
include bR ox Wn in
theorem Y4(F:Pa K "_law_spread" "_law_spread" wA dV fa fd):Ja P w K mg base yb 1 fa fd ["_law_steps"] (Sb K 1 qG):=by
 refine cR (k:=0) F HL 1 4 QL rfl rfl λQa A outer s H E B hr=>?_
 have nd:=HL.nd;refine aQ (cN 1 (pI (aC cP aM)) nd) ?_
 refine aQ (cN 2 cP nd) ?_
 refine aQ (Ks 100000 (dX vy Ox (Ba 2) (Ia (gO bR (Ba 1))) (cJ _)) (aQ (by exact cN 1 (gG (Ba 1) (Ia (jx [3] nD (.of rfl) (oW (B' ox Wn rfl (Ia (dJ hr.units (Ba 0) (Ia (dJ hr.units (Ba 1) (Ba 2))))))) (λ_ _ _ _ _=>cV 3 nd) (λ_ _ _ _ _=>dX (wZ hr.units) xF (Ba 3) (Ba 1) rfl) (λ_ _ _ _ _=>aF 3) rfl))) nd) (by exact aZ (cN 2 (gG (Ba 2) Za) nd))) cf) ?_
 exact aZ (cF (aF 1))
include bR in
theorem Z4(F:Pa K "nest_length" "nest_length" wB dV fa fd):Ja P w K mg base yb 1 fa fd ["nest"] (Sb K 1 mZ):=by
 refine cR (k:=0) F IL 1 1 RL rfl rfl λQa A outer s H E B hr=>?_
 have nd:=IL.nd;exact aZ (cF (Gy (dX bI0 bI1 (Ba 0) (Ia Fy) (cJ _)) cP (gO bR (Ia (dJ hr.units (Ba 0) Za)))))
theorem A5(F:Pa K "least_rank" "least_rank" yM dV fa fd):Ja P w K mg base yb 1 fa fd ["base","good"] (Sb K 2 sU):=by
 refine cR (k:=0) F sM 2 2 LM rfl rfl λQa A outer s H E B hr=>?_
 have nd:=sM.nd;exact aZ (cF (Gy (dX (nR hr.units) nU (Ia (mV (nR hr.units) nU (Ia (rZ (Ba 0) Za)) Za (cJ _))) (Ba 1) (cJ _)) (aF 0) (gG (Ba 0) Za)))
variable(sZ:Ha P w K mg base "least_rank" 1 2 sU)
include bO Oi jC iK sZ in
theorem L4{pr:List D->R D}{n:Nat}(gj:Ha P w K mg base "ranks_within" (7+n) 3 pr)(F:Pa K "ranks_within" "ranks_within" uH dV fa fd):Ja P w K mg base yb (7+n+1) fa fd ["machine","loop","base"] (Sb K 3 (cQ 3 8 (tV pr))):=by
 refine cR (k:=7+n) F rQ 3 8 (tV pr) rfl rfl λQa A outer s H E B hr=>?_
 have nd:=rQ.nd;refine aQ (Nx 3 nd) ?_
 refine aQ (cN 4 (mF sZ hr (by omega) (aC (aF 2) (aC (mF jC hr (by omega) (aC (aF 0) (aC (aF 1) aM))) aM))) nd) ?_
 refine aQ (sH (oW (mF iK hr (by omega) (aC (aF 0) (aC (aF 1) aM)))) (cV 5 nd) (aQ (by exact cN 7 (mF gj hr (by omega) (aC (aF 0) (aC (aF 5) (aC (aF 2) aM)))) nd) (by exact aQ (by exact cN 4 (bHz Oi rfl (Ba 4) (Ia (gG (Ia (bIu Oi rfl (aF 7))) Za))) nd) (by exact aZ (EX 3 (aF 7))))) cf rfl) ?_
 refine aQ (sH (oW (mF bO hr (by omega) (aC (aF 1) aM))) (cV 6 nd) (aZ (bIt 3 (aF 6) (aF 4))) cf rfl) ?_
 exact aZ (Vk [3] (cF (aF 3)))
variable(pB:Ha P w K mg base "ranks_within" 19 3 oN)
include cW ka bQ iM pB in
theorem B5(F:Pa K "ranks_from" "ranks_from" yN dV fa fd):Ja P w K mg base yb 20 fa fd ["machine","base"] (Hi K 2 eY):=by
 refine XX (k:=19) F AM 2 5 TL (dI [4] (ib 4) (uL (e1 (jN "Machine" "many") (aB 0))) cH tW) rfl rfl λQa A outer s H E B hr=>?_
 have nd:=AM.nd;exact dE (by exact Nx 2 nd) (by exact dE (by exact sH (oW (bW iM hr (aC (aF 0) aM))) (cV 3 nd) (aZ (EX 2 (bW pB hr (aC (aF 0) (aC (aF 3) (aC (aF 1) aM)))))) cf rfl) (by exact IW (bIf [4] nD (.of rfl) (Kk cW (Ia (uB ka bQ (Ba 0)))) (λ_ _ _ _ _=>cV 4 nd) (λ_ _ _ _ _=>bIo hr.units (gU 2) (aF 4) (aF 1)) rfl)))
variable(nF:Ha P w K mg base "nest_length" 1 1 mZ)
variable(mG:yc P w K mg base "ranks_from" 20 2 eY)
include yQ nF mG in
theorem M4(F:Pa K "lowest_ranks" "lowest_ranks" uI dV fa fd):Ja P w K mg base yb 22 fa fd ["machine"] (Sb K 1 fO):=by
 refine cR (k:=21) F zH 1 4 AL rfl rfl λQa A outer s H E B hr=>?_
 have nd:=zH.nd;refine aQ (cN 1 (bW yQ hr (aC (aF 0) aM)) nd) ?_
 refine aQ (cN 2 (bW nF hr (aC (dJ hr.units (Ba 1) Za) aM)) nd) ?_
 refine aQ (cN 3 (bW nF hr (aC (dJ hr.units (Ba 1) Za) aM)) nd) ?_
 refine aQ (pG (dX wt jt (Ba 3) (Ba 2) (cJ _)) (aZ (cF (Tj (aC (mF (yc.plain mG) hr (by decide) (aC (aF 0) (aC cP aM))) (aC (pI (aC (dJ hr.units (Ba 1) Za) aM)) aM))))) jG) ?_
 refine aQ (pG (dX wt jt (Ba 2) (Ba 3) (cJ _)) (aZ (cF (Tj (aC (mF (yc.plain mG) hr (by decide) (aC (aF 0) (aC cP aM))) (aC (pI (aC (dJ hr.units (Ba 1) Za) aM)) aM))))) jG) ?_
 exact aZ (cF (Tj (aC (mF (yc.plain mG) hr (by decide) (aC (aF 0) (aC cP aM))) (aC (pI (aC (dJ hr.units (Ba 1) Za) (aC (dJ hr.units (Ba 1) Za) aM))) aM))))
variable(qQ:Ha P w K mg base "_law_spread" 1 1 qG)
variable(gH:Ha P w K mg base "lowest_ranks" 22 1 fO)
include bR Wn qQ gH in
theorem U5(F:Pa K "_law_many" "_law_many" yB dV fa fd):Ja P w K mg base yb 23 fa fd ["_law_machine_here","_law_steps"] (Sb K 2 kW):=by
 refine cR (k:=22) F RM 2 6 kN rfl rfl λQa A outer s H E B hr=>?_
 have nd:=RM.nd;refine aQ (cN 2 (bW qQ hr (aC (aF 1) aM)) nd) ?_
 refine aQ (FF (bW gH hr (aC (aF 0) aM)) (Hy rfl (uW 3 (uW 4 jy nd) nd))) ?_
 exact aZ (cF (Tj (aC (M_ bR Wn rfl (Ia (uA [5] nD (.of rfl) (oW (aF 2)) (λ_ _ _ _ _=>cV 5 nd) (λ_ _ _ _ _=>dJ hr.units (Ba 3) (Ba 5)) rfl))) (aC (gO bR (Ba 4)) aM))))
variable(cG:mg "isinstance"=none)
include bR iJ cG in
theorem Z3(F:Pa K "is_filled_list" "is_filled_list" pZ dV fa fd):Ja P w K mg base yb 1 fa fd ["thing","most"] (Sb K 2 fD):=by
 refine cR (k:=0) F uY 2 2 pN rfl rfl λQa A outer s H E B hr=>?_
 have nd:=uY.nd;exact aZ (cF (Mi (wY ty_list cG iJ (Ba 0)) (Mi (mV wy iy (Ia (gO bR (Ba 0))) Za (cJ _)) (rm (mV bJm bHl (Ia (gO bR (Ba 0))) (Ba 1) (cJ _))))))
variable(Ly:mg "int"=none)
variable(sy:mg "bool"=none)
include cG Ly sy in
theorem t7(F:Pa K "is_whole" "is_whole" WB dV fa fd):Ja P w K mg base yb 1 fa fd ["thing"] (Sb K 1 pO):=by
 refine cR (k:=0) F LN 1 1 IB rfl rfl λQa A outer s H E B hr=>?_
 have nd:=LN.nd;exact aZ (cF (Mi (wY ty_int cG Ly (Ba 0)) (rm (bL2 (wY ty_bool cG sy (Ba 0))))))
variable(nY:Ha P w K mg base "is_whole" 1 1 pO)
include nY in
theorem u7(F:Pa K "is_below" "is_below" XB dV fa fd):Ja P w K mg base yb 2 fa fd ["thing","limit"] (Sb K 2 nP):=by
 refine cR (k:=1) F MN 2 2 JB rfl rfl λQa A outer s H E B hr=>?_
 have nd:=MN.nd;exact aZ (cF (Mi (bW nY hr (aC (aF 0) aM)) (Mi (mV wy iy (Ba 0) Za (cJ _)) (rm (mV vy Ox (Ba 0) (Ba 1) (cJ _))))))
variable(nZ:Ha P w K mg base "is_below" 2 2 nP)
variable(Qi:mg "all"=none)
include bR nZ Qi in
theorem P'(F:Pa K "is_row" "is_row" BD dV fa fd):Ja P w K mg base yb 3 fa fd ["thing","letters","rooms"] (Sb K 3 Mw):=by
 refine cR (k:=2) F HQ 3 4 PC rfl rfl λQa A outer s H E B hr=>?_
 have nd:=HQ.nd;exact aZ (cF (Mi (mV (nR hr.units) nU (Ia (gO bR (Ba 0))) (Ba 1) (cJ _)) (rm (Iy Qi rfl (Ia (uA [3] nD (.of rfl) (oW (aF 0)) (λ_ _ _ _ _=>cV 3 nd) (λ_ _ _ _ _=>bW nZ hr (aC (aF 3) (aC (aF 2) aM))) rfl))))))
variable(jD:Ha P w K mg base "is_filled_list" 1 2 fD)
variable(sx:Ha P w K mg base "is_row" 3 3 Mw)
variable{yd:Tok}(vc:mg "MOST_ROOMS"=some (.int 8 yd))
variable{Bc:Tok}(Ub:mg "MOST_LETTERS"=some (.int 3 Bc))
include bR Qi jD sx vc Ub in
theorem V5(F:Pa K "are_steps" "are_steps" AB dV fa fd):Ja P w K mg base yb 4 fa fd ["thing"] (Sb K 1 uR):=by
 refine cR (k:=3) F SM 1 2 ZA rfl rfl λQa A outer s H E B hr=>?_
 have nd:=SM.nd;refine aQ (pG (Ni (mW (bW jD hr (aC (aF 0) (aC (CW vc) aM))))) (aZ (cF Uk)) jG) ?_
 refine aQ (pG (Ni (mW (Iy Qi rfl (Ia (uA [1] nD (.of rfl) (oW (aF 0)) (λ_ _ _ _ _=>cV 1 nd) (λ_ _ _ _ _=>bW jD hr (aC (aF 1) (aC (CW Ub) aM))) rfl))))) (aZ (cF Uk)) jG) ?_
 exact aZ (cF (Iy Qi rfl (Ia (uA [1] nD (.of rfl) (oW (aF 0)) (λ_ _ _ _ _=>cV 1 nd) (λ_ _ _ _ _=>bW sx hr (aC (aF 1) (aC (gO bR (Ia (dJ hr.units (Ba 0) Za))) (aC (gO bR (Ba 0)) aM)))) rfl))))
include bR iJ cG nY Qi in
theorem W5(F:Pa K "are_ranks" "are_ranks" BB dV fa fd):Ja P w K mg base yb 2 fa fd ["thing","rooms"] (Sb K 2 uT):=by
 refine cR (k:=1) F TM 2 3 kB rfl rfl λQa A outer s H E B hr=>?_
 have nd:=TM.nd;refine aQ (pG (PW.pt (RF (Ni (mW (wY ty_list cG iJ (Ba 0)))) (kF (dX (vR hr.units) vU (Ia (gO bR (Ba 0))) (Ba 1) (cJ _))))) (aZ (cF Uk)) jG) ?_
 exact aZ (cF (Iy Qi rfl (Ia (uA [2] nD (.of rfl) (oW (aF 0)) (λ_ _ _ _ _=>cV 2 nd) (λ_ _ _ _ _=>Mi (bW nY hr (aC (aF 2) aM)) (rm (mV wy iy (Ba 2) Za (cJ _)))) rfl))))
variable(vB:Ha P w K mg base "are_steps" 4 1 uR)
variable(vC:Ha P w K mg base "are_ranks" 2 2 uT)
variable(eE:mR K Ka (Str.ofString "letters"))
include bR iJ ka aX bQ bY vB vC eE in
theorem X3(F:An K "__init__" "Machine.__init__" fJ fa fd):Ja P w K mg base yb 5 fa fd ["self","steps","ranks"] (CA K "Machine" 2 fG):=by
 refine ϴ (k:=4) F sI "Machine" 2 4 gD rfl rfl λQa A outer s H E B hr=>?_
 have nd:=sI.nd;refine aQ (pG (Ni (mW (bW vB hr (aC (aF 1) aM)))) (aZ yG) jG) ?_
 refine aQ (pG (Ni (mW (bW vC hr (aC (aF 2) (aC (gO bR (Ba 1)) aM))))) (aZ yG) jG) ?_
 refine aQ (ny 0 ka aX (uA [3] nD (.of rfl) (oW (aF 1)) (λ_ _ _ _ _=>cV 3 nd) (λ_ _ _ _ _=>GW iJ (Ba 3)) rfl)) ?_
 refine aQ (ny 0 ka bY (GW iJ (Ba 2))) ?_
 refine aQ (ny 0 ka bQ (gO bR (Ba 1))) ?_
 exact aZ (ny 0 ka eE (gO bR (Ia (dJ hr.units (Ba 1) Za))))
variable(oG:Ze P w K mg base "Machine" 5 2 fG)
include ka aX gH oG in
theorem e9(F:Pa K "lowered" "lowered" KC dV fa fd):Ja P w K mg base yb 23 fa fd ["machine"] (Sb K 1 wL):=by
 refine cR (k:=22) F SO 1 1 lP rfl rfl λQa A outer s H E B hr=>?_
 have nd:=SO.nd;exact aZ (cF (OE oG hr (by decide) (aC (uB ka aX (Ba 0)) (aC (dJ hr.units (Ia (bW gH hr (aC (aF 0) aM))) Za) aM))))
include bV cW in
theorem X5(F:Pa K "_law_word" "_law_word" CB dV fa fd):Ja P w K mg base yb 2 fa fd ["_law_cell_here","_law_letters","_law_least","_law_most"] (Sb K 4 rA):=by
 refine cR (k:=1) F UM 4 6 nN rfl rfl λQa A outer s H E B hr=>?_
 have nd:=UM.nd;refine aQ (cN 4 (gG (Ba 2) (Ia (bW bV hr (aC (aF 0) (aC cP (aC (gG (Ia (gX (Ba 3) (Ba 2))) Za) aM)))))) nd) ?_
 exact aZ (cF (bI3 (Ia (uq [])) (aC (uA [5] nD (.of rfl) (Kk cW (Ba 4)) (λ_ _ _ _ _=>cV 5 nd) (λ_ _ _ _ _=>dJ hr.units (Ia (uq [97,98,99])) (Ia (bW bV hr (aC (Xp (Ba 0) (Ia (gG (Ia (rZ (Ba 5) Za)) Za))) (aC (gG Za (Ba 5)) (aC (aF 1) aM)))))) rfl) aM)))
variable(My:mg "str"=none)
include pb cG My in
theorem f9(F:Pa K "is_word" "is_word" LC dV fa fd):Ja P w K mg base yb 1 fa fd ["thing","many"] (Sb K 2 oE):=by
 refine cR (k:=0) F UO 2 2 xC rfl rfl λQa A outer s H E B hr=>?_
 have nd:=UO.nd;exact aZ (cF (Mi (wY ty_str cG My (Ba 0)) (rm (mV (nR hr.units) nU (Ia (ϳ (Ba 0) (aC (Vy (Ia (fy [97,98,99] pb)) NE (Mn (Ba 1))) aM))) (Ia (uq [])) (cJ _)))))
variable(xJ:Ha P w K mg base "is_word" 1 2 oE)
variable(Qx:mg "tuple"=none)
include bR cG xJ Qx in
theorem C5(F:Pa K "is_endless" "is_endless" yO dV fa fd):Ja P w K mg base yb 2 fa fd ["thing","many"] (Sb K 2 jJ):=by
 refine cR (k:=1) F CM 2 2 xV rfl rfl λQa A outer s H E B hr=>?_
 have nd:=CM.nd;refine aQ (pG (PW.pt (RF (Ni (mW (wY ty_tuple cG Qx (Ba 0)))) (kF (dX (vR hr.units) vU (Ia (gO bR (Ba 0))) Za (cJ _))))) (aZ (cF Uk)) jG) ?_
 exact aZ (cF (Mi (bW xJ hr (aC (dJ hr.units (Ba 0) Za) (aC (aF 1) aM))) (Mi (bW xJ hr (aC (dJ hr.units (Ba 0) Za) (aC (aF 1) aM))) (rm (mV (vR hr.units) vU (Ia (dJ hr.units (Ba 0) Za)) (Ia (uq [])) (cJ _))))))
include ka bQ nZ in
theorem W3(F:Pa K "check_room" "Machine.check_room" lH dV fa fd):Ja P w K mg base yb 3 fa fd ["self","thing"] (Sb K 2 eF):=by
 refine cR (k:=2) F pJ 2 2 rB rfl rfl λQa A outer s H E B hr=>?_
 have nd:=pJ.nd;exact aZ (pG (Ni (mW (bW nZ hr (aC (aF 1) (aC (uB ka bQ (Ba 0)) aM))))) (aZ yG) jG)
variable(tD:Ha P w K mg base "is_endless" 2 2 jJ)
variable(fY:Xb P w K mg base "Machine" "check_room" 3 2 [] eF)
include bR ka bZ eE tD fY in
theorem N4(F:Pa K "walk" "Machine.walk" jA dV fa fd):Ja P w K mg base yb 4 fa fd ["self","word","room"] (Sb K 3 kZ):=by
 refine cR (k:=3) F zJ 3 6 BL rfl rfl λQa A outer s H E B hr=>?_
 have nd:=zJ.nd;refine aQ (bL4 (vt (pl:=_) fY hr (by decide) (aF 0) (aC (aF 2) aM))) ?_
 refine aQ (pG (Ni (mW (bW tD hr (aC (aF 1) (aC (uB ka eE (Ba 0)) aM))))) (aZ yG) jG) ?_
 refine aQ (vP 3 (bI6 (pl:=_) bZ hr (by decide) (aF 0) (aC (aF 2) (aC (dJ hr.units (Ba 1) Za) aM))) nd) ?_
 refine aQ (Nx 4 nd) ?_
 refine aQ (Ks 100000 (dX (wZ hr.units) xF (Ia (dJ hr.units (gU 3) (Ia (Jt Za)))) (gU 4) rfl) (aQ (by exact my hr.units 4 (dJ hr.units (gU 3) (Ia (Jt Za))) (gX (Ia (gO bR (gU 3))) Za)) (by exact aZ (bLd 3 (bN2 (Ia (vt (pl:=_) (Zb.plain bZ) hr (by decide) (aF 0) (aC (dJ hr.units (gU 3) (Ia (Jt Za))) (aC (dJ hr.units (Ba 1) Za) aM)))) (Mn Za) NE)))) cf) ?_
 refine aQ (cN 5 (dJ hr.units (gU 4) (Ia (dJ hr.units (gU 3) (Ia (Jt Za))))) nd) ?_
 exact aZ (cF (Tj (aC (Vy (gU 3) NE (Mn (Ba 5))) (aC (Vy (gU 3) (Mn (Ba 5)) (Mn (Ia (Jt Za)))) aM))))
variable(mH:Xb P w K mg base "Machine" "walk" 4 3 [] kZ)
include ka bY Oi mH in
theorem O4(F:Pa K "lets" "Machine.lets" jB dV fa fd):Ja P w K mg base yb 5 fa fd ["self","word","room"] (Sb K 3 fP):=by
 refine cR (k:=4) F zK 3 5 CL rfl rfl λQa A outer s H E B hr=>?_
 have nd:=zK.nd;refine aQ (cN 3 (dJ hr.units (Ia (vt (pl:=_) mH hr (by decide) (aF 0) (aC (aF 1) (aC (aF 2) aM)))) Za) nd) ?_
 exact aZ (cF (mV (nR hr.units) nU (Ia (rZ (Ia (rX Oi rfl (Ia (uA [4] nD (.of rfl) (oW (aF 3)) (λ_ _ _ _ _=>cV 4 nd) (λ_ _ _ _ _=>dJ hr.units (Ia (uB ka bY (Ba 0))) (Ba 4)) rfl)))) Za)) Za (cJ _)))
variable(pC:Ha P w K mg base "_law_machine" 2 3 kE)
variable(pD:Ha P w K mg base "_law_doubled" 3 3 kI)
variable(lL:Ha P w K mg base "_law_lengths" 22 1 gC)
variable(rF:Ha P w K mg base "_law_many" 23 2 kW)
variable(xK:Ha P w K mg base "lowered" 23 1 wL)
variable(rG:Ha P w K mg base "_law_word" 2 4 rA)
variable(mJ:Xb P w K mg base "Machine" "lets" 5 3 [.int 0] fP)
include bR oG pC pD lL rF xK rG mJ in
theorem bLm(F:Pa K "law" "law" Lk dV fa fd):Ja P w K mg base yb 24 fa fd ["_law_script"] (Sb K 1 kq):=by
 refine cR (k:=23) F MW 1 13 VW rfl rfl λQa A outer s H E B hr=>?_
 have nd:=MW.nd;refine aQ (FF (bW pC hr (aC (aF 0) (aC cP (aC cP aM)))) (Hy rfl (uW 6 (uW 7 jy nd) nd))) ?_
 refine aQ (FF (bW pD hr (aC (aF 0) (aC (aF 6) (aC (aF 7) aM)))) (Hy rfl (uW 8 (uW 9 jy nd) nd))) ?_
 refine aQ (cN 1 (OE oG hr (by decide) (aC (aF 6) (aC (aF 7) aM))) nd) ?_
 refine aQ (cN 2 (OE oG hr (by decide) (aC (aF 8) (aC (aF 9) aM))) nd) ?_
 refine aQ (pG (PW.pt (RF (dX (vR hr.units) vU (Ia (bW lL hr (aC (aF 1) aM))) (Ia (bW lL hr (aC (aF 2) aM))) (cJ _)) (kF (dX (vR hr.units) vU (Ia (bW rF hr (aC (aF 1) (aC (aF 6) aM)))) (Ia (bW rF hr (aC (aF 2) (aC (aF 8) aM)))) (cJ _))))) (aZ (cF Uk)) jG) ?_
 refine aQ (cN 3 (bW xK hr (aC (aF 1) aM)) nd) ?_
 refine aQ (cN 4 (bW xK hr (aC (aF 2) aM)) nd) ?_
 refine aQ (sH (oW (Vy (Ba 0) (Mn Za) (Mn Za))) (cV 5 nd) (aQ (by exact cN 10 (Tj (aC (bW rG hr (aC (aF 5) (aC (gO bR (Ia (dJ hr.units (Ba 6) Za))) (aC cP (aC cP aM))))) (aC (bW rG hr (aC (gG (Ba 5) Za) (aC (gO bR (Ia (dJ hr.units (Ba 6) Za))) (aC cP (aC cP aM))))) aM))) nd) (by exact aQ (by exact bI2 11 [12] nD (.of rfl) (oW (pI (aC (aF 1) (aC (aF 2) (aC (aF 3) (aC (aF 4) aM)))))) (λ_ _ _ _ _=>cV 12 nd) (λ_ _ _ _ _=>vt (pl:=_) mJ hr (by decide) (aF 12) (aC (aF 10) aM)) rfl nd) (by exact aZ (pG (dX (vR hr.units) vU (Ba 11) (Ia (bIq (aC (dJ hr.units (Ba 11) Za) aM) Za)) (cJ _)) (aZ (cF Uk)) jG)))) cf rfl) ?_
 exact aZ (cF Uk)
end
theorem all_mk {l : OpenLaw}  {K : Frag}    (X : K.In h) (G : h.Ns mainGlobals mg) (hfa : mg "law" = some (.ref fa))
     {Sz:Addr} {JJ BF:Option Addr} {AK:Array (Option Value)} {EJ XI GH PJ Lu BH:Value} {Tz:Addr} {KJ CF:Option Addr} {BK:Array (Option Value)} {FJ YI HH QJ Mu CH:Value} {Uz:Addr} {LJ DF:Option Addr} {CK:Array (Option Value)} {GJ ZI IH RJ Nu DH:Value} {WK:Addr} {ow:Value} {qw:Option Addr} {uw:Array (Option Value)} {IK:Nat} {Ap:Tok} {Vz:Addr} {MJ EF:Option Addr} {DK:Array (Option Value)} {HJ eJ JH SJ Ou EH:Value} {YK:Addr} {pw:Value} {tw:Option Addr} {vw:Array (Option Value)} {JK:Nat} {Ej:Tok} {MH:Addr} {NJ Wt:Option Addr} {EK:Array (Option Value)} {IJ Rv Ru Yv wo Qu:Value}
  (ka:ClsAt K "Machine" Ka)
  (x5_Machine:PySem.W.makesIn K Ka=true)
  (x6_Machine:keepIn K (.ref Ka)=true)
  (w_Machine_letters:findIn K (.ref Ka) (Str.ofString "letters")=some none)
  (w_Machine_many:findIn K (.ref Ka) (Str.ofString "many")=some none)
  (w_Machine_ranks:findIn K (.ref Ka) (Str.ofString "ranks")=some none)
  (w_Machine_steps:findIn K (.ref Ka) (Str.ofString "steps")=some none)
  (D1:DA K "_law_cell" nB)
  (D2:DA K "_law_mix" QB)
  (D3:DA K "_law_machine" uD)
  (D4:DA K "_law_order" yI)
  (D5:DA K "_law_doubled" uE)
  (D6:DA K "has_room" RB)
  (D7:DA K "rooms_of" TB)
  (D8:DA K "bits_of" GC)
  (D9:DA K "seen_among" yJ)
  (G2:DA K "goes_round" yK)
  (J2:DA K "parts_among" vV)
  (K2:DA K "loop_parts" yL)
  (N2:DA K "all_rooms" oB)
  (O2:DA K "seen_from" qB)
  (P2:DA K "outer_loops" vW)
  (Q2:DA K "top_rank" UB)
  (S2:DA K "is_good" HC)
  (T2:DA K "without_top" vX)
  (U2:DA K "inner_loops" vY)
  (MK:DA K "longest_row" vZ)
  (V2:DA K "ways_from" xB)
  (W2:DA K "rooms_reached" rP)
  (X2:DA K "is_loop" IC)
  (Y2:DA K "way_in" AD)
  (a25:findIn K (.ref Ka) (Str.ofString "rooms_along")=some (some (.ref Sz)))
  (e25:isFn K (.ref Sz)=true)
  (l25:K.lookup Sz=some ⟨EJ,JJ,.func (fnOf "rooms_along" "Machine.rooms_along" (fX dO) (dY dO) (aH dO) .none XI GH PJ BF Lu BH),AK⟩)
  (c25:codeIn K Lu "Machine.rooms_along"=true)
  (k25:keepIn K (.ref Sz)=true)
  (Z2:DA K "round_in" VB)
  (d3:DA K "nest_of" JC)
  (j3:DA K "longest_nest" uF)
  (u3:DA K "nests" gE)
  (A3:DA K "_law_lengths" uG)
  (B3:DA K "_law_spread" wA)
  (C3:DA K "nest_length" wB)
  (E3:DA K "least_rank" yM)
  (NK:DA K "ranks_within" uH)
  (F3:DA K "ranks_from" yN)
  (G3:DA K "lowest_ranks" uI)
  (J3:DA K "_law_many" yB)
  (K3:DA K "is_filled_list" pZ)
  (L3:DA K "is_whole" WB)
  (M3:DA K "is_below" XB)
  (N3:DA K "is_row" BD)
  (O3:DA K "are_steps" AB)
  (Q3:DA K "are_ranks" BB)
  (a44:findIn K (.ref Ka) (Str.ofString "__init__")=some (some (.ref Tz)))
  (e44:isFn K (.ref Tz)=true)
  (l44:K.lookup Tz=some ⟨FJ,KJ,.func (fnOf "__init__" "Machine.__init__" (fX fJ) (dY fJ) (aH fJ) .none YI HH QJ CF Mu CH),BK⟩)
  (c44:codeIn K Mu "Machine.__init__"=true)
  (k44:keepIn K (.ref Tz)=true)
  (R3:DA K "lowered" KC)
  (S3:DA K "_law_word" CB)
  (T3:DA K "is_word" LC)
  (U3:DA K "is_endless" yO)
  (V3:MA K Ka "check_room" "check_room" "Machine.check_room" lH)
  (a50:findIn K (.ref Ka) (Str.ofString "walk")=some (some (.ref Uz)))
  (e50:isFn K (.ref Uz)=true)
  (l50:K.lookup Uz=some ⟨GJ,LJ,.func (fnOf "walk" "Machine.walk" (fX jA) (dY jA) (aH jA) (.ref WK) ZI IH RJ DF Nu DH),CK⟩)
  (t50:K.lookup WK=some ⟨ow,qw,.seq #[.int 0 Ap] IK,uw⟩)
  (c50:codeIn K Nu "Machine.walk"=true)
  (k50:keepIn K (.ref Uz)=true)
  (a51:findIn K (.ref Ka) (Str.ofString "lets")=some (some (.ref Vz)))
  (e51:isFn K (.ref Vz)=true)
  (l51:K.lookup Vz=some ⟨HJ,MJ,.func (fnOf "lets" "Machine.lets" (fX jB) (dY jB) (aH jB) (.ref YK) eJ JH SJ EF Ou EH),DK⟩)
  (t51:K.lookup YK=some ⟨pw,tw,.seq #[.int 0 Ej] JK,vw⟩)
  (c51:codeIn K Ou "Machine.lets"=true)
  (k51:keepIn K (.ref Vz)=true)
  (a52:nsIn K mainGlobals "law"=some (some (.ref MH)))
  (l52:K.lookup MH=some ⟨IJ,NJ,.func (fnOf "law" "law" (fX Lk) (dY Lk) (aH Lk) .none Rv Ru Yv Wt wo Qu),EK⟩)
  (c52:codeIn K wo "law"=true)
  (k52:keepIn K (.ref MH)=true)
  (v_LETTERS:nsIn K mainGlobals "LETTERS"=some (some (.str "abc" Be)))
  (v_MOST_LETTERS:nsIn K mainGlobals "MOST_LETTERS"=some (some (.int 3 Bc)))
  (v_MOST_ROOMS:nsIn K mainGlobals "MOST_ROOMS"=some (some (.int 8 yd)))
  (z_all:nsIn K mainGlobals "all"=some none)
  (z_bool:nsIn K mainGlobals "bool"=some none)
  (z_int:nsIn K mainGlobals "int"=some none)
  (z_isinstance:nsIn K mainGlobals "isinstance"=some none)
  (z_len:nsIn K mainGlobals "len"=some none)
  (z_list:nsIn K mainGlobals "list"=some none)
  (z_max:nsIn K mainGlobals "max"=some none)
  (z_range:nsIn K mainGlobals "range"=some none)
  (z_set:nsIn K mainGlobals "set"=some none)
  (z_sorted:nsIn K mainGlobals "sorted"=some none)
  (z_str:nsIn K mainGlobals "str"=some none)
  (z_tuple:nsIn K mainGlobals "tuple"=some none)
  (z_zip:nsIn K mainGlobals "zip"=some none) :
  ∃fd:FuncData,(∀(s:Shared)(v:Value),BindsTo s fd ⟨[v],[]⟩ [("_law_script",v)])/\∀base:Heap,K.In base->base.Ns mainGlobals mg->Ja l.prog w K mg base yb 24 fa fd ["_law_script"] (Sb K 1 kq):=by
 have e:=hfa.symm.trans (mg_of X G a52);cases e;have eE:mR K Ka (Str.ofString "letters"):=w_Machine_letters;have bQ:mR K Ka (Str.ofString "many"):=w_Machine_many;have bY:mR K Ka (Str.ofString "ranks"):=w_Machine_ranks;have aX:mR K Ka (Str.ofString "steps"):=w_Machine_steps;have PK:=Jp (st:=dO) l25 c25 k25;have x_:=PK.Xf (ps:=["self","room","text"]) λ_ _ _ _ _ _=>Ms (λ_ _ _=>rfl)
 have QK:=bGb (st:=fJ) l44 c44 k44;have y_:=QK.binds (ps:=["self","steps","ranks"]) λ_ _ _ _ _ _=>Ms (λ_ _ _=>rfl)
 have RK:=Jp (st:=jA) l50 c50 k50;have Xt:Binds K _ ["self","word","room"] []:=RK.binds (m:=3) t50 rfl rfl λ_ _ _ _ _ _=>Ms (λ_ _ _=>⟨_,rfl,rfl⟩)
 have SK:=Jp (st:=jB) l51 c51 k51;have Yt:Binds K _ ["self","word","room"] [.int 0 Ej]:=SK.binds (m:=2) t51 rfl rfl λ_ _ _ _ _ _=>bE (λ_ _=>⟨_,rfl,rfl⟩)
 have TK:=Jp (st:=Lk) l52 c52 k52;have b52:=TK.Xf (ps:=["_law_script"]) λ_ _ _ _ _ _=>aE (λ_=>rfl)
 have Qi:=Xh X G z_all;have sy:=Xh X G z_bool;have Ly:=Xh X G z_int;have cG:=Xh X G z_isinstance;have bR:=Xh X G z_len;have iJ:=Xh X G z_list;have Oi:=Xh X G z_max;have cW:=Xh X G z_range;have Wn:=Xh X G z_set;have ox:=Xh X G z_sorted;have My:=Xh X G z_str;have Qx:=Xh X G z_tuple;have Ky:=Xh X G z_zip;have pb:=mg_of X G v_LETTERS;have Ub:=mg_of X G v_MOST_LETTERS;have vc:=mg_of X G v_MOST_ROOMS;refine⟨fnOf "law" "law" (fX Lk) (dY Lk) (aH Lk) .none Rv Ru Yv Wt wo Qu,λs v=>.of_eq rfl,λbase _ _=>?_⟩
 have C:Ct l.prog w K mg base h:=⟨X,G⟩;have dF:=D1.ok C (Q5 bR);have bV:=D2.ok C f7;have pC:=D3.ok C (F4 dF bV cW);have sX:=D4.ok C (t5 bR dF bV cW iJ);have pD:=D5.ok C (G4 bR dF bV cW sX);have cO:=D6.ok C i7;have bO:=D7.ok C (j7 cW cO);have gB:=D8.ok C Y8;have jM:=D9.ok C (u5 cO bO gB);have sY:=G2.ok C (v5 bR bO);have qN:=J2.ok C (T4 cO bO gB jM sY);have fK:=K2.ok C (w5 qN ka aX);have uZ:=N2.ok C (R5 cW iJ gB ka bQ);have vA:=O2.ok C (S5 jM ka aX uZ);have iM:=P2.ok C (U4 fK vA);have nW:=Q2.ok C (o7 bO ka bY Oi);have jC:=S2.ok C (Z8 nW);have qO:=T2.ok C (V4 bO gB ka bY nW);have iK:=U2.ok C (W4 fK qO jC);have jf:∀n,Ha l.prog w K mg base "longest_row" (7+n) 3 (kJ n):=by
  intro n
  induction n with
  |zero=>exact MK.ok C (λF=>cR (k:=6) F uJ 3 6 nO rfl rfl λ_ _ _ _ _ _ _ _=>rS)
  |succ n ih=>exact MK.ok C (X4 bR jC iK ih)
 have qP:Ha l.prog w K mg base "longest_row" 19 3 mY:=jf 12;have lJ:=V2.ok C (T5 bR Ky pb);have nM:=W2.P1 C (u4 cW iJ ka aX bQ lJ);have Kw:=X2.ok C (b9 fK);have Yr:=Y2.ok C (N' cO bO ka aX lJ);have Ad:=zR (P:=l.prog) (w:=w) (mg:=mg) (base:=base) ka aX pb PK;have bZ:Zb l.prog w K mg base "Machine" "rooms_along" 1 3 [] bJ:=Zb.of (dvs:=[]) ka ⟨a25,e25,k25⟩ Ad x_ (.nil) λ_=>.nil
 have yP:=Z2.ok C (p7 cO bO ka aX pb Kw Yr bZ);have Lw:=d3.ok C (d9 cO nM yP);have lK:=j3.ok C (J4 bR iM qP Lw);have yQ:=u3.ok C (bEr lK);have lL:=A3.ok C (K4 bR yQ);have qQ:=B3.ok C (Y4 bR ox Wn);have nF:=C3.ok C (Z4 bR);have sZ:=E3.ok C A5;have Se:∀n,Ha l.prog w K mg base "ranks_within" (7+n) 3 (jQ n):=by
  intro n
  induction n with
  |zero=>exact NK.ok C (λF=>cR (k:=6) F rQ 3 8 nO rfl rfl λ_ _ _ _ _ _ _ _=>rS)
  |succ n ih=>exact NK.ok C (L4 bO Oi jC iK sZ ih)
 have pB:Ha l.prog w K mg base "ranks_within" 19 3 oN:=Se 12;have mG:=F3.P1 C (B5 cW ka bQ iM pB);have gH:=G3.ok C (M4 yQ nF mG);have rF:=J3.ok C (U5 bR Wn qQ gH);have jD:=K3.ok C (Z3 bR iJ cG);have nY:=L3.ok C (t7 cG Ly sy);have nZ:=M3.ok C (u7 nY);have sx:=N3.ok C (P' bR nZ Qi);have vB:=O3.ok C (V5 bR Qi jD sx vc Ub);have vC:=Q3.ok C (W5 bR iJ cG nY Qi);have Xd:=X3 (P:=l.prog) (w:=w) (mg:=mg) (base:=base) bR iJ ka aX bQ bY vB vC eE QK;have oG:=Ze.of ka ⟨x5_Machine,a44,e44,x6_Machine⟩ Xd y_ (mg_of X G ka.ns);have xK:=R3.ok C (e9 ka aX gH oG);have rG:=S3.ok C (X5 bV cW);have xJ:=T3.ok C (f9 pb cG My);have tD:=U3.ok C (C5 bR cG xJ Qx);have fY:=V3.ok C ka (W3 ka bQ nZ);have ef:=N4 (P:=l.prog) (w:=w) (mg:=mg) (base:=base) bR ka bZ eE tD fY RK;have mH:Xb l.prog w K mg base "Machine" "walk" 4 3 [] kZ:=Xb.of (dvs:=[]) ka ⟨a50,e50,k50⟩ ef Xt (.nil) λ_=>.nil
 have df:=O4 (P:=l.prog) (w:=w) (mg:=mg) (base:=base) ka bY Oi mH SK;have mJ:Xb l.prog w K mg base "Machine" "lets" 5 3 [.int 0] fP:=Xb.of (dvs:=[.int (0)]) ka ⟨a51,e51,k51⟩ df Yt (.cons ⟨_,rfl⟩ (.nil)) λ_=>.cons (bM.mpr rfl) (.nil)
 have Uu:=bLm (P:=l.prog) (w:=w) (mg:=mg) (base:=base) bR oG pC pD lL rF xK rG mJ TK;exact Uu
theorem bEs{q:Program} {K:Params->Frag} {as:List Addr} {t:Nat} {r:PySem.W.RowW} {d:DefRec} {C1:List (Str×Expr)} {run:Value->List Value->Sem Value} (e:∀P,as=(K P).map (·.1)) (h:WalkO q loose XP (InK K) r d C1 run):PySem.W.WalkX q loose XP (PySem.W.X.obsZ as) (PySem.W.X.valZ K n t) r d C1 run:=
 λw ua Wa mg mb G y a o pm cd doc dV kV h1 h2 h3 h4 h5 h6 args vals as' L h7 h8 h9 NH h11=>h w ua Wa mg mb G (PySem.W.InK.keeps w _ _ (PySem.W.X.z_facts e y).2.1 L.keeps) a o pm cd doc dV kV h1 h2 h3 h4 h5 h6 args vals as' h7 h8 h9 NH h11
theorem walk{l:OpenLaw}{q:Program} {YP:World->Heap->Prop} {d:DefRec} {K:Params->Frag} (hn:l.most=some 63) (sv:d.params.defaults=[])
  (hY:∀(w:World)(h:Heap),YP w h->(K w.params).In h)
  (nI:∀ns:List Int,ns.length<=63->kq [.lst (ns.map D.int)]=.ok (.bl true))
  (F:∀(w:World)(mg:Str->Option Value)(fa:Addr)(h:Heap),(K w.params).In h->h.Ns mainGlobals mg->mg d.name=some (.ref fa)->
   ∃fd:FuncData,(∀(s:Shared)(u:Value),BindsTo s fd ⟨[u],[]⟩ [("_law_script",u)])/\∀base:Heap,(K w.params).In base->base.Ns mainGlobals mg->Ja l.prog w (K w.params) mg base yb 24 fa fd ["_law_script"] (Sb (K w.params) 1 kq)) :
  WalkO q loose XP YP l.row.toRowW d [] (λf vs=>PySem.call f vs):=
 L2.fm (n:=63) (k:=24) (x:="_law_script") (CX:=λ_=>yb) (sp:=λw=>Sb (K w.params) 1 kq) hn (by decide) sv ⟨rfl,by decide,by decide⟩ hY F (λ_ _ a ns hl _ hS=>bHv hS (nI ns hl)) λ_ _ _ _ _ z=>z
end Pu
namespace PySem.W.Fast
def tw11070807204157104907:=0
def tw15316310962848288707:=0
def tw15041075329408752174:=0
def tw17997759105299490325:=0
def tw2084550457132846987:=0
def tw2306580920410304195:=0
def tw4440263469860194259:=0
def tw870625829133774452:=0
def tw3272850599335170156:=0
def tw10949018852084046764:=0
def tw2328941858847017499:=0
def tw11554569805391268469:=0
def tw5211506537771345245:=0
def tw6760401454246250133:=0
def tw17659340016819881598:=0
def tw5076728256956104912:=0
def tw1320435505151221742:=0
def tw873965048428852068:=0
def tw3646784887435585427:=0
def tw16504402343192064954:=0
def tw14266877481906647609:=0
def tw10566254500267370352:=0
def tw1274979333323229887:=0
def tw11594382845867351261:=0
def tw16218902608621813004:=0
def tw9321775085284586685:=0
def tw11969958300618661073:=0
def tw18295326234019669278:=0
def tw8465854962971739428:=0
def tw4749444351048681671:=0
def tw6719057281611933865:=0
def tw6409191643268580092:=0
def tw3523709494960893278:=0
def tw3034553803832595741:=0
def tw15896204312233312336:=0
def tw370394515143390899:=0
def tw2066671580473574022:=0
def tw315641834979499730:=0
def tw4088928961474321319:=0
def tw7570655503898600899:=0
def tw4044375029847030679:=0
def tw12943912147029796472:=0
def tw14964613099332349811:=0
def tw3021054200300129077:=0
def tw10338810449253957785:=0
def tw14530616391914168609:=0
def tw1342413155723375288:=0
def tw163325742305694455:=0
def tw1324838210059658138:=0
def tw15081941756944998671:=0
def tw7864556125701923378:=0
def tw11620099486005476918:=0
def tw16137507858886596369:=0
def tw9300135534853977865:=0
def tw5748960768256385472:=0
def tw2268405049827838567:=0
def tw18272228703345416315:=0
def tw14389047583300340369:=0
def tw7335007946541255498:=0
def tw15128351706932906881:=0
def tw16107856448506324741:=0
def tw6662637961073197534:=0
def tw5045647955296116501:=0
def tw18057052345817840286:=0
def tw13438727557152496366:=0
def tw3354534717166073966:=0
def tw12827961983444660131:=0
def tw5883847772943244302:=0
def tw12214528417042796724:=0
def tw13647052645732704847:=0
def tw15193060698296144660:=0
def tw9846894865238155825:=0
def tw11712747415151570567:=0
def tw6656091000071594276:=0
def tw3844317349029630495:=0
def tw6335670178754499810:=0
def tw14413016231134239927:=0
def tw199361054231792296:=0
def tw6356518650288000776:=0
def tw7504101983613245615:=0
def tw1640372713120542740:=0
def tw10016694011882092106:=0
def tw16787109024992240899:=0
def tw17874227893773994687:=0
def tw6906074402526910047:=0
def tw2723102904619158912:=0
def tw9493317079239204571:=0
def tw1105474975329308755:=0
def tw27912930181506344:=0
def tw6652249594214276567:=0
def tw2057811531890542471:=0
def tw9321835680105119724:=0
def tw3019884707728041746:=0
def tw2724672442267422228:=0
def tw12092142399425525718:=0
def tw6990623072308062824:=0
def tw4461693879311651095:=0
def tw15688205947045105520:=0
def tw1785246635947809250:=0
def tw775605688023982067:=0
def tw8530208402259631060:=0
def tw12089152660813754882:=0
def tw18014596169862784865:=0
def tw15633883252411316512:=0
def tw5308377079233839647:=0
def tw2947903665801635512:=0
def tw12901162282023494935:=0
def tw11699651738763606235:=0
def tw3885256093583742298:=0
def tw10284595188018148565:=0
def tw11925271413268722590:=0
def tw11479929476156312712:=0
def tw17810387293080942257:=0
def tw8765496988957827890:=0
def tw16530527877958649825:=0
def tw13318437496385885085:=0
def tw585623028281825519:=0
def tw8430475934663944672:=0
def tw13823469482254723854:=0
def tw8227795774382602183:=0
def tw2838549537633851251:=0
def tw4805827384572627208:=0
def tw7276230523664842757:=0
def tw10799321282096620316:=0
def tw11968509930069914476:=0
def tw8909201425418079840:=0
def tw9364160199022943018:=0
def tw14101881218070698273:=0
def tw13486676193331969237:=0
def tw6380176298408076350:=0
def tw16659781613752999318:=0
def tw17089813143901660769:=0
def tw6295850731994571196:=0
def tw10107790649412620714:=0
def tw3274613792334292451:=0
def tw17133681889092724046:=0
def tw18354511664879336042:=0
def tw1026897601351595671:=0
def tw9393208908416826713:=0
def tw18360137179339195307:=0
def tw7847082472925285400:=0
def tw16056106434431628890:=0
def tw859876166601682848:=0
def tw5690645957210536933:=0
def tw2460725147350399528:=0
def tw8513945004760979265:=0
end PySem.W.Fast
open PySem PySem.W PyProof.Rows
set_option maxRecDepth 100000 in
set_option maxHeartbeats 0 in
theorem PySem.Challenge.cw_looprank_k34_whole_alike_needs_as_many_holds : PySem.Challenge.rw_looprank_k34_whole_alike_needs_as_many.Holds := by
 w_on;o_law;z_head;(case hw=>w_witness2)
 k_fill
 refine Pu.bEs (λP=>by kernel_rfl) (Pu.walk (l:=PySem.Challenge.rw_looprank_k34_whole_alike_needs_as_many) rfl rfl (λw h Y=>Y) Pu.law_true ?F)
 case F=>
  intro w mg fa h KX G hmg;refine' Pu.all_mk KX G hmg ⟨?x_Machine,?x1_Machine,?x2_Machine,?x3_Machine,?x4_Machine⟩ ?x5_Machine ?x6_Machine ?w_Machine_letters ?w_Machine_many ?w_Machine_ranks ?w_Machine_steps (Pu.dG ?a1 ?l1 ?c1 ?k1) (Pu.dG ?a2 ?l2 ?c2 ?k2) (Pu.dG ?a3 ?l3 ?c3 ?k3) (Pu.dG ?a4 ?l4 ?c4 ?k4) (Pu.dG ?a5 ?l5 ?c5 ?k5) (Pu.dG ?a6 ?l6 ?c6 ?k6) (Pu.dG ?a7 ?l7 ?c7 ?k7) (Pu.dG ?a8 ?l8 ?c8 ?k8) (Pu.dG ?a9 ?l9 ?c9 ?k9) (Pu.dG ?a10 ?l10 ?c10 ?k10) (Pu.dG ?a11 ?l11 ?c11 ?k11) (Pu.dG ?a12 ?l12 ?c12 ?k12) (Pu.dG ?a13 ?l13 ?c13 ?k13) (Pu.dG ?a14 ?l14 ?c14 ?k14) (Pu.dG ?a15 ?l15 ?c15 ?k15) (Pu.dG ?a16 ?l16 ?c16 ?k16) (Pu.dG ?a17 ?l17 ?c17 ?k17) (Pu.dG ?a18 ?l18 ?c18 ?k18) (Pu.dG ?a19 ?l19 ?c19 ?k19) (Pu.dG ?a20 ?l20 ?c20 ?k20) (Pu.dG ?a21 ?l21 ?c21 ?k21) (Pu.dG ?a22 ?l22 ?c22 ?k22) (Pu.dG ?a23 ?l23 ?c23 ?k23) (Pu.dG ?a24 ?l24 ?c24 ?k24) ?a25 ?e25 ?l25 ?c25 ?k25 (Pu.dG ?a26 ?l26 ?c26 ?k26) (Pu.dG ?a27 ?l27 ?c27 ?k27) (Pu.dG ?a28 ?l28 ?c28 ?k28) (Pu.dG ?a29 ?l29 ?c29 ?k29) (Pu.dG ?a30 ?l30 ?c30 ?k30) (Pu.dG ?a31 ?l31 ?c31 ?k31) (Pu.dG ?a32 ?l32 ?c32 ?k32) (Pu.dG ?a33 ?l33 ?c33 ?k33) (Pu.dG ?a34 ?l34 ?c34 ?k34) (Pu.dG ?a35 ?l35 ?c35 ?k35) (Pu.dG ?a36 ?l36 ?c36 ?k36) (Pu.dG ?a37 ?l37 ?c37 ?k37) (Pu.dG ?a38 ?l38 ?c38 ?k38) (Pu.dG ?a39 ?l39 ?c39 ?k39) (Pu.dG ?a40 ?l40 ?c40 ?k40) (Pu.dG ?a41 ?l41 ?c41 ?k41) (Pu.dG ?a42 ?l42 ?c42 ?k42) (Pu.dG ?a43 ?l43 ?c43 ?k43) ?a44 ?e44 ?l44 ?c44 ?k44 (Pu.dG ?a45 ?l45 ?c45 ?k45) (Pu.dG ?a46 ?l46 ?c46 ?k46) (Pu.dG ?a47 ?l47 ?c47 ?k47) (Pu.dG ?a48 ?l48 ?c48 ?k48) (Pu.bLi ?a49 ?e49 ?l49 ?c49 ?k49) ?a50 ?e50 ?l50 ?t50 ?c50 ?k50 ?a51 ?e51 ?l51 ?t51 ?c51 ?k51 ?a52 ?l52 ?c52 ?k52 ?v_LETTERS ?v_MOST_LETTERS ?v_MOST_ROOMS ?z_all ?z_bool ?z_int ?z_isinstance ?z_len ?z_list ?z_max ?z_range ?z_set ?z_sorted ?z_str ?z_tuple ?z_zip
  (case x_Machine|x1_Machine|x2_Machine|x3_Machine|x4_Machine|x5_Machine|x6_Machine|w_Machine_letters|w_Machine_many|w_Machine_ranks|w_Machine_steps|a1|l1|c1|k1|a2|l2|c2|k2|a3|l3|c3|k3|a4=>k_is)
  (case l4|c4|k4|a5|l5|c5|k5|a6|l6|c6|k6|a7|l7|c7|k7|a8|l8|c8|k8|a9|l9|c9|k9|a10=>k_is)
  (case l10|c10|k10|a11|l11|c11|k11|a12|l12|c12|k12|a13|l13|c13|k13|a14|l14|c14|k14|a15|l15|c15|k15|a16=>k_is)
  (case l16|c16|k16|a17|l17|c17|k17|a18|l18|c18|k18|a19|l19|c19|k19|a20|l20|c20|k20|a21|l21|c21|k21|a22=>k_is)
  (case l22|c22|k22|a23|l23|c23|k23|a24|l24|c24|k24|a25|e25|l25|c25|k25|a26|l26|c26|k26|a27|l27|c27|k27=>k_is)
  (case a28|l28|c28|k28|a29|l29|c29|k29|a30|l30|c30|k30|a31|l31|c31|k31|a32|l32|c32|k32|a33|l33|c33|k33=>k_is)
  (case a34|l34|c34|k34|a35|l35|c35|k35|a36|l36|c36|k36|a37|l37|c37|k37|a38|l38|c38|k38|a39|l39|c39|k39=>k_is)
  (case a40|l40|c40|k40|a41|l41|c41|k41|a42|l42|c42|k42|a43|l43|c43|k43|a44|e44|l44|c44|k44|a45|l45|c45=>k_is)
  (case k45|a46|l46|c46|k46|a47|l47|c47|k47|a48|l48|c48|k48|a49|e49|l49|c49|k49|a50|e50|l50|t50|c50|k50=>k_is)
  (case a51|e51|l51|t51|c51|k51|a52|l52|c52|k52|v_LETTERS|v_MOST_LETTERS|v_MOST_ROOMS|z_all|z_bool|z_int|z_isinstance|z_len|z_list|z_max|z_range|z_set|z_sorted|z_str=>k_is)
  (case z_tuple|z_zip=>k_is)
