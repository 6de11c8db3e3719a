import PyProof.Rows.All
import Wide.All
import OpenK.AllK
import Wide.FinOn
import Lean
import PyProof.EqAt
import PyProof.EqKinds
import PyProof.TupleCall
import PyProof.P3Eq
import PyProof.NeKinds
import PyProof.NsDelKeeps
import PyProof.RulesAs
import PyProof.ExcAttrAll.ValueError
import PySem.Challenge.RW_looprank_k08_refusals_told_apart
set_option Elab.async false
set_option linter.all false
set_option maxRecDepth 100000
namespace L2
open PySem PySem.Spec PyProof.Rows
abbrev Key := Sum Int Str
def keyIs : Key -> Value -> Bool
 | .inl k, v => Value.isInt k v
 | .inr x, v => Value.isStrOf x v
def keyH (w : World) : Key -> Int
 | .inl k => hashInt k
 | .inr x => hashStr w x
theorem keyIs_shape : ∀ {k : Key} {v : Value}, keyIs k v = true -> (∃ i t, k = Sum.inl i /\ v = Value.int i t) \/ (∃ x t, k = Sum.inr x /\ v = Value.str x t)
 | .inl i, v, h => by
  obtain ⟨t, e⟩ := Value.isInt_shape (k := i) (v := v) h
  exact .inl ⟨i, t, rfl, e⟩
 | .inr x, v, h => by
  obtain ⟨t, e⟩ := Value.isStrOf_shape (x := x) (v := v) h
  exact .inr ⟨x, t, rfl, e⟩
theorem keyIs_int (i : Int) (t : Tok) : keyIs (.inl i) (.int i t) = true := by simp [keyIs, Value.isInt]
theorem keyIs_str (x : Str) (t : Tok) : keyIs (.inr x) (.str x t) = true := by simp [keyIs, Value.isStrOf]
theorem key_ll (a b : Int) : decide ((Sum.inl a : Key) = Sum.inl b) = (a == b) := by
 by_cases e : a = b
 ·subst e; simp
 ·have h : ¬ (Sum.inl a : Key) = Sum.inl b := fun q => e (Sum.inl.inj q)
  rw [decide_eq_false h]
  exact (beq_eq_false_iff_ne.mpr e).symm
theorem key_rr (a b : Str) : decide ((Sum.inr a : Key) = Sum.inr b) = decide (a = b) := by
 by_cases e : a = b
 ·subst e; simp
 ·have h : ¬ (Sum.inr a : Key) = Sum.inr b := fun q => e (Sum.inr.inj q)
  rw [decide_eq_false h, decide_eq_false e]
theorem key_lr (a : Int) (b : Str) : decide ((Sum.inl a : Key) = Sum.inr b) = false := decide_eq_false (fun q => nomatch q)
theorem key_rl (a : Str) (b : Int) : decide ((Sum.inr a : Key) = Sum.inl b) = false := decide_eq_false (fun q => nomatch q)
def mixKind (prog : Program) (w : World) : PySem.KeyKind prog w Key where
 is := keyIs
 hash := keyH w
 inj := fun v a b ha hb => by
  rcases keyIs_shape ha with ⟨i, t, rfl, rfl⟩ | ⟨x, t, rfl, rfl⟩
  ·rcases keyIs_shape hb with ⟨j, u, rfl, e⟩ | ⟨y, u, rfl, e⟩
   ·injection e with e1 _; rw [e1]
   ·exact nomatch e
  ·rcases keyIs_shape hb with ⟨j, u, rfl, e⟩ | ⟨y, u, rfl, e⟩
   ·exact nomatch e
   ·injection e with e1 _; rw [e1]
 byValue := fun k v h => by
  rcases keyIs_shape h with ⟨i, t, rfl, rfl⟩ | ⟨x, t, rfl, rfl⟩ <;> rfl
 pyHash := fun hv h => by
  rcases keyIs_shape hv with ⟨i, t, rfl, rfl⟩ | ⟨x, t, rfl, rfl⟩
  ·exact wpAny_pyHash_int h
  ·exact wpAny_pyHash_str h
 eqBool := fun hu hv h => by
  rcases keyIs_shape hu with ⟨i, t, rfl, rfl⟩ | ⟨x, t, rfl, rfl⟩
  ·rcases keyIs_shape hv with ⟨j, u, rfl, rfl⟩ | ⟨y, u, rfl, rfl⟩
   ·rw [key_ll] at h; exact wpAny_eqBool_int h
   ·rw [key_lr] at h; exact SeqAt.EqAt.int_str i t y u _ _ _ _ h
  ·rcases keyIs_shape hv with ⟨j, u, rfl, rfl⟩ | ⟨y, u, rfl, rfl⟩
   ·rw [key_rl] at h; exact SeqAt.EqAt.str_int x t j u _ _ _ _ h
   ·rw [key_rr] at h; exact wpAny_eqBool_str h
 «strs» := fun k x t v h => by
  rcases keyIs_shape h with ⟨i, u, rfl, e⟩ | ⟨y, u, rfl, e⟩
  ·exact nomatch e
  ·injection e with e1 _
   subst e1
   cases v <;> rfl
theorem mixKind_int (prog : Program) (w : World) (i : Int) (t : Tok) : (mixKind prog w).is (.inl i) (.int i t) = true := keyIs_int i t
theorem mixKind_str (prog : Program) (w : World) (x : Str) (t : Tok) : (mixKind prog w).is (.inr x) (.str x t) = true := keyIs_str x t
end L2
namespace L2
open PySem PySem.Spec PyProof.Rows
inductive V where
 | non | bl (b : Bool) | int (i : Int) | str (x : Str) | byt (b : Array UInt8) | flt (b : UInt64) | ref (a : Addr) | ty (n : String)
 deriving DecidableEq
def RelV : V -> Value -> Prop
 | .non, u => u = Value.none
 | .bl b, u => u = Value.bool b
 | .int i, u => ∃ t, u = Value.int i t
 | .str x, u => ∃ t, u = Value.str x t
 | .byt b, u => ∃ t, u = Value.bytes b t
 | .flt b, u => ∃ t, u = Value.float b t
 | .ref a, u => u = Value.ref a
 | .ty n, u => u = Value.type n
abbrev Vals : List V -> List Value -> Prop := Paired RelV
theorem Vals.length {xs : List V} {us : List Value} (r : Vals xs us) : xs.length = us.length := Paired.length r
theorem Vals.get : ∀ {xs : List V} {us : List Value} {i : Nat} {x : V}, Vals xs us -> xs[i]? = some x -> ∃ u, us[i]? = some u /\ RelV x u
 | _, _, _, _, .nil, e => by simp at e
 | _, _, 0, _, .cons r _, e => by simp at e; subst e; exact ⟨_, rfl, r⟩
 | _, _, i + 1, x, .cons _ t, e => by
  obtain ⟨u, h1, h2⟩ := Vals.get (i := i) (x := x) t (by simpa using e)
  exact ⟨u, by simpa using h1, h2⟩
theorem Vals.set {x : V} {u : Value} (r : RelV x u) : ∀ {xs : List V} {us : List Value} (i : Nat), Vals xs us -> Vals (xs.set i x) (us.set i u)
 | _, _, _, .nil => .nil
 | _, _, 0, .cons _ t => .cons r t
 | _, _, i + 1, .cons q t => .cons q (Vals.set r i t)
theorem Vals.append : ∀ {xs ys : List V} {us ws : List Value}, Vals xs us -> Vals ys ws -> Vals (xs ++ ys) (us ++ ws)
 | _, _, _, _, .nil, s => s
 | _, _, _, _, .cons r t, s => .cons r (Vals.append t s)
theorem Vals.take : ∀ {xs : List V} {us : List Value} (n : Nat), Vals xs us -> Vals (xs.take n) (us.take n)
 | _, _, 0, _ => .nil
 | _, _, _ + 1, .nil => .nil
 | _, _, n + 1, .cons r t => .cons r (Vals.take n t)
theorem Vals.drop : ∀ {xs : List V} {us : List Value} (n : Nat), Vals xs us -> Vals (xs.drop n) (us.drop n)
 | _, _, 0, r => r
 | _, _, _ + 1, .nil => .nil
 | _, _, n + 1, .cons _ t => Vals.drop n t
def RelO : Option V -> Option Value -> Prop
 | some v, some u => RelV v u
 | none, none => True
 | _, _ => False
def KV {κ : Type} : List (κ × V) -> List (κ × Value) -> Prop := Paired fun (p : κ × V) (q : κ × Value) => p.1 = q.1 /\ RelV p.2 q.2
def kV : Key -> V
 | .inl i => .int i
 | .inr x => .str x
inductive HO where
 | lst (xs : List V)
 | tup (xs : List V)
 | dK (kvs : List (Key × V)) | dT (kvs : List (List Key × V))
 | set (S : Int -> Bool) (n : Nat)
 | ins (C dx : Addr) (fs : List (Str × V))
 | own (x : Addr)
 | xd (fs : List (Str × V))
 | met (f x : Addr)
 | rng (lo hi : Int)
 | frz (o : Obj) (u : HO)
 | tbl (ps : Array Value)
 | ext (φ : Heap -> Prop)
abbrev Hp := Addr -> Option HO
def upd (H : Hp) (a : Addr) (o : HO) : Hp := fun b => if b = a then some o else H b
theorem upd_same {H : Hp} {a : Addr} {o : HO} : upd H a o a = some o := by unfold upd; rw [if_pos rfl]
theorem upd_ne {H : Hp} {a b : Addr} {o : HO} (h : b ≠ a) : upd H a o b = H b := by unfold upd; rw [if_neg h]
theorem upd_upd {H : Hp} {a : Addr} {o u : HO} : upd (upd H a o) a u = upd H a u := by
 funext b; unfold upd; split <;> rfl
theorem ne_of_none {H : Hp} {a b : Addr} {o : HO} (h : H a = some o) (h' : H b = none) : a ≠ b := by
 intro e; subst e; rw [h] at h'; cases h'
section
variable (P : Program) (w : World)
def ObjOk (H : Hp) (h : Heap) (a : Addr) : HO -> Prop
 | .lst xs => xs.length <= sizeLine /\ ∃ (its : List Value) (n : Nat), Vals xs its /\ h.get? a = some { cls := .type "list", data := .seq its.toArray n }
 | .tup xs => xs.length <= sizeLine /\ ∃ its : List Value, Vals xs its /\ IsTup h a its.toArray
 | .dK kvs => kvs.length <= sizeLine /\ (a == sysModules) = false /\ ∃ vs, KV kvs vs /\ h.DictOf (mixKind P w) a vs
 | .dT kvs => kvs.length <= sizeLine /\ (a == sysModules) = false /\ ∃ xs : List (List Key × Addr × Value),
   Paired (fun (p : List Key × V) (q : List Key × Addr × Value) => p.1 = q.1 /\ H q.2.1 = some (.tup (p.1.map kV)) /\ RelV p.2 q.2.2) kvs xs /\
   ∃ o es ep, h.get? a = some o /\ o.ExactDict /\ o.data = .dict es ep /\ es.toList = xs.map (entryOfKey (tupleKind (mixKind P w))) /\ (xs.map (·.1)).Nodup
 | .set S n => h.SetOf (intKind P w) a S n
 | .ins C dx fs => H dx = some (.own a) /\ fs.length <= 1000 /\ dx ≠ a /\ h.get? a = some (PySem.W.instObj C dx) /\
   ∃ mA, h.Ns1 dx mA /\ (∀ f, RelO (fs.lookup f) (mA f)) /\ PySem.Within mA (fs.map (·.1))
 | .own _ => ∃ o, h.get? a = some o
 | .xd fs => ∃ mA, h.Ns1 a mA /\ ∀ f, RelO (fs.lookup f) (mA f)
 | .rng lo hi => ∃ t u v, h.get? a = some { cls := .type "range", data := .fields #[.int lo t, .int hi u, .int 1 v] }
 | .frz o u => h.get? a = some o /\ ObjOk H h a u
 | .tbl ps => h.get? a = some { cls := .none, data := .fields ps }
 | .met f x => h.get? a = some (PySem.W.methodObj (.ref f) (.ref x))
 | .ext φ => φ h /\ (∃ o, h.get? a = some o) /\ ∀ h1 h2 : Heap, φ h1 -> (∀ o, h1.get? a = some o -> h2.get? a = some o) -> φ h2
def HOk (H : Hp) (h : Heap) : Prop := ∀ a o, H a = some o -> ObjOk P w H h a o
end
section
variable {P : Program} {w : World} {H H' : Hp} {h h' : Heap} {a : Addr} {o : HO}
theorem ObjOk.lt (x : ObjOk P w H h a o) : a < h.objs.size := by
 cases o with
 | lst xs => obtain ⟨_, _, _, _, e⟩ := x; exact Heap.lt_size e
 | tup xs => obtain ⟨_, _, _, p⟩ := x; exact p.lt
 | dK kvs => obtain ⟨_, _, _, _, o, _, _, e, _⟩ := x; exact Heap.lt_size e
 | dT kvs => obtain ⟨_, _, _, _, o, _, _, e, _⟩ := x; exact Heap.lt_size e
 | set S n => obtain ⟨o, _, _, _, e, _⟩ := x; exact Heap.lt_size e
 | ins C dx fs => obtain ⟨_, _, _, e, _⟩ := x; exact Heap.lt_size e
 | own y => obtain ⟨_, e⟩ := x; exact Heap.lt_size e
 | xd fs => obtain ⟨_, ⟨_, _, _, e, _⟩, _⟩ := x; exact Heap.lt_size e
 | rng lo hi => obtain ⟨_, _, _, e⟩ := x; exact Heap.lt_size e
 | frz ob u => obtain ⟨e, _⟩ := x; exact Heap.lt_size e
 | tbl ps => exact Heap.lt_size (show h.get? a = some _ from x)
 | met f y => exact Heap.lt_size (show h.get? a = some _ from x)
 | ext φ => obtain ⟨_, ⟨_, e⟩, _⟩ := x; exact Heap.lt_size e
theorem Paired.mapP {α β : Type} {F G : α -> β -> Prop} : ∀ {l₁ : List α} {l₂ : List β}, Paired F l₁ l₂ -> (∀ a b, F a b -> G a b) -> Paired G l₁ l₂
 | _, _, .nil, _ => .nil
 | _, _, .cons r t, f => .cons (f _ _ r) (Paired.mapP t f)
theorem ObjOk.stay (x : ObjOk P w H h a o) (k : ∀ b u, (b = a \/ H b = some (.own a)) -> h.get? b = some u -> h'.get? b = some u)
  (ho : ∀ b, H b = some (.own a) -> H' b = some (.own a)) (ht : ∀ b xs, H b = some (.tup xs) -> H' b = some (.tup xs)) : ObjOk P w H' h' a o := by
 induction o with
 | lst xs => obtain ⟨z, its, n, r, e⟩ := x; exact ⟨z, its, n, r, k _ _ (.inl rfl) e⟩
 | tup xs => obtain ⟨z, its, r, ob, e, c⟩ := x; exact ⟨z, its, r, ob, k _ _ (.inl rfl) e, c⟩
 | dK kvs => obtain ⟨z, y, vs, r, ob, es, ep, e, c⟩ := x; exact ⟨z, y, vs, r, ob, es, ep, k _ _ (.inl rfl) e, c⟩
 | dT kvs =>
  obtain ⟨z, y, xs, r, ob, es, ep, e, c⟩ := x
  exact ⟨z, y, xs, Paired.mapP r fun p q z => ⟨z.1, ht _ _ z.2.1, z.2.2⟩, ob, es, ep, k _ _ (.inl rfl) e, c⟩
 | set S n => obtain ⟨ob, es, ep, t, e, c⟩ := x; exact ⟨ob, es, ep, t, k _ _ (.inl rfl) e, c⟩
 | ins C dx fs =>
  obtain ⟨d, z, ne, e, mA, ⟨od, es, ep, e2, c⟩, r⟩ := x
  exact ⟨ho _ d, z, ne, k _ _ (.inl rfl) e, mA, ⟨od, es, ep, k _ _ (.inr d) e2, c⟩, r⟩
 | own y => obtain ⟨ob, e⟩ := x; exact ⟨ob, k _ _ (.inl rfl) e⟩
 | xd fs => obtain ⟨mA, ⟨od, es, ep, e, c⟩, r⟩ := x; exact ⟨mA, ⟨od, es, ep, k _ _ (.inl rfl) e, c⟩, r⟩
 | rng lo hi => obtain ⟨t, u, v, e⟩ := x; exact ⟨t, u, v, k _ _ (.inl rfl) e⟩
 | frz ob u ih => obtain ⟨e, q⟩ := x; exact ⟨k _ _ (.inl rfl) e, ih q⟩
 | tbl ps =>
  have e : h.get? a = some { cls := .none, data := .fields ps } := x
  show h'.get? a = some { cls := .none, data := .fields ps }
  exact k a _ (.inl rfl) e
 | met f y =>
  have e : h.get? a = some (PySem.W.methodObj (.ref f) (.ref y)) := x
  show h'.get? a = some (PySem.W.methodObj (.ref f) (.ref y))
  exact k a _ (.inl rfl) e
 | ext φ => obtain ⟨p, ⟨o, e⟩, st⟩ := x; exact ⟨st _ _ p fun o q => k _ _ (.inl rfl) q, ⟨o, k _ _ (.inl rfl) e⟩, st⟩
theorem HOk.lt (x : HOk P w H h) (e : H a = some o) : a < h.objs.size := (x a o e).lt
theorem HOk.fresh (x : HOk P w H h) (e : h.objs.size <= a) : H a = none := by
 cases q : H a with
 | none => rfl
 | some u => exact absurd (Nat.lt_of_lt_of_le (x.lt q) e) (Nat.lt_irrefl _)
theorem HOk.kept (x : HOk P w H h) (k : ∀ b u, h.get? b = some u -> h'.get? b = some u) : HOk P w H h' := fun a o e =>
 (x a o e).stay (fun b u _ q => k b u q) (fun _ q => q) fun _ _ q => q
theorem HOk.laid (x : HOk P w H h) (k : ∀ b u, h.get? b = some u -> h'.get? b = some u) (hp : h.objs.size <= a) (new : ObjOk P w (upd H a o) h' a o) : HOk P w (upd H a o) h' := fun b u e => by
 have hn := x.fresh hp
 by_cases hb : b = a
 ·subst hb; rw [upd_same] at e; cases e; exact new
 ·rw [upd_ne hb] at e
  exact (x b u e).stay (fun c v _ q => k c v q) (fun c q => by rw [upd_ne (ne_of_none q hn)]; exact q) fun c xs q => by rw [upd_ne (ne_of_none q hn)]; exact q
end
def Rd (H : Hp) (a : Addr) (u : HO) : Prop := H a = some u \/ ∃ o, H a = some (.frz o u)
theorem Rd.of {H : Hp} {a : Addr} {u : HO} (h : H a = some u) : Rd H a u := .inl h
theorem Rd.ok {P : Program} {w : World} {H : Hp} {h : Heap} {a : Addr} {u : HO} (r : Rd H a u) (x : HOk P w H h) : ObjOk P w H h a u := by
 rcases r with r | ⟨o, r⟩
 ·exact x a u r
 ·obtain ⟨_, q⟩ := x a _ r
  exact q
def Mut : Option HO -> Prop
 | some (.lst _) => True
 | some (.dK _) => True
 | some (.dT _) => True
 | some (.set _ _) => True
 | some (.ins _ _ _) => True
 | some (.ext _) => True
 | _ => False
section
variable {P : Program} {w : World} {H : Hp} {h h' : Heap} {x e : Addr} {o' : HO}
theorem HOk.write (ok : HOk P w H h) (mu : Mut (H x)) (he : e = x \/ H e = some (.own x)) (k : ∀ b u, b ≠ e -> h.get? b = some u -> h'.get? b = some u) (heo : ∃ u, h'.get? e = some u)
  (new : ObjOk P w (upd H x o') h' x o') : HOk P w (upd H x o') h' := fun b u q => by
 have nown : ∀ c y, H c = some (.own y) -> c ≠ x := fun c y r z => by subst z; rw [r] at mu; exact mu
 have ntup : ∀ c xs, H c = some (.tup xs) -> c ≠ x := fun c xs r z => by subst z; rw [r] at mu; exact mu
 by_cases hb : b = x
 ·subst hb; rw [upd_same] at q; cases q; exact new
 ·rw [upd_ne hb] at q
  by_cases hbe : b = e
  ·have q' : H b = some (.own x) := by
    rcases he with z | z
    ·exact absurd (hbe.trans z) hb
    ·rw [hbe]; exact z
   rw [q] at q'; cases q'
   obtain ⟨v, hv⟩ := heo
   exact ⟨v, by rw [hbe]; exact hv⟩
  ·refine (ok b u q).stay (fun c v hc r => k c v ?_ r) (fun c r => by rw [upd_ne (nown c b r)]; exact r) fun c xs r => by rw [upd_ne (ntup c xs r)]; exact r
   rcases hc with rfl | hc
   ·exact hbe
   ·rintro rfl
    rcases he with z | z
    ·exact nown c b hc z
    ·rw [hc] at z; cases z; exact hb rfl
end
structure Un (fs ex : List Addr) (H H' : Hp) (h h' : Heap) : Prop where
 keep : ∀ b o, h.get? b = some o -> H b = none -> b ∉ fs -> b ∉ ex -> h'.get? b = some o
 slot : ∀ b o, h.get? b = some o -> H b = none -> b ∈ fs -> b ∉ ex -> ∃ sl, h'.get? b = some { o with slots := sl }
 free : ∀ b o, h.get? b = some o -> H b = none -> b ∉ ex -> H' b = none
 there : ∀ b o, h.get? b = some o -> b ∉ ex -> ∃ o', h'.get? b = some o'
 tups : ∀ b xs, H b = some (.tup xs) -> H' b = some (.tup xs)
 frzs : ∀ b o u, H b = some (.frz o u) -> H' b = some (.frz o u)
 tbls : ∀ b ps, H b = some (.tbl ps) -> ∃ more, H' b = some (.tbl (ps ++ more))
section
variable {fs fs' ex ex' : List Addr} {H H1 H2 : Hp} {h h1 h2 h' : Heap} {a x e : Addr} {o : HO}
theorem Un.any (u : Un fs ex H H1 h h1) {b : Addr} {ob : Obj} (q : h.get? b = some ob) (n : H b = none) (hx : b ∉ ex) : ∃ sl, h1.get? b = some { ob with slots := sl } := by
 by_cases hb : b ∈ fs
 ·exact u.slot b ob q n hb hx
 ·exact ⟨ob.slots, u.keep b ob q n hb hx⟩
theorem Un.trans (a : Un fs ex H H1 h h1) (b : Un fs ex H1 H2 h1 h2) : Un fs ex H H2 h h2 where
 keep := fun c ob q n hc hx => b.keep c ob (a.keep c ob q n hc hx) (a.free c ob q n hx) hc hx
 slot := fun c ob q n hc hx => by
  obtain ⟨sl, e1⟩ := a.slot c ob q n hc hx
  obtain ⟨sl', e2⟩ := b.slot c _ e1 (a.free c ob q n hx) hc hx
  exact ⟨sl', e2⟩
 free := fun c ob q n hx => by
  obtain ⟨o', e1⟩ := a.there c ob q hx
  exact b.free c o' e1 (a.free c ob q n hx) hx
 there := fun c ob q hx => by
  obtain ⟨o', e1⟩ := a.there c ob q hx
  exact b.there c o' e1 hx
 tups := fun c xs q => b.tups c xs (a.tups c xs q)
 frzs := fun c ob xs q => b.frzs c ob xs (a.frzs c ob xs q)
 tbls := fun c ps q => by
  obtain ⟨m1, e1⟩ := a.tbls c ps q
  obtain ⟨m2, e2⟩ := b.tbls c _ e1
  exact ⟨m1 ++ m2, by rw [e2, Array.append_assoc]⟩
theorem Un.kept (k : ∀ b u, h.get? b = some u -> h'.get? b = some u) : Un fs ex H H h h' :=
 ⟨fun b ob q _ _ _ => k b ob q, fun b ob q _ _ _ => ⟨ob.slots, k b ob q⟩, fun _ _ _ n _ => n, fun b ob q _ => ⟨ob, k b ob q⟩, fun _ _ q => q, fun _ _ _ q => q, fun _ ps q => ⟨#[], by rw [q]; simp⟩⟩
theorem Un.refl : Un fs ex H H h h := Un.kept fun _ _ q => q
theorem Un.laid (k : ∀ b u, h.get? b = some u -> h'.get? b = some u) (hp : h.objs.size <= a) (hn : H a = none) : Un fs ex H (upd H a o) h h' where
 keep := fun b u q _ _ _ => k b u q
 slot := fun b u q _ _ _ => ⟨u.slots, k b u q⟩
 free := fun b u q n _ => by rw [upd_ne (Nat.ne_of_lt (Nat.lt_of_lt_of_le (Heap.lt_size q) hp))]; exact n
 there := fun b u q _ => ⟨u, k b u q⟩
 tups := fun b xs q => by rw [upd_ne (ne_of_none q hn)]; exact q
 frzs := fun b u xs q => by rw [upd_ne (ne_of_none q hn)]; exact q
 tbls := fun b ps q => ⟨#[], by rw [upd_ne (ne_of_none q hn), q]; simp⟩
theorem Un.write (mu : Mut (H x)) (he : e = x \/ H e = some (.own x)) (k : ∀ b u, b ≠ e -> h.get? b = some u -> h'.get? b = some u) (heo : ∃ u, h'.get? e = some u) : Un fs ex H (upd H x o) h h' := by
 have hx : ∀ b, H b = none -> b ≠ x := fun b n z => by subst z; rw [n] at mu; exact mu
 have hb : ∀ b, H b = none -> b ≠ e := fun b n z => by
  subst z
  rcases he with r | r
  ·exact hx b n r
  ·rw [n] at r; cases r
 have hm : ∀ b u, H b = some u -> ¬ Mut (some u) -> b ≠ x := fun b u q nm z => by subst z; rw [q] at mu; exact nm mu
 refine ⟨fun b u q n _ _ => k b u (hb b n) q, fun b u q n _ _ => ⟨u.slots, k b u (hb b n) q⟩, fun b u q n _ => by rw [upd_ne (hx b n)]; exact n, fun b u q _ => ?_,
  fun b xs q => by rw [upd_ne (hm b _ q fun z => z)]; exact q, fun b u xs q => by rw [upd_ne (hm b _ q fun z => z)]; exact q, fun b ps q => ⟨#[], by rw [upd_ne (hm b _ q fun z => z), q]; simp⟩⟩
 by_cases hbe : b = e
 ·subst hbe; exact heo
 ·exact ⟨u, k b u hbe q⟩
theorem Un.mono (u : Un fs ex H H1 h h1) (hs : ∀ b ∈ fs, b ∈ fs') (hx : ∀ b ∈ ex, b ∈ ex') : Un fs' ex' H H1 h h1 :=
 ⟨fun b ob q n hb he => u.keep b ob q n (fun z => hb (hs b z)) fun z => he (hx b z), fun _ _ q n _ he => u.any q n fun z => he (hx _ z), fun b ob q n he => u.free b ob q n fun z => he (hx b z), fun b ob q he => u.there b ob q fun z => he (hx b z), u.tups, u.frzs, u.tbls⟩
end
def trk (h : Heap) (H : Hp) : List Addr := (List.range h.objs.size).filter fun a => (H a).isSome
def hidT (h : Heap) (H : Hp) : Heap := PySem.W.hideAll h (trk h H)
theorem hidT_size (h : Heap) (H : Hp) : (hidT h H).objs.size = h.objs.size := PySem.W.hideAll_size _ _
theorem hidT_get {h : Heap} {H : Hp} {b : Addr} {o : Obj} (e : h.get? b = some o) (n : H b = none) : (hidT h H).get? b = some o :=
 PySem.W.hideAll_get _ e fun hm => by
  have q : (H b).isSome = true := (List.mem_filter.mp hm).2
  rw [n] at q; simp at q
theorem of_hidT {h : Heap} {H : Hp} {b : Addr} {o : Obj} (e : (hidT h H).get? b = some o) : h.get? b = some o /\ H b = none := by
 have e' : h.get? b = some o := PySem.W.of_hideAll (trk h H) e
 refine ⟨e', ?_⟩
 cases q : H b with
 | none => rfl
 | some x =>
  have hm : b ∈ trk h H := List.mem_filter.mpr ⟨List.mem_range.mpr (Heap.lt_size e'), by simp [q]⟩
  have z : (hidT h H).get? b = none := PySem.W.hideAll_none (trk h H) hm
  rw [z] at e; cases e
def allNews (g h : Heap) (L : Addr) : List (Addr × Obj) := (List.range h.objs.size).filterMap fun a => if a = L \/ (g.get? a).isSome = true then none else (h.get? a).map fun o => (a, o)
def rest (g h : Heap) (L d : Addr) : List (Addr × Obj) := (allNews g h L).filter fun p => decide (p.1 ≠ d)
end L2
namespace L2
open PySem PySem.Spec PyProof.Rows
structure Mod (K : PySem.W.Frag) (mg : Str -> Option Value) (base : Heap) : Prop where
 kin : K.In base
 glob : base.Ns mainGlobals mg
 blt : ∃ mb, base.Ns builtinsNs mb /\ ∀ x : Str, x ≠ "__name__" -> mb x = bootBuiltins x
 nolimit : base.NoLimit
structure Cx where
 prog : Program
 w : World
 K : PySem.W.Frag
 mg : Str -> Option Value
 base : Heap
 A : Around
 N : List Str
 s₀ : Shared
 H₀ : Hp
 env : Env
 outer : List Env
 stack : List Env
 ex : List Addr
 fn : Str -> Bool
 calm : Bool
 pn : List (Addr × Obj)
 xe : Value -> Shared -> Prop
def frs (l : List Env) : List Addr := l.filterMap (·.frame)
abbrev Cx.fs (X : Cx) : List Addr := frs X.outer
def Vis (sc : Scope) (x : Str) : Prop := sc.names.lookup x = some .local \/ sc.names.lookup x = some .cell \/ sc.names.lookup x = some .free
def Loc (sc : Scope) (x : Str) : Prop := sc.names.lookup x = some .local \/ sc.names.lookup x = some .cell
def Look (env : Env) (h : Heap) (m : Str -> Option Value) (x : Str) (u : Value) : Prop :=
 (env.kindOf x = some .local /\ m x = some u) \/ ((env.kindOf x = some .cell \/ env.kindOf x = some .free) /\ ∃ c, env.cells.lookup x = some c /\ h.IsCell c (some u))
structure Cx.Ok (X : Cx) : Prop where
 mod : Mod X.K X.mg X.base
 kind : X.env.scope.kind = .function
 glob : X.env.globals = mainGlobals
 blt : X.env.builtins = builtinsNs
 above : X.s₀.heap.objs.size <= X.env.locals
 inj : ∀ x y c, X.env.cells.lookup x = some c -> X.env.cells.lookup y = some c -> x = y
 has : ∀ x, (X.env.kindOf x = some .cell \/ X.env.kindOf x = some .free) -> ∃ c, X.env.cells.lookup x = some c
 cab : ∀ x c, X.fn x = true -> X.env.cells.lookup x = some c -> X.s₀.heap.objs.size <= c
 hd : X.calm = true -> X.A.handled = none
 frames : X.A.frames = some X.stack
 stk : X.stack = X.outer \/ (X.stack = X.env :: X.outer /\ X.env.frame = some X.env.locals)
 exf : ∀ b ∈ X.ex, b ≠ X.env.locals /\ ∀ x c, X.env.cells.lookup x = some c -> c ≠ b
 bs : ∀ b o, X.base.get? b = some o -> X.s₀.heap.get? b = some o /\ X.H₀ b = none
 bsz : X.base.objs.size <= X.s₀.heap.objs.size
 noex : ∀ b o, X.base.get? b = some o -> b ∉ X.ex
 exfs : ∀ b ∈ X.ex, b ∉ X.fs
 funs : X.s₀.heap.FunFrames X.base X.outer
 frf : ∀ b ∈ X.fs, X.H₀ b = none
structure Inv (X : Cx) (pins : List (Addr × Obj)) (σ : List (Option V)) (H : Hp) (s : Shared) : Prop where
 ok : X.Ok
 os : s.os = X.s₀.os
 bare : AllBare s.gens
 base : Un X.fs X.ex X.H₀ H X.s₀.heap s.heap
 loc : ∃ m, s.heap.Ns X.env.locals m /\ ∀ (i : Nat) (x : Str) (v : V), X.N[i]? = some x -> σ[i]? = some (some v) -> Vis X.env.scope x -> ∃ u, RelV v u /\ Look X.env s.heap m x u
 cell : ∀ x c, X.env.cells.lookup x = some c -> ∃ v, s.heap.IsCell c v
 free : H X.env.locals = none
 freeC : ∀ x c, X.env.cells.lookup x = some c -> H c = none
 pin : ∀ p ∈ X.pn ++ pins, s.heap.get? p.1 = some p.2 /\ H p.1 = none /\ p.1 ≠ X.env.locals /\ p.1 ∉ X.fs /\ ∀ v, p.2.data ≠ .cell v
 hok : HOk X.prog X.w H s.heap
 len : σ.length = X.N.length
section
variable {X : Cx} {pins : List (Addr × Obj)} {σ : List (Option V)} {H H' : Hp} {s : Shared} {h' : Heap}
theorem Cx.Ok.nofr (ok : X.Ok) {b : Addr} {o : Obj} (e : X.base.get? b = some o) : b ∉ X.fs := fun hb => by
 have := (ok.funs.mem hb).1
 rw [e] at this; cases this
theorem Inv.bs (I : Inv X pins σ H s) : ∀ b o, X.base.get? b = some o -> s.heap.get? b = some o /\ H b = none := fun b o e =>
 ⟨I.base.keep b o (I.ok.bs b o e).1 (I.ok.bs b o e).2 (I.ok.nofr e) (I.ok.noex b o e), I.base.free b o (I.ok.bs b o e).1 (I.ok.bs b o e).2 (I.ok.noex b o e)⟩
theorem Inv.bk (I : Inv X pins σ H s) : ∀ b o, X.base.get? b = some o -> s.heap.get? b = some o := fun b o e => (I.bs b o e).1
theorem Inv.mod (I : Inv X pins σ H s) : Mod X.K X.mg X.base := I.ok.mod
theorem Inv.kIn (I : Inv X pins σ H s) : X.K.In s.heap := I.ok.mod.kin.keeps I.bk
theorem Inv.nolimit (I : Inv X pins σ H s) : s.heap.NoLimit := I.ok.mod.nolimit.keeps I.bk
theorem Inv.fr (I : Inv X pins σ H s) : ∃ m, Fr X.base X.env.locals s.heap m :=
 let ⟨m, hn, _⟩ := I.loc
 ⟨m, hn, I.bk, Nat.le_trans I.ok.bsz I.ok.above⟩
theorem Inv.lt (I : Inv X pins σ H s) : X.env.locals < s.heap.objs.size := let ⟨_, hn, _⟩ := I.loc; hn.lt
theorem Inv.sz (I : Inv X pins σ H s) : X.s₀.heap.objs.size <= s.heap.objs.size := Nat.le_trans I.ok.above (Nat.le_of_lt I.lt)
theorem Inv.nofs (I : Inv X pins σ H s) {a : Addr} (h : s.heap.objs.size <= a) : a ∉ X.fs := fun hb => by
 obtain ⟨_, o, ho, _⟩ := I.ok.funs.mem hb
 exact absurd (Nat.lt_of_lt_of_le (Heap.lt_size ho) (Nat.le_trans I.sz h)) (Nat.lt_irrefl _)
theorem Inv.cne (I : Inv X pins σ H s) : ∀ x c, X.env.cells.lookup x = some c -> c ≠ X.env.locals := fun x c e z => by
 obtain ⟨v, o, ho, hd⟩ := I.cell x c e
 obtain ⟨m, ⟨o', es, ep, ho', hd', _⟩, _⟩ := I.loc
 rw [z, ho'] at ho; cases ho; rw [hd'] at hd; cases hd
theorem Inv.funs (I : Inv X pins σ H s) : s.heap.FunFrames X.base X.outer := by
 have all : ∀ (l : List Env), (∀ b ∈ frs l, b ∈ X.fs) -> X.s₀.heap.FunFrames X.base l -> s.heap.FunFrames X.base l := by
  intro l
  induction l with
  | nil => intro _ _; trivial
  | cons env r ih =>
   intro hs hl
   obtain ⟨hk, ⟨L, o, hf, hn, ho, hd⟩, hr⟩ := hl
   have hL : L ∈ X.fs := hs L (by unfold frs; rw [List.filterMap_cons, hf]; exact List.mem_cons_self)
   obtain ⟨sl, e⟩ := I.base.slot L o ho (I.ok.frf L hL) hL fun z => I.ok.exfs L z hL
   exact ⟨hk, ⟨L, _, hf, hn, e, hd⟩, ih (fun b hb => hs b (by unfold frs; rw [List.filterMap_cons, hf]; exact List.mem_cons_of_mem _ hb)) hr⟩
 exact all X.outer (fun _ hb => hb) I.ok.funs
theorem Inv.stack (I : Inv X pins σ H s) : s.heap.FunFrames X.base X.stack := by
 rcases I.ok.stk with e | ⟨e, hf⟩
 ·rw [e]; exact I.funs
 ·rw [e]
  obtain ⟨m, hn, _⟩ := I.loc
  refine .cons (by rw [I.ok.kind]; decide) hf hn ?_ I.funs
  exact Heap.get?_none_of_le (Nat.le_trans I.ok.bsz I.ok.above)
theorem Inv.stkSub (I : Inv X pins σ H s) : ∀ b ∈ frs X.stack, b ∈ X.env.locals :: X.fs := fun b hb => by
 rcases I.ok.stk with e | ⟨e, hf⟩
 ·rw [e] at hb; exact List.mem_cons_of_mem _ hb
 ·rw [e] at hb
  unfold frs at hb
  rw [List.filterMap_cons, hf] at hb
  exact hb
theorem Inv.stkFree (I : Inv X pins σ H s) : ∀ b ∈ frs X.stack, H b = none := fun b hb => by
 rcases List.mem_cons.mp (I.stkSub b hb) with e | hb
 ·rw [e]; exact I.free
 ·obtain ⟨_, o, ho, _⟩ := I.ok.funs.mem hb
  exact I.base.free b o ho (I.ok.frf b hb) fun z => I.ok.exfs b z hb
theorem Inv.step {g' : Array GenState} {t' : Nat} {d' : Drawn} {ch : List Addr} (I : Inv X pins σ H s)
  (hch : ∀ b ∈ ch, (b ∈ X.ex \/ X.s₀.heap.objs.size <= b) /\ b ≠ X.env.locals /\ (∀ x c, X.env.cells.lookup x = some c -> c ≠ b) /\ ∀ p ∈ X.pn ++ pins, p.1 ≠ b)
  (keep : ∀ b o, b ≠ X.env.locals -> b ∉ X.fs -> b ∉ ch -> s.heap.get? b = some o -> H b = none -> h'.get? b = some o)
  (slot : ∀ b o, b ≠ X.env.locals -> b ∈ X.fs -> b ∉ ch -> s.heap.get? b = some o -> H b = none -> ∃ sl, h'.get? b = some { o with slots := sl }) (free : ∀ b o, b ∉ ch -> s.heap.get? b = some o -> H b = none -> H' b = none)
  (there : ∀ b o, b ∉ ch -> s.heap.get? b = some o -> ∃ o', h'.get? b = some o')
  (tups : ∀ b xs, H b = some (.tup xs) -> H' b = some (.tup xs)) (frzs : ∀ b o u, H b = some (.frz o u) -> H' b = some (.frz o u)) (tbls : ∀ b ps, H b = some (.tbl ps) -> ∃ more, H' b = some (.tbl (ps ++ more)))
  (ns : ∀ m, s.heap.Ns X.env.locals m -> h'.Ns X.env.locals m) (hok : HOk X.prog X.w H' h') (hg : AllBare g') :
  Inv X pins σ H' { s with heap := h', gens := g', drawn := d', toks := t' } := by
 have neL : ∀ b o, X.s₀.heap.get? b = some o -> b ≠ X.env.locals := fun b o e => Nat.ne_of_lt (Nat.lt_of_lt_of_le (Heap.lt_size e) I.ok.above)
 have neC : ∀ b o, X.s₀.heap.get? b = some o -> b ∉ X.ex -> b ∉ ch := fun b o e hx hb => by
  rcases (hch b hb).1 with z | z
  ·exact hx z
  ·exact absurd (Nat.lt_of_lt_of_le (Heap.lt_size e) z) (Nat.lt_irrefl _)
 have cellK : ∀ x c, X.env.cells.lookup x = some c -> ∀ v, s.heap.IsCell c v -> h'.IsCell c v := fun x c e v ⟨o, ho, hd⟩ => by
  have nch : c ∉ ch := fun z => (hch c z).2.2.1 x c e rfl
  by_cases hc : c ∈ X.fs
  ·obtain ⟨sl, q⟩ := slot c o (I.cne x c e) hc nch ho (I.freeC x c e)
   exact ⟨_, q, hd⟩
  ·exact ⟨o, keep c o (I.cne x c e) hc nch ho (I.freeC x c e), hd⟩
 refine ⟨I.ok, I.os, hg, ⟨fun b o e n hb hx => ?_, fun b o e n hb hx => ?_, fun b o e n hx => ?_, fun b o e hx => ?_, fun b xs e => tups b xs (I.base.tups b xs e), fun b o xs e => frzs b o xs (I.base.frzs b o xs e), fun b ps e => ?_⟩, ?_, fun x c e => ?_, ?_, fun x c e => ?_, fun p hp => ?_, hok, I.len⟩
 ·exact keep b o (neL b o e) hb (neC b o e hx) (I.base.keep b o e n hb hx) (I.base.free b o e n hx)
 ·obtain ⟨sl, e1⟩ := I.base.slot b o e n hb hx
  obtain ⟨sl', e2⟩ := slot b _ (neL b o e) hb (neC b o e hx) e1 (I.base.free b o e n hx)
  exact ⟨sl', e2⟩
 ·obtain ⟨o', e1⟩ := I.base.there b o e hx
  exact free b o' (neC b o e hx) e1 (I.base.free b o e n hx)
 ·obtain ⟨o', e1⟩ := I.base.there b o e hx
  exact there b o' (neC b o e hx) e1
 ·obtain ⟨m1, e1⟩ := I.base.tbls b ps e
  obtain ⟨m2, e2⟩ := tbls b _ e1
  exact ⟨m1 ++ m2, by rw [e2, Array.append_assoc]⟩
 ·obtain ⟨m, hn, hl⟩ := I.loc
  refine ⟨m, ns m hn, fun i x v e1 e2 e3 => ?_⟩
  obtain ⟨u, r, l⟩ := hl i x v e1 e2 e3
  refine ⟨u, r, ?_⟩
  rcases l with l | ⟨k, c, e, z⟩
  ·exact .inl l
  ·exact .inr ⟨k, c, e, cellK x c e _ z⟩
 ·obtain ⟨v, z⟩ := I.cell x c e
  exact ⟨v, cellK x c e v z⟩
 ·obtain ⟨m, ⟨o, _, _, ho, _⟩, _⟩ := I.loc
  exact free _ o (fun z => (hch _ z).2.1 rfl) ho I.free
 ·obtain ⟨v, o, ho, hd⟩ := I.cell x c e
  exact free c o (fun z => (hch c z).2.2.1 x c e rfl) ho (I.freeC x c e)
 ·obtain ⟨e, n, ne, nf, d⟩ := I.pin p hp
  have nch : p.1 ∉ ch := fun z => (hch p.1 z).2.2.2 p hp rfl
  exact ⟨keep p.1 p.2 ne nf nch e n, free p.1 p.2 nch e n, ne, nf, d⟩
theorem Inv.un {t' : Nat} (I : Inv X pins σ H s) (u : Un X.fs [] H H' s.heap h') (hok : HOk X.prog X.w H' h') : Inv X pins σ H' { s with heap := h', toks := t' } := by
 obtain ⟨m, ⟨o, es, ep, ho, r⟩, _⟩ := id I.loc
 obtain ⟨sl, hL⟩ := u.any ho I.free (by simp)
 exact I.step (g' := s.gens) (d' := s.drawn) (ch := []) (fun _ z => nomatch z) (fun b o _ hb _ e n => u.keep b o e n hb (by simp)) (fun b o _ hb _ e n => u.slot b o e n hb (by simp)) (fun b o _ e n => u.free b o e n (by simp)) (fun b o _ e => u.there b o e (by simp)) u.tups u.frzs u.tbls (fun m' hm => by
  obtain ⟨o', es', ep', ho', r'⟩ := hm
  rw [ho] at ho'; cases ho'
  exact ⟨_, es', ep', hL, r'⟩) hok I.bare
theorem Inv.call {g' : Array GenState} {t' : Nat} {d' : Drawn} {ch : List Addr} (I : Inv X pins σ H s) (u : Un (frs X.stack) ch H H' s.heap h') (hok : HOk X.prog X.w H' h') (hg : AllBare g')
  (hch : ∀ b ∈ ch, (b ∈ X.ex \/ X.s₀.heap.objs.size <= b) /\ b ≠ X.env.locals /\ (∀ x c, X.env.cells.lookup x = some c -> c ≠ b) /\ ∀ p ∈ X.pn ++ pins, p.1 ≠ b) :
  Inv X pins σ H' { s with heap := h', gens := g', drawn := d', toks := t' } := by
 obtain ⟨m, ⟨o, es, ep, ho, r⟩, _⟩ := id I.loc
 obtain ⟨sl, hL⟩ := u.any ho I.free fun z => (hch _ z).2.1 rfl
 exact I.step (ch := ch) hch (fun b o hL hb hc e n => u.keep b o e n (fun z => (List.mem_cons.mp (I.stkSub b z)).elim hL hb) hc) (fun b o _ _ hc e n => u.any e n hc) (fun b o hc e n => u.free b o e n hc) (fun b o hc e => u.there b o e hc) u.tups u.frzs u.tbls (fun m' hm => by
  obtain ⟨o', es', ep', ho', r'⟩ := hm
  rw [ho] at ho'; cases ho'
  exact ⟨_, es', ep', hL, r'⟩) hok hg
theorem Inv.turned {t' : Nat} {it : Addr} (I : Inv X pins σ H s) (k : ∀ b o, b ≠ it -> s.heap.get? b = some o -> h'.get? b = some o) (hn : H it = none) (hL : it ≠ X.env.locals)
  (h1 : it ∈ X.ex \/ X.s₀.heap.objs.size <= it) (h2 : ∀ x c, X.env.cells.lookup x = some c -> c ≠ it) (h3 : ∀ p ∈ X.pn ++ pins, p.1 ≠ it) : Inv X pins σ H { s with heap := h', toks := t' } := by
 have nit : ∀ b u, H b = some u -> b ≠ it := fun b u e z => by rw [z, hn] at e; cases e
 refine I.step (g' := s.gens) (d' := s.drawn) (ch := [it]) (fun b hb => ?_) (fun b o _ _ hc e _ => k b o (fun z => hc (by simp [z])) e) (fun b o _ _ hc e _ => ⟨o.slots, k b o (fun z => hc (by simp [z])) e⟩) (fun _ _ _ _ n => n)
  (fun b o hc e => ⟨o, k b o (fun z => hc (by simp [z])) e⟩) (fun _ _ e => e) (fun _ _ _ e => e) (fun b ps e => ⟨#[], by rw [e]; simp⟩) (fun m hm => ?_) (fun b u e => ?_) I.bare
 ·have e : b = it := by simpa using hb
  subst e
  exact ⟨h1, hL, h2, h3⟩
 ·obtain ⟨o, es, ep, ho, r⟩ := hm
  exact ⟨o, es, ep, k _ o (Ne.symm hL) ho, r⟩
 ·refine (I.hok b u e).stay (fun c v hc q => k c v ?_ q) (fun _ q => q) fun _ _ q => q
  rcases hc with z | z
  ·rw [z]; exact nit b u e
  ·exact nit c _ z
theorem Inv.tok (I : Inv X pins σ H s) (t : Nat) : Inv X pins σ H { s with toks := t } := I.un (h' := s.heap) (t' := t) Un.refl I.hok
theorem Inv.kept {t' : Nat} (I : Inv X pins σ H s) (k : ∀ b u, s.heap.get? b = some u -> h'.get? b = some u) : Inv X pins σ H { s with heap := h', toks := t' } := I.un (Un.kept k) (I.hok.kept k)
theorem Inv.laid {a : Addr} {o : HO} {t' : Nat} (I : Inv X pins σ H s) (k : ∀ b u, s.heap.get? b = some u -> h'.get? b = some u) (hp : s.heap.objs.size <= a) (new : ObjOk X.prog X.w (upd H a o) h' a o) :
  Inv X pins σ (upd H a o) { s with heap := h', toks := t' } := I.un (Un.laid k hp (I.hok.fresh hp)) (I.hok.laid k hp new)
theorem Inv.write {x e : Addr} {o : HO} {t' : Nat} (I : Inv X pins σ H s) (mu : Mut (H x)) (he : e = x \/ H e = some (.own x)) (k : ∀ b u, b ≠ e -> s.heap.get? b = some u -> h'.get? b = some u) (heo : ∃ u, h'.get? e = some u)
  (new : ObjOk X.prog X.w (upd H x o) h' x o) : Inv X pins σ (upd H x o) { s with heap := h', toks := t' } := I.un (Un.write mu he k heo) (I.hok.write mu he k heo new)
theorem Inv.pins_of {pins' : List (Addr × Obj)} (I : Inv X pins σ H s) (h : ∀ p ∈ pins', s.heap.get? p.1 = some p.2 /\ H p.1 = none /\ p.1 ≠ X.env.locals /\ p.1 ∉ X.fs /\ ∀ v, p.2.data ≠ .cell v) : Inv X pins' σ H s :=
 ⟨I.ok, I.os, I.bare, I.base, I.loc, I.cell, I.free, I.freeC, fun p hp => (List.mem_append.mp hp).elim (fun z => I.pin p (List.mem_append_left _ z)) (h p), I.hok, I.len⟩
theorem nodup_ix {N : List Str} (hN : N.Nodup) {i j : Nat} {x : Str} (a : N[i]? = some x) (b : N[j]? = some x) : i = j := by
 obtain ⟨h1, e1⟩ := List.getElem?_eq_some_iff.mp a
 obtain ⟨h2, e2⟩ := List.getElem?_eq_some_iff.mp b
 exact (List.getElem_inj hN).mp (e1.trans e2.symm)
theorem store_ok2 {M : Model} {A : Around} {E : Value -> Shared -> Prop} {i : Nat} {x : Str} {v : V} {u : Value} {Q : Unit -> Shared -> Prop} (I : Inv X pins σ H s) (hN : X.N.Nodup) (hi : X.N[i]? = some x) (hx : Loc X.env.scope x) (r : RelV v u)
  (h : ∀ s', Inv X pins (σ.set i (some v)) H s' -> (∃ a, Heap.SameBut a s.heap s'.heap /\ (a = X.env.locals \/ X.env.cells.lookup x = some a)) -> Q () s') (hf : X.fn x = true \/ X.env.scope.names.lookup x = some .local := by first | exact .inl rfl | exact .inr rfl | assumption) : wpAny M A (storeName X.env x u) Q E s := by
 obtain ⟨m, hn, hl⟩ := id I.loc
 have hcls : (X.env.scope.kind == .class || (X.env.scope.kind == .module && X.env.locals != X.env.globals)) = false := by rw [I.ok.kind]; rfl
 have hiσ : i < σ.length := by rw [I.len]; exact (List.getElem?_eq_some_iff.mp hi).1
 have cne := I.cne
 have tracked : ∀ {a : Addr} {h' : Heap}, (∃ o, s.heap.get? a = some o /\ H a = none) -> Heap.SameBut a s.heap h' -> HOk X.prog X.w H h' := fun {a h'} ha hs b ob e => by
  obtain ⟨_, _, hfree⟩ := ha
  refine (I.hok b ob e).stay (fun c w' hc q => (hs.2 c ?_).trans q) (fun _ q => q) fun _ _ q => q
  rintro rfl
  rcases hc with rfl | hc
  ·rw [hfree] at e; cases e
  ·rw [hfree] at hc; cases hc
 rcases hx with hk | hk
 ·refine wpAny_storeName_local hk hn (fun h' hn' hs => ?_) hcls
  obtain ⟨oL, _, _, hoL, _⟩ := id hn
  refine h _ ⟨I.ok, I.os, I.bare, ⟨fun b o e n hb hx => ?_, fun b o e n hb hx => ?_, I.base.free, fun b o e hx => ?_, I.base.tups, I.base.frzs, I.base.tbls⟩, ⟨_, hn', fun j y v' e1 e2 e3 => ?_⟩, fun y c e => ?_, I.free, I.freeC, fun p hp => ?_, tracked ⟨oL, hoL, I.free⟩ hs, by simpa using I.len⟩ ⟨_, hs, .inl rfl⟩
  ·exact (hs.2 b (Nat.ne_of_lt (Nat.lt_of_lt_of_le (Heap.lt_size e) I.ok.above))).trans (I.base.keep b o e n hb hx)
  ·obtain ⟨sl, e1⟩ := I.base.slot b o e n hb hx
   exact ⟨sl, (hs.2 b (Nat.ne_of_lt (Nat.lt_of_lt_of_le (Heap.lt_size e) I.ok.above))).trans e1⟩
  ·obtain ⟨o', e1⟩ := I.base.there b o e hx
   exact ⟨o', (hs.2 b (Nat.ne_of_lt (Nat.lt_of_lt_of_le (Heap.lt_size e) I.ok.above))).trans e1⟩
  ·by_cases hj : j = i
   ·subst hj
    rw [hi] at e1; cases e1
    rw [List.getElem?_set_self hiσ] at e2
    cases e2
    exact ⟨u, r, .inl ⟨hk, by simp⟩⟩
   ·rw [List.getElem?_set_ne (Ne.symm hj)] at e2
    obtain ⟨u', r', q⟩ := hl j y v' e1 e2 e3
    refine ⟨u', r', ?_⟩
    rcases q with ⟨k, e⟩ | ⟨k, c, e, z⟩
    ·refine .inl ⟨k, ?_⟩
     have : y ≠ x := fun e => hj (nodup_ix hN e1 (e ▸ hi))
     simp [this, e]
    ·exact .inr ⟨k, c, e, z.sameBut hs (cne y c e)⟩
  ·obtain ⟨w', z⟩ := I.cell y c e
   exact ⟨w', z.sameBut hs (cne y c e)⟩
  ·obtain ⟨e, n, ne, nf, d⟩ := I.pin p hp
   exact ⟨(hs.2 p.1 ne).trans e, n, ne, nf, d⟩
 ·have hfn : X.fn x = true := by
   rcases hf with z | z
   ·exact z
   ·rw [z] at hk; cases hk
  obtain ⟨c, hc⟩ := I.ok.has x (.inl hk)
  obtain ⟨w', z⟩ := I.cell x c hc
  refine wpAny_storeName_cell I.ok.kind hk hc z (fun h' hc' hs => ?_)
  obtain ⟨oc, hoc, hocd⟩ := id z
  refine h { s with heap := h' } ⟨I.ok, I.os, I.bare, ⟨fun b o e n hb hx => ?_, fun b o e n hb hx => ?_, I.base.free, fun b o e hx => ?_, I.base.tups, I.base.frzs, I.base.tbls⟩, ⟨m, hn.sameBut hs (Ne.symm (cne x c hc)), fun j y v' e1 e2 e3 => ?_⟩, fun y c' e => ?_, I.free, I.freeC, fun p hp => ?_, tracked ⟨oc, hoc, I.freeC x c hc⟩ hs, by simpa using I.len⟩ ⟨c, hs, .inr hc⟩
  ·exact (hs.2 b (Nat.ne_of_lt (Nat.lt_of_lt_of_le (Heap.lt_size e) (I.ok.cab x c hfn hc)))).trans (I.base.keep b o e n hb hx)
  ·obtain ⟨sl, e1⟩ := I.base.slot b o e n hb hx
   exact ⟨sl, (hs.2 b (Nat.ne_of_lt (Nat.lt_of_lt_of_le (Heap.lt_size e) (I.ok.cab x c hfn hc)))).trans e1⟩
  ·obtain ⟨o', e1⟩ := I.base.there b o e hx
   exact ⟨o', (hs.2 b (Nat.ne_of_lt (Nat.lt_of_lt_of_le (Heap.lt_size e) (I.ok.cab x c hfn hc)))).trans e1⟩
  ·by_cases hj : j = i
   ·subst hj
    rw [hi] at e1; cases e1
    rw [List.getElem?_set_self hiσ] at e2
    cases e2
    exact ⟨u, r, .inr ⟨.inl hk, c, hc, hc'⟩⟩
   ·rw [List.getElem?_set_ne (Ne.symm hj)] at e2
    obtain ⟨u', r', q⟩ := hl j y v' e1 e2 e3
    refine ⟨u', r', ?_⟩
    rcases q with q | ⟨k, c', e, z'⟩
    ·exact .inl q
    ·refine .inr ⟨k, c', e, z'.sameBut hs ?_⟩
     rintro rfl
     exact hj (nodup_ix hN e1 (I.ok.inj _ _ _ e hc ▸ hi))
  ·by_cases hcc : c' = c
   ·subst hcc; exact ⟨_, hc'⟩
   ·obtain ⟨w2, z2⟩ := I.cell y c' e
    exact ⟨w2, z2.sameBut hs hcc⟩
  ·obtain ⟨e, n, ne, nf, d⟩ := I.pin p hp
   refine ⟨(hs.2 p.1 ?_).trans e, n, ne, nf, d⟩
   intro q
   rw [q, hoc] at e
   have q' : oc = p.2 := Option.some.inj e
   exact d w' (by rw [<- q']; exact hocd)
theorem store_ok {M : Model} {A : Around} {E : Value -> Shared -> Prop} {i : Nat} {x : Str} {v : V} {u : Value} {Q : Unit -> Shared -> Prop} (I : Inv X pins σ H s) (hN : X.N.Nodup) (hi : X.N[i]? = some x) (hx : Loc X.env.scope x) (r : RelV v u)
  (h : ∀ s', Inv X pins (σ.set i (some v)) H s' -> Q () s') (hf : X.fn x = true \/ X.env.scope.names.lookup x = some .local := by first | exact .inl rfl | exact .inr rfl | assumption) : wpAny M A (storeName X.env x u) Q E s :=
 store_ok2 I hN hi hx r (fun s' I' _ => h s' I') hf
end
abbrev XK := Value -> Option Addr -> Hp -> Prop
abbrev St := List (Option V)
abbrev VK := V -> Hp -> Prop
abbrev TE := St -> Hp -> VK -> Prop
abbrev TT := St -> Hp -> (Bool -> Hp -> Prop) -> Prop
abbrev TA := St -> Hp -> (List V -> Hp -> Prop) -> Prop
structure Ends where
 nx : St -> Hp -> Prop
 rt : VK
 bk : St -> Hp -> Prop := fun _ _ => False
 ct : St -> Hp -> Prop := fun _ _ => False
abbrev TS := Ends -> St -> Hp -> Prop
def EP (X : Cx) (pins : List (Addr × Obj)) (σ : St) (Q : VK) (u : Value) (s' : Shared) : Prop := ∃ v H', Inv X pins σ H' s' /\ RelV v u /\ Q v H'
def TP (X : Cx) (pins : List (Addr × Obj)) (σ : St) (Q : Bool -> Hp -> Prop) (b : Bool) (s' : Shared) : Prop := ∃ H', Inv X pins σ H' s' /\ Q b H'
def AP (X : Cx) (pins : List (Addr × Obj)) (σ : St) (Q : List V -> Hp -> Prop) (us : List Value) (s' : Shared) : Prop := ∃ vs H', Inv X pins σ H' s' /\ Vals vs us /\ Q vs H'
def SP (X : Cx) (pins : List (Addr × Obj)) (D : Ends) (f : Flow) (s' : Shared) : Prop :=
 match f with
 | .next => ∃ σ' H', Inv X pins σ' H' s' /\ D.nx σ' H'
 | .brk => ∃ σ' H', Inv X pins σ' H' s' /\ D.bk σ' H'
 | .cont => ∃ σ' H', Inv X pins σ' H' s' /\ D.ct σ' H'
 | .ret u => ∃ v σ' H', Inv X pins σ' H' s' /\ RelV v u /\ D.rt v H'
def PE (X : Cx) (e : Expr) (t : TE) : Prop :=
 ∀ (pins : List (Addr × Obj)) (s : Shared) (σ : St) (H : Hp) (Q : VK), Inv X pins σ H s -> t σ H Q -> wpAny (model X.prog X.w) X.A (eval e X.env) (EP X pins σ Q) X.xe s
def PT (X : Cx) (e : Expr) (t : TT) : Prop :=
 ∀ (pins : List (Addr × Obj)) (s : Shared) (σ : St) (H : Hp) (Q : Bool -> Hp -> Prop), Inv X pins σ H s -> t σ H Q -> wpAny (model X.prog X.w) X.A (isTrue e X.env (eval e X.env)) (TP X pins σ Q) X.xe s
def PW (X : Cx) (e : Expr) (t : TT) : Prop :=
 ∀ (whole : Sem Value) (pins : List (Addr × Obj)) (s : Shared) (σ : St) (H : Hp) (Q : Bool -> Hp -> Prop), Inv X pins σ H s -> t σ H Q -> wpAny (model X.prog X.w) X.A (isTrue e X.env whole) (TP X pins σ Q) X.xe s
theorem PW.pt {X : Cx} {e : Expr} {t : TT} (h : PW X e t) : PT X e t := h _
def PA (X : Cx) (es : List Expr) (t : TA) : Prop :=
 ∀ (pos : Pos) (pins : List (Addr × Obj)) (s : Shared) (σ : St) (H : Hp) (Q : List V -> Hp -> Prop), Inv X pins σ H s -> t σ H Q -> wpAny (model X.prog X.w) X.A (spliced (backTo pos (starEach es X.env))) (AP X pins σ Q) X.xe s
def PS (X : Cx) (st : Stmt) (t : TS) : Prop :=
 ∀ (pins : List (Addr × Obj)) (s : Shared) (σ : St) (H : Hp) (D : Ends), Inv X pins σ H s -> t D σ H -> wpAny (model X.prog X.w) X.A (exec st X.env) (SP X pins D) X.xe s
def PSs (X : Cx) (st : List Stmt) (t : TS) : Prop :=
 ∀ (pins : List (Addr × Obj)) (s : Shared) (σ : St) (H : Hp) (D : Ends), Inv X pins σ H s -> t D σ H -> wpAny (model X.prog X.w) X.A (execs st X.env) (SP X pins D) X.xe s
theorem thn {α : Type} {t : Sem α} {Q Q' : α -> Shared -> Prop} {M : Model} {A : Around} {E : Value -> Shared -> Prop} {s : Shared} (h : wpAny M A t Q E s) (hQ : ∀ a s, Q a s -> Q' a s) : wpAny M A t Q' E s := wpAny_mono h hQ fun _ _ x => x
end L2
namespace L2
open PySem PySem.Spec PyProof.Rows
section
variable {X : Cx}
def tVar (i : Nat) : TE := fun σ H Q => ∃ v, σ[i]? = some (some v) /\ Q v H
def tC (v : V) : TE := fun _ H Q => Q v H
theorem pe_var {i : Nat} {x : Str} {pos : Pos} (hN : X.N[i]? = some x) (hv : Vis X.env.scope x) (hd : (x == ("__debug__" : Str)) = false := by decide) (hcd : (x == ("__classdict__" : Str)) = false := by decide) : PE X (.Name x pos) (tVar i) := by
 intro pins s σ H Q I h
 obtain ⟨v, e, h⟩ := h
 obtain ⟨m, hn, hl⟩ := I.loc
 obtain ⟨u, r, l⟩ := hl i x v hN e hv
 have fin : EP X pins σ Q u s := ⟨v, H, I, r, h⟩
 rcases l with ⟨hk, hm⟩ | ⟨hk, c, hc, hcell⟩
 ·exact wpAny_Name (wpAny_loadName_local I.ok.kind hk hn hm fin) hd
 ·rcases hk with hk | hk
  ·exact wpAny_Name (wpAny_loadName_cell I.ok.kind hk hc hcell fin) hd
  ·exact wpAny_Name (wpAny_loadName_free I.ok.kind hk hc hcell fin hcd) hd
theorem pe_int {i j pos} : PE X (.Constant (.int i) j pos) (tC (.int i)) := fun _ _ _ H _ I h => wpAny_Constant_int ⟨.int i, H, I.tok _, ⟨_, rfl⟩, h⟩
theorem pe_bl {b j pos} : PE X (.Constant (.bool b) j pos) (tC (.bl b)) := fun _ _ _ H _ I h => Constant_bool ⟨.bl b, H, I, rfl, h⟩
theorem pe_str {x j pos} : PE X (.Constant (.str x) j pos) (tC (.str x)) := fun _ _ _ H _ I h => Calls.Constant_str ⟨.str x, H, I.tok _, ⟨_, rfl⟩, h⟩
def Gl (X : Cx) (x : Str) : Prop := X.env.kindOf x = some .globalImplicit
theorem ld_glob {E : Value -> Shared -> Prop} {pins : List (Addr × Obj)} {s : Shared} {σ : St} {H : Hp} {x : Str} {u : Value} {pos : Pos} {Q : Value -> Shared -> Prop} (I : Inv X pins σ H s) (hg : Gl X x) (hm : X.mg x = some u) (h : Q u s)
  (hd : (x == ("__debug__" : Str)) = false := by decide) : wpAny (model X.prog X.w) X.A (eval (.Name x pos) X.env) Q E s :=
 Calls.Name_function_global I.ok.kind hg (Calls.loadGlobal_global (by rw [I.ok.glob]; exact I.mod.glob.keeps I.bk) hm h) hd
theorem ld_blt {E : Value -> Shared -> Prop} {pins : List (Addr × Obj)} {s : Shared} {σ : St} {H : Hp} {x : Str} {u : Value} {pos : Pos} {Q : Value -> Shared -> Prop} (I : Inv X pins σ H s) (hg : Gl X x) (hm : X.mg x = none) (hv : bootBuiltins x = some u) (h : Q u s)
  (hn : x ≠ "__name__" := by decide) (hd : (x == ("__debug__" : Str)) = false := by decide) : wpAny (model X.prog X.w) X.A (eval (.Name x pos) X.env) Q E s := by
 obtain ⟨mb, h1, h2⟩ := I.mod.blt
 exact Calls.Name_function_global I.ok.kind hg (Calls.loadGlobal_builtin (by rw [I.ok.glob]; exact I.mod.glob.keeps I.bk) hm (by rw [I.ok.blt]; exact h1.keeps I.bk) ((h2 x hn).trans hv) h) hd
theorem pe_glob {x : Str} {v : V} {u : Value} {pos : Pos} (hg : Gl X x) (hm : X.mg x = some u) (r : RelV v u) (hd : (x == ("__debug__" : Str)) = false := by decide) : PE X (.Name x pos) (tC v) :=
 fun _ _ _ H _ I h => ld_glob I hg hm ⟨v, H, I, r, h⟩ hd
theorem pe_bltn {x : Str} {v : V} {u : Value} {pos : Pos} (hg : Gl X x) (hm : X.mg x = none) (hv : bootBuiltins x = some u) (r : RelV v u) (hn : x ≠ "__name__" := by decide) (hd : (x == ("__debug__" : Str)) = false := by decide) : PE X (.Name x pos) (tC v) :=
 fun _ _ _ H _ I h => ld_blt I hg hm hv ⟨v, H, I, r, h⟩ hn hd
variable {a b : Expr} {ta tb : TE} {pos : Pos}
def tB (t : TE) : TT := fun σ H Q => t σ H fun x H1 => ∃ c, x = .bl c /\ Q c H1
theorem pt_val {e : Expr} {t : TE} (h : PE X e t) (he : ∀ whole, isTrue e X.env whole = (do let v <- whole; standAt e.pos; holding [v] (truthy v)) := by intro _; rfl) : PT X e (tB t) := by
 intro pins s σ H Q I hw
 refine isTrue_plain (thn (h pins s σ H _ I hw) fun v s1 ⟨x, H1, I1, r1, q1⟩ => ?_) (he _)
 obtain ⟨d, rfl, q⟩ := q1
 cases r1
 exact wpAny_truthy_bool ⟨H1, I1, q⟩
variable {tA tB' : TT} {rest : List Expr}
def tOr (t u : TT) : TT := fun σ H Q => t σ H fun c H1 => if c = true then Q true H1 else u σ H1 Q
def tNot (t : TT) : TT := fun σ H Q => t σ H fun c H1 => Q (!c) H1
theorem pw_or1 (ha : PT X a tA) : PW X (.BoolOp .Or [a] pos) tA := by
 intro wh pins s σ H Q I h
 refine isTrue_or (thn (ha pins s σ H Q I h) fun c s1 e => ?_)
 cases c with
 | false => exact isTrue_or_nil e
 | true => exact e
theorem pw_or (ha : PT X a tA) (hb : PW X (.BoolOp .Or (b :: rest) pos) tB') : PW X (.BoolOp .Or (a :: b :: rest) pos) (tOr tA tB') := by
 intro wh pins s σ H Q I h
 refine isTrue_or (thn (ha pins s σ H _ I h) fun c s1 ⟨H1, I1, q1⟩ => ?_)
 cases c with
 | true => exact ⟨H1, I1, q1⟩
 | false => exact hb wh pins s1 σ H1 Q I1 q1
theorem pt_not (ha : PT X a tA) : PT X (.UnaryOp .Not a pos) (tNot tA) := by
 intro pins s σ H Q I h
 exact isTrue_not (ha pins s σ H (fun c H1 => Q (!c) H1) I h)
end
end L2
namespace L2
open PySem PySem.Spec PyProof.Rows
def SqL (K : PySem.W.Frag) (H : Hp) (a : Addr) (xs : List V) : Prop :=
 Rd H a (.lst xs) \/
  ∃ (o : Obj) (its : Array Value) (n : Nat), K.lookup a = some o /\ o.cls = .type "list" /\ o.dict = none /\ o.data = .seq its n /\ its.size <= sizeLine /\ Vals xs its.toList
def SqT (K : PySem.W.Frag) (H : Hp) (a : Addr) (xs : List V) : Prop :=
 Rd H a (.tup xs) \/
  ∃ (o : Obj) (its : Array Value) (n : Nat), K.lookup a = some o /\ o.cls = .type "tuple" /\ o.data = .seq its n /\ its.size <= sizeLine /\ Vals xs its.toList
def absV : Value -> Option V
 | .none => some .non
 | .bool b => some (.bl b)
 | .int i _ => some (.int i)
 | .str x _ => some (.str x)
 | .bytes b _ => some (.byt b)
 | .float b _ => some (.flt b)
 | .ref a => some (.ref a)
 | .type n => some (.ty n)
 | _ => none
theorem RelV.abs {x : V} {u : Value} (r : RelV x u) : absV u = some x := by
 cases x with
 | non => cases r; rfl
 | bl _ => cases r; rfl
 | int _ => obtain ⟨t, rfl⟩ := r; rfl
 | str _ => obtain ⟨t, rfl⟩ := r; rfl
 | byt _ => obtain ⟨t, rfl⟩ := r; rfl
 | flt _ => obtain ⟨t, rfl⟩ := r; rfl
 | ref _ => cases r; rfl
 | ty _ => cases r; rfl
theorem RelV.inj {x y : V} {u : Value} (r : RelV x u) (q : RelV y u) : x = y := Option.some.inj (r.abs.symm.trans q.abs)
theorem Vals.inj : ∀ {xs ys : List V} {us : List Value}, Vals xs us -> Vals ys us -> xs = ys
 | _, _, _, .nil, .nil => rfl
 | _, _, _, .cons r t, .cons r' t' => by rw [r.inj r', Vals.inj t t']
section
variable {X : Cx} {pins : List (Addr × Obj)} {σ : St} {H : Hp} {s : Shared} {a : Addr} {xs ys : List V}
theorem SqL.of {K : PySem.W.Frag} (h : H a = some (.lst xs)) : SqL K H a xs := .inl (.inl h)
theorem SqT.of {K : PySem.W.Frag} (h : H a = some (.tup xs)) : SqT K H a xs := .inl (.inl h)
theorem Inv.list (I : Inv X pins σ H s) (h : SqL X.K H a xs) : ∃ its : List Value, Vals xs its /\ PlainL s.heap a its.toArray /\ xs.length <= sizeLine := by
 rcases h with h | ⟨o, its, n, hk, hc, hd, hs, hz, r⟩
 ·obtain ⟨z, its, n, r, e⟩ := h.ok I.hok
  exact ⟨its, r, ⟨_, n, e, rfl, rfl, rfl⟩, z⟩
 ·refine ⟨its.toList, r, ⟨o, n, I.kIn a o hk, hc, hd, by simpa using hs⟩, ?_⟩
  have e := r.length
  simp only [Array.length_toList] at e
  omega
theorem Inv.tuple (I : Inv X pins σ H s) (h : SqT X.K H a xs) : ∃ its : List Value, Vals xs its /\ IsTup s.heap a its.toArray /\ xs.length <= sizeLine := by
 rcases h with h | ⟨o, its, n, hk, hc, hs, hz, r⟩
 ·obtain ⟨z, its, r, p⟩ := h.ok I.hok
  exact ⟨its, r, p, z⟩
 ·refine ⟨its.toList, r, ⟨o, I.kIn a o hk, hc, n, by simpa using hs⟩, ?_⟩
  have e := r.length
  simp only [Array.length_toList] at e
  omega
theorem Inv.list_inj (I : Inv X pins σ H s) (h : SqL X.K H a xs) (h' : SqL X.K H a ys) : xs = ys := by
 obtain ⟨its, r, ⟨o, n, e, _, _, d⟩, _⟩ := I.list h
 obtain ⟨its', r', ⟨o', n', e', _, _, d'⟩, _⟩ := I.list h'
 rw [e] at e'; cases e'
 rw [d] at d'
 injection d' with d1 _
 have : its = its' := by simpa using congrArg Array.toList d1
 subst this
 exact r.inj r'
theorem Inv.tuple_inj (I : Inv X pins σ H s) (h : SqT X.K H a xs) (h' : SqT X.K H a ys) : xs = ys := by
 obtain ⟨its, r, ⟨o, e, _, n, d⟩, _⟩ := I.tuple h
 obtain ⟨its', r', ⟨o', e', _, n', d'⟩, _⟩ := I.tuple h'
 rw [e] at e'; cases e'
 rw [d] at d'
 injection d' with d1 _
 have : its = its' := by simpa using congrArg Array.toList d1
 subst this
 exact r.inj r'
end
abbrev Cx.wish (X : Cx) (E : Value -> Shared -> Prop) : Cx := { X with xe := E }
abbrev Cx.nox (X : Cx) : Cx := X.wish fun _ _ => False
theorem Cx.Ok.wish {X : Cx} (ok : X.Ok) (E : Value -> Shared -> Prop) : (X.wish E).Ok :=
 ⟨ok.mod, ok.kind, ok.glob, ok.blt, ok.above, ok.inj, ok.has, ok.cab, ok.hd, ok.frames, ok.stk, ok.exf, ok.bs, ok.bsz, ok.noex, ok.exfs, ok.funs, ok.frf⟩
theorem Cx.Ok.unwish {X : Cx} {E : Value -> Shared -> Prop} (ok : (X.wish E).Ok) : X.Ok :=
 ⟨ok.mod, ok.kind, ok.glob, ok.blt, ok.above, ok.inj, ok.has, ok.cab, ok.hd, ok.frames, ok.stk, ok.exf, ok.bs, ok.bsz, ok.noex, ok.exfs, ok.funs, ok.frf⟩
section
variable {X : Cx} {pins : List (Addr × Obj)} {σ : St} {H : Hp} {s : Shared} {E : Value -> Shared -> Prop}
theorem Inv.wish (I : Inv X pins σ H s) (E : Value -> Shared -> Prop) : Inv (X.wish E) pins σ H s := ⟨I.ok.wish E, I.os, I.bare, I.base, I.loc, I.cell, I.free, I.freeC, I.pin, I.hok, I.len⟩
theorem Inv.unwish (I : Inv (X.wish E) pins σ H s) : Inv X pins σ H s := ⟨I.ok.unwish, I.os, I.bare, I.base, I.loc, I.cell, I.free, I.freeC, I.pin, I.hok, I.len⟩
theorem SP.unwish {D : Ends} {f : Flow} {s' : Shared} (h : SP (X.wish E) pins D f s') : SP X pins D f s' := by
 cases f with
 | next => obtain ⟨σ', H', I, q⟩ := h; exact ⟨σ', H', I.unwish, q⟩
 | brk => obtain ⟨σ', H', I, q⟩ := h; exact ⟨σ', H', I.unwish, q⟩
 | cont => obtain ⟨σ', H', I, q⟩ := h; exact ⟨σ', H', I.unwish, q⟩
 | ret u => obtain ⟨v, σ', H', I, r, q⟩ := h; exact ⟨v, σ', H', I.unwish, r, q⟩
theorem PE.nox {e : Expr} {t : TE} (h : PE X.nox e t) : PE X e t := fun pins s σ H Q I hw =>
 wpAny_mono (h pins s σ H Q (I.wish _) hw) (fun _ _ ⟨v, H', I', r, q⟩ => ⟨v, H', I'.unwish, r, q⟩) fun _ _ z => False.elim z
theorem PT.nox {e : Expr} {t : TT} (h : PT X.nox e t) : PT X e t := fun pins s σ H Q I hw =>
 wpAny_mono (h pins s σ H Q (I.wish _) hw) (fun _ _ ⟨H', I', q⟩ => ⟨H', I'.unwish, q⟩) fun _ _ z => False.elim z
theorem PSs.nox {st : List Stmt} {t : TS} (h : PSs X.nox st t) : PSs X st t := fun pins s σ H D I hw =>
 wpAny_mono (h pins s σ H D (I.wish _) hw) (fun _ _ q => q.unwish) fun _ _ z => False.elim z
end
section
variable {X : Cx} {st : Stmt} {rest : List Stmt} {t u : TS} {e : Expr} {te : TE} {pos : Pos}
def tNext : TS := fun D σ H => D.nx σ H
def tSeq (t u : TS) : TS := fun D σ H => t { D with nx := u D } σ H
theorem pss_nil : PSs X [] tNext := fun _ _ σ H _ I h => wpAny_execs_nil ⟨σ, H, I, h⟩
theorem pss_cons (h1 : PS X st t) (h2 : PSs X rest u) : PSs X (st :: rest) (tSeq t u) := by
 intro pins s σ H D I h
 refine wpAny_execs_cons (thn (h1 pins s σ H { D with nx := u D } I h) fun f s1 q => ?_)
 cases f with
 | next =>
  obtain ⟨σ', H', I', q⟩ := q
  exact h2 pins s1 σ' H' D I' q
 | ret v => exact q
 | brk => exact q
 | cont => exact q
theorem pss_one (h1 : PS X st t) : PSs X [st] t := by
 intro pins s σ H D I h
 refine wpAny_execs_cons (thn (h1 pins s σ H D I h) fun f s1 q => ?_)
 cases f with
 | next => exact wpAny_execs_nil q
 | ret v => exact q
 | brk => exact q
 | cont => exact q
theorem Inv.quiet {pins : List (Addr × Obj)} {σ : St} {H : Hp} {s : Shared} (I : Inv X pins σ H s) : interactive X.env = false := by simp [interactive, I.ok.kind]
def tDrop (te : TE) : TS := fun D σ H => te σ H fun _ H1 => D.nx σ H1
theorem ps_expr (he : PE X e te) (hs : swapsWith e none pos.line X.env = pure false := by rfl) : PS X (.Expr e pos) (tDrop te) := by
 intro pins s σ H D I h
 exact wpAny_Expr_any (thn (he pins s σ H _ I h) fun v s1 ⟨x, H1, I1, r1, q1⟩ => ⟨σ, H1, I1, q1⟩) I.quiet hs
def tRet (te : TE) : TS := fun D σ H => te σ H D.rt
theorem ps_ret (he : PE X e te) : PS X (.Return (some e) pos) (tRet te) := by
 intro pins s σ H D I h
 exact wpAny_Return_some (thn (he pins s σ H _ I h) fun v s1 ⟨x, H1, I1, r1, q1⟩ => ⟨x, σ, H1, I1, r1, q1⟩)
def tIfS (c : TT) (t u : TS) : TS := fun D σ H => c σ H fun b H1 => if b = true then t D σ H1 else u D σ H1
theorem ps_if {c : Expr} {a b : List Stmt} {tc : TT} (hc : PT X c tc) (ha : PSs X a t) (hb : PSs X b u) : PS X (.If c a b pos) (tIfS tc t u) := by
 intro pins s σ H D I h
 refine wpAny_If (thn (hc pins s σ H _ I h) fun d s1 ⟨H1, I1, q1⟩ => ?_)
 cases d with
 | true => exact ha pins s1 σ H1 D I1 q1
 | false => exact hb pins s1 σ H1 D I1 q1
end
abbrev TG := V -> St -> Hp -> (St -> Hp -> Prop) -> Prop
abbrev TGs := List V -> St -> Hp -> (St -> Hp -> Prop) -> Prop
def PG (X : Cx) (target : Expr) (t : TG) : Prop :=
 ∀ (pins : List (Addr × Obj)) (s : Shared) (σ : St) (H : Hp) (v : V) (u : Value) (Q : St -> Hp -> Prop), Inv X pins σ H s -> RelV v u -> t v σ H Q ->
  wpAny (model X.prog X.w) X.A (assign target X.env u) (fun _ s' => ∃ σ' H', Inv X pins σ' H' s' /\ Q σ' H') X.xe s
def PGs (X : Cx) (ts : List Expr) (t : TGs) : Prop :=
 ∀ (pins : List (Addr × Obj)) (s : Shared) (σ : St) (H : Hp) (vs : List V) (us : List Value) (Q : St -> Hp -> Prop), Inv X pins σ H s -> Vals vs us -> t vs σ H Q ->
  wpAny (model X.prog X.w) X.A (assignInOrder ((assignEach ts X.env).map (·.2)) us) (fun _ s' => ∃ σ' H', Inv X pins σ' H' s' /\ Q σ' H') X.xe s
section
variable {X : Cx} {pos : Pos}
def gName (i : Nat) : TG := fun v σ H Q => Q (σ.set i (some v)) H
theorem pg_name {i : Nat} {x : Str} (hN : X.N.Nodup) (hi : X.N[i]? = some x) (hx : Loc X.env.scope x) (hf : X.fn x = true \/ X.env.scope.names.lookup x = some .local := by first | exact .inl rfl | exact .inr rfl | assumption) : PG X (.Name x pos) (gName i) := by
 intro pins s σ H v u Q I r h
 exact wpAny_assign_Name (store_ok I hN hi hx r (fun s' I' => ⟨_, H, I', h⟩) hf)
def gNil : TGs := fun vs σ H Q => vs = [] /\ Q σ H
def gCons (t : TG) (u : TGs) : TGs := fun vs σ H Q => ∃ v r, vs = v :: r /\ t v σ H fun σ' H' => u r σ' H' Q
theorem pgs_nil : PGs X [] gNil := by
 intro pins s σ H vs us Q I r h
 obtain ⟨e, h⟩ := h
 subst e
 cases r
 exact assignInOrder_nil ⟨σ, H, I, h⟩
theorem pgs_cons {e : Expr} {es : List Expr} {t : TG} {u : TGs} (h1 : PG X e t) (h2 : PGs X es u)
  (hs : (assignEach (e :: es) X.env).map (·.2) = assign e X.env :: (assignEach es X.env).map (·.2) := by rfl) : PGs X (e :: es) (gCons t u) := by
 intro pins s σ H vs us Q I r h
 obtain ⟨v, vr, e1, h⟩ := h
 subst e1
 cases r with
 | cons r rr =>
  rw [hs]
  refine assignInOrder_cons (thn (h1 pins s σ H _ _ _ I r h) fun _ s1 ⟨σ1, H1, I1, q1⟩ => ?_)
  exact h2 pins s1 σ1 H1 _ _ Q I1 rr q1
def gTup (K : PySem.W.Frag) (n : Nat) (t : TGs) : TG := fun v σ H Q => ∃ a xs, v = .ref a /\ SqT K H a xs /\ xs.length = n /\ t xs σ H Q
theorem pg_tup {es : List Expr} {k : Nat} {t : TGs} {n : Nat} (hc : X.calm = true) (h : PGs X es t)
  (hn : (assignEach es X.env).length = n := by rfl) (hst : (assignEach es X.env).findIdx? (·.1) = none := by rfl) : PG X (.Tuple es k pos) (gTup X.K n t) := by
 intro pins s σ H v u Q I r hw
 obtain ⟨a, xs, e1, hq, hl, hw⟩ := hw
 subst e1
 cases r
 obtain ⟨its, rv, ht, hz⟩ := I.tuple hq
 refine assign_Tuple_tuple (I.ok.hd hc) ht (by simp [hn, <- hl, rv.length]) hst fun h' hx => ?_
 have I1 : Inv X pins σ H { s with heap := h' } := I.kept (t' := s.toks) fun b o e => hx b o (Nat.ne_of_lt (Heap.lt_size e)) e
 exact h pins _ σ H xs _ Q I1 (by simpa using rv) hw
def tAsg (te : TE) (g : TG) : TS := fun D σ H => te σ H fun x H1 => g x σ H1 D.nx
theorem ps_set {i : Nat} {x : Str} {e : Expr} {te : TE} {pos' : Pos} (hN : X.N.Nodup) (hi : X.N[i]? = some x) (hx : Loc X.env.scope x) (he : PE X e te) (hs : swapsWith e (some (.Name x pos')) pos.line X.env = pure false := by rfl) (hf : X.fn x = true \/ X.env.scope.names.lookup x = some .local := by first | exact .inl rfl | exact .inr rfl | assumption) :
  PS X (.Assign [.Name x pos'] e pos) (tAsg te (gName i)) := by
 intro pins s σ H D I h
 refine wpAny_Assign_Name (thn (he pins s σ H _ I h) fun v s1 ⟨y, H1, I1, r1, q1⟩ => ?_) hs
 exact store_ok I1 hN hi hx r1 (fun s2 I2 => ⟨_, H1, I2, q1⟩) hf
end
section
variable {X : Cx} {pos : Pos}
end
structure It where
 go : Nat -> Hp -> Prop
 yld : Nat -> Hp -> V -> Hp -> Prop
 stop : Nat -> Hp -> Prop
def FpOk (X : Cx) (pins : List (Addr × Obj)) (H : Hp) (b : Addr) : Prop :=
 H b = none /\ b ≠ X.env.locals /\ b ∉ X.fs /\ (b ∈ X.ex \/ X.s₀.heap.objs.size <= b) /\ (∀ x c, X.env.cells.lookup x = some c -> c ≠ b) /\ ∀ p ∈ X.pn ++ pins, p.1 ≠ b
theorem Inv.fpOk {X : Cx} {pins : List (Addr × Obj)} {σ : St} {H H' : Hp} {s : Shared} {b : Addr} (I : Inv X pins σ H s) (hb : s.heap.objs.size <= b) (hn : H' b = none) : FpOk X pins H' b := by
 refine ⟨hn, Nat.ne_of_gt (Nat.lt_of_lt_of_le I.lt hb), I.nofs hb, .inr (Nat.le_trans I.sz hb), fun x c e z => ?_, fun p hp z => ?_⟩
 ·obtain ⟨v, q⟩ := I.cell x c e
  exact absurd (Nat.lt_of_lt_of_le q.lt (by rw [z]; exact hb)) (Nat.lt_irrefl _)
 ·exact absurd (Nat.lt_of_lt_of_le (Heap.lt_size (I.pin p hp).1) (by rw [z]; exact hb)) (Nat.lt_irrefl _)
structure Turn (P : Program) (w : World) (K : PySem.W.Frag) (tg : Expr) (J : It) (fp : List Addr) (it : Addr) (tn : Nat -> Heap -> Prop) : Prop where
 mem : it ∈ fp
 obj : ∀ i h, tn i h -> ∀ b ∈ fp, ∃ o, h.get? b = some o /\ ∀ v, o.data ≠ .cell v
 keep : ∀ i h h', tn i h -> (∀ b ∈ fp, ∀ o, h.get? b = some o -> h'.get? b = some o) -> tn i h'
 item : ∀ (X : Cx), X.prog = P -> X.w = w -> X.K = K -> X.calm = true -> ∀ (i : Nat) (pins : List (Addr × Obj)) (s : Shared) (σ : St) (H : Hp) (E : Value -> Shared -> Prop), Inv X pins σ H s -> (∀ b ∈ fp, FpOk X pins H b) -> tn i s.heap -> J.go i H ->
  wpAny (model P w) X.A (pyNext (.ref it)) (fun r s1 => ∃ u, r = some u /\
   wpAny (model P w) X.A (letOwnedTupleGo tg (.ref it) u) (fun _ s2 => ∃ x H', Inv X pins σ H' s2 /\ RelV x u /\ J.yld i H x H' /\ tn (i + 1) s2.heap /\ ∀ b ∈ fp, H' b = none) E s1) E s
 done : ∀ (X : Cx), X.prog = P -> X.w = w -> X.K = K -> X.calm = true -> ∀ (i : Nat) (pins : List (Addr × Obj)) (s : Shared) (σ : St) (H : Hp) (E : Value -> Shared -> Prop), Inv X pins σ H s -> (∀ b ∈ fp, FpOk X pins H b) -> tn i s.heap -> J.stop i H ->
  wpAny (model P w) X.A (pyNext (.ref it)) (fun r s1 => r = none /\ Inv X pins σ H s1) E s
 self : ∀ (A : Around) (i : Nat) (s : Shared) (Q : Value -> Shared -> Prop) (E : Value -> Shared -> Prop), tn i s.heap -> Q (.ref it) s -> wpAny (model P w) A (pyIter (.ref it)) Q E s
abbrev TI := St -> Hp -> (It -> Hp -> Prop) -> Prop
def PIE (X : Cx) (pins : List (Addr × Obj)) (σ : St) (tg : Expr) (R : It -> Hp -> Prop) (itv : Value) (s2 : Shared) : Prop :=
 ∃ (it : Addr) (fp : List Addr) (tn : Nat -> Heap -> Prop) (J : It) (H' : Hp), itv = .ref it /\ Inv X pins σ H' s2 /\ Turn X.prog X.w X.K tg J fp it tn /\ tn 0 s2.heap /\ (∀ b ∈ fp, FpOk X pins H' b) /\ R J H'
def PI (X : Cx) (tg iter : Expr) (wi : TI) : Prop :=
 ∀ (pins : List (Addr × Obj)) (s : Shared) (σ : St) (H : Hp) (R : It -> Hp -> Prop), Inv X pins σ H s -> wi σ H R ->
  wpAny (model X.prog X.w) X.A (eval iter X.env) (fun v s1 => wpAny (model X.prog X.w) X.A (pyIter v) (PIE X pins σ tg R) X.xe s1) X.xe s
theorem go_of {M : Model} {A : Around} {E : Value -> Shared -> Prop} {s : Shared} {tg : Expr} {it : Addr} {u : Value} {o : Obj} {n : String} {vs : Array Value} {Q : Unit -> Shared -> Prop} (ho : s.heap.get? it = some o) (hc : o.cls = .type n) (hd : o.data = .fields vs)
  (hn : ["enumerate", "zip", "dict_itemiterator", "dict_reverseitemiterator", "odict_iterator", "itertools.zip_longest", "itertools.pairwise"].contains n = false) (hQ : Q () s) : wpAny M A (letOwnedTupleGo tg (.ref it) u) Q E s := by
 unfold letOwnedTupleGo
 cases tg <;> first
  | exact wpAny_pure hQ
  | (cases u <;> first
    | exact wpAny_pure hQ
    | (refine wpAny_bind (wpAny_load ho ?_)
       rw [hc, hd]
       show wpAny M A (if (["enumerate", "zip", "dict_itemiterator", "dict_reverseitemiterator", "odict_iterator", "itertools.zip_longest", "itertools.pairwise"].contains n && vs[0]? == some (rawInt _)) = true then _ else _) Q E s
       rw [if_neg (by intro h; rw [hn, Bool.false_and] at h; cases h)]
       exact wpAny_pure hQ))
def Itl (K : PySem.W.Frag) (a : Addr) : It :=
 ⟨fun i H => ∃ xs x, SqL K H a xs /\ xs[i]? = some x, fun i H x H' => H' = H /\ ∀ xs, SqL K H a xs -> xs[i]? = some x, fun i H => ∃ xs, SqL K H a xs /\ xs.length <= i⟩
def Itt (K : PySem.W.Frag) (a : Addr) : It :=
 ⟨fun i H => ∃ xs x, SqT K H a xs /\ xs[i]? = some x, fun i H x H' => H' = H /\ ∀ xs, SqT K H a xs -> xs[i]? = some x, fun i H => ∃ xs, SqT K H a xs /\ xs.length <= i⟩
def Itr (lo : Int) (n : Nat) : It := ⟨fun i _ => i < n, fun i H x H' => H' = H /\ x = .int (lo + i), fun i _ => n <= i⟩
theorem turn_list {P : Program} {w : World} {K : PySem.W.Frag} {tg : Expr} (a it : Addr) : Turn P w K tg (Itl K a) [it] it (fun i h => h.IsListIter it a i) where
 mem := by simp
 obj := fun i h st b hb => by
  have e : b = it := by simpa using hb
  subst e
  obtain ⟨o, e, c, d⟩ := st
  exact ⟨o, e, fun v z => by rw [d] at z; cases z⟩
 keep := fun i h h' st k => st.at fun o e => k it (by simp) o e
 item := by
  intro X hP hw hK hc i pins s σ H E I hf st hg
  subst hP hw hK
  obtain ⟨xs, x, hq, hx⟩ := hg
  obtain ⟨its, rv, p, hz⟩ := I.list hq
  obtain ⟨u, hu, ru⟩ := rv.get hx
  obtain ⟨f0, f1, f2, f3, f4, f5⟩ := hf it (by simp)
  refine wpAny_pyNext_list_item st p.isList (x := u) (by simpa using hu) fun h' st' sb => ?_
  have I1 : Inv X pins σ H { s with heap := h' } := I.turned (t' := s.toks) (fun b o hb e => (sb.2 b hb).trans e) f0 f1 f3 f4 f5
  obtain ⟨o, e, c, d⟩ := id st'
  exact ⟨u, rfl, go_of (s := { s with heap := h' }) e c d (by decide) ⟨x, H, I1, ru, ⟨rfl, fun ys hy => by rw [I.list_inj hy hq]; exact hx⟩, st', fun b hb => (hf b hb).1⟩⟩
 done := by
  intro X hP hw hK hc i pins s σ H E I hf st hg
  subst hP hw hK
  obtain ⟨xs, hq, hx⟩ := hg
  obtain ⟨its, rv, p, hz⟩ := I.list hq
  obtain ⟨f0, f1, f2, f3, f4, f5⟩ := hf it (by simp)
  have hl := rv.length
  exact wpAny_pyNext_list_end (I.ok.hd hc) st p.isList (by simp; omega) fun h' eb => ⟨rfl, I.turned (t' := s.toks) (fun b o hb e => eb b o hb e) f0 f1 f3 f4 f5⟩
 self := fun _ _ _ _ _ st h => wpAny_pyIter_listiter st h
theorem turn_tuple {P : Program} {w : World} {K : PySem.W.Frag} {tg : Expr} (a it : Addr) : Turn P w K tg (Itt K a) [it] it (fun i h => h.IsTupleIter it a i) where
 mem := by simp
 obj := fun i h st b hb => by
  have e : b = it := by simpa using hb
  subst e
  obtain ⟨o, e, c, d⟩ := st
  exact ⟨o, e, fun v z => by rw [d] at z; cases z⟩
 keep := fun i h h' st k => st.at fun o e => k it (by simp) o e
 item := by
  intro X hP hw hK hc i pins s σ H E I hf st hg
  subst hP hw hK
  obtain ⟨xs, x, hq, hx⟩ := hg
  obtain ⟨its, rv, p, hz⟩ := I.tuple hq
  obtain ⟨u, hu, ru⟩ := rv.get hx
  obtain ⟨f0, f1, f2, f3, f4, f5⟩ := hf it (by simp)
  refine wpAny_pyNext_tuple_item st (show s.heap.IsTuple a its.toArray from p) (x := u) (by simpa using hu) fun h' st' sb => ?_
  have I1 : Inv X pins σ H { s with heap := h' } := I.turned (t' := s.toks) (fun b o hb e => (sb.2 b hb).trans e) f0 f1 f3 f4 f5
  obtain ⟨o, e, c, d⟩ := id st'
  exact ⟨u, rfl, go_of (s := { s with heap := h' }) e c d (by decide) ⟨x, H, I1, ru, ⟨rfl, fun ys hy => by rw [I.tuple_inj hy hq]; exact hx⟩, st', fun b hb => (hf b hb).1⟩⟩
 done := by
  intro X hP hw hK hc i pins s σ H E I hf st hg
  subst hP hw hK
  obtain ⟨xs, hq, hx⟩ := hg
  obtain ⟨its, rv, p, hz⟩ := I.tuple hq
  obtain ⟨f0, f1, f2, f3, f4, f5⟩ := hf it (by simp)
  have hl := rv.length
  exact wpAny_pyNext_tuple_end (I.ok.hd hc) st (show s.heap.IsTuple a its.toArray from p) (by simp; omega) fun h' eb => ⟨rfl, I.turned (t' := s.toks) (fun b o hb e => eb b o hb e) f0 f1 f3 f4 f5⟩
 self := fun _ _ _ _ _ st h => wpAny_pyIter_tupleiter st h
theorem turn_range {P : Program} {w : World} {K : PySem.W.Frag} {tg : Expr} (it : Addr) (lo : Int) (n : Nat) : Turn P w K tg (Itr lo n) [it] it (fun i h => IsRangeIter h it (lo + (i : Nat) * 1) ((n : Int) - (i : Nat)) 1) where
 mem := by simp
 obj := fun i h st b hb => by
  have e : b = it := by simpa using hb
  subst e
  exact ⟨_, st, fun v z => by
   have z' : Data.fields _ = Data.cell v := z
   cases z'⟩
 keep := fun i h h' st k => k it (by simp) _ st
 item := by
  intro X hP hw hK hc i pins s σ H E I hf st hg
  subst hP hw hK
  obtain ⟨f0, f1, f2, f3, f4, f5⟩ := hf it (by simp)
  have W := Walks.range (prog := X.prog) (w := X.w) (I.ok.hd hc) it lo 1 n
  refine W.item i s _ _ hg st fun v h' tk hv st' kk => ?_
  obtain ⟨t, rfl⟩ := hv
  have I1 : Inv X pins σ H { s with heap := h', toks := tk } := I.turned (fun b o hb e => kk b o (by simpa using hb) e) f0 f1 f3 f4 f5
  refine ⟨_, rfl, go_of (s := { s with heap := h', toks := tk }) (n := "range_iterator") st' rfl rfl (by decide) ⟨.int (lo + i), H, I1, ⟨t, ?_⟩, ⟨rfl, rfl⟩, st', fun b hb => (hf b hb).1⟩⟩
  rw [Int.mul_one]
 done := by
  intro X hP hw hK hc i pins s σ H E I hf st hg
  subst hP hw hK
  obtain ⟨f0, f1, f2, f3, f4, f5⟩ := hf it (by simp)
  exact wpAny_pyNext_range_end (I.ok.hd hc) st (by have : n <= i := hg; omega) fun h' eb => ⟨rfl, I.turned (t' := s.toks) (fun b o hb e => eb b o hb e) f0 f1 f3 f4 f5⟩
 self := fun _ _ _ _ _ st h => wpAny_pyIter_rangeiter st h
end L2
namespace L2
open PySem PySem.Spec PyProof.Rows
section
variable {X : Cx} {tg : Expr}
theorem range_it {pins : List (Addr × Obj)} {σ : St} {H : Hp} {s : Shared} {R : It -> Hp -> Prop} {E : Value -> Shared -> Prop} {lo hi : Int} {t u v : Tok} {tk : Nat} (I : Inv X pins σ H s) (h1 : -(2 ^ 62) <= lo) (h2 : lo < 2 ^ 62) (h3 : -(2 ^ 62) <= hi) (h4 : hi < 2 ^ 62)
  (q : R (Itr lo (hi - lo).toNat) H) : wpAny (model X.prog X.w) X.A (pyIter (.ref s.heap.objs.size)) (PIE X pins σ tg R) E { s with heap := s.heap.push { cls := .type "range", data := .fields #[.int lo t, .int hi u, .int 1 v] }, toks := tk } := by
 refine wpAny_pyIter_range (IsRange.new ..) (small_one h1 h2 h3 h4) ?_
 have I1 : Inv X pins σ H { s with heap := s.heap.push { cls := .type "range", data := .fields #[.int lo t, .int hi u, .int 1 v] }, toks := tk } := I.kept fun b o e => Heap.get?_push_of_some _ e
 refine ⟨(s.heap.push { cls := .type "range", data := .fields #[.int lo t, .int hi u, .int 1 v] }).objs.size, [(s.heap.push { cls := .type "range", data := .fields #[.int lo t, .int hi u, .int 1 v] }).objs.size], _, _, H, rfl,
  I1.kept (t' := tk) fun b o e => Heap.get?_push_of_some _ e, turn_range _ lo (hi - lo).toNat, ?_, fun b hb => ?_, q⟩
 ·have e1 : lo + ((0 : Nat) : Int) * 1 = lo := by simp
  have e2 : (((hi - lo).toNat : Nat) : Int) - ((0 : Nat) : Int) = Builtin.Range.rangeSize lo hi 1 := by rw [rangeSize_one]; split <;> omega
  show IsRangeIter _ _ (lo + ((0 : Nat) : Int) * 1) ((((hi - lo).toNat : Nat) : Int) - ((0 : Nat) : Int)) 1
  rw [e1, e2]
  exact Heap.get?_push_size _ rfl
 ·have e : b = (s.heap.push { cls := .type "range", data := .fields #[.int lo t, .int hi u, .int 1 v] }).objs.size := by simpa using hb
  subst e
  exact I1.fpOk (Nat.le_refl _) (I1.hok.fresh (Nat.le_refl _))
def iRng1 (ta : TA) : TI := fun σ H R => ta σ H fun vs H1 => ∃ j : Int, vs = [.int j] /\ -(2 ^ 62) <= j /\ j < 2 ^ 62 /\ R (Itr 0 j.toNat) H1
theorem pi_range1 {a : Expr} {ta : TA} {p pos : Pos} (hg : Gl X "range") (hm : X.mg "range" = none) (ha : PA X [a] ta) (hs : starEach [a] X.env = [(false, eval a X.env)] := by rfl) : PI X tg (.Call (.Name "range" p) [a] [] pos) (iRng1 ta) := by
 intro pins s σ H R I h
 refine Call_ (ld_blt I hg hm boot_range (PyProof.Rows.callWith_type1 (thn (ha pos pins s σ H _ I h) fun us s1 ⟨vs, H1, I1, r1, q1⟩ => ?_) hs rfl))
 obtain ⟨j, e, q1, q2, q⟩ := q1
 subst e
 cases r1 with
 | cons r rr =>
  cases rr
  obtain ⟨t, rfl⟩ := r
  exact call_range_1 (range_it I1 (by omega) (by omega) q1 q2 (by simpa using q))
def tFor (wi : TI) (g : TG) (tb : TS) : TS := fun D σ H => wi σ H fun J H1 => ∃ W : Nat -> Nat -> St -> Hp -> Prop, (∃ m, W 0 m σ H1) /\ ∀ i m σ H, W i m σ H ->
 (J.stop i H /\ D.nx σ H) \/ (J.go i H /\ ∃ N : St -> Hp -> Prop, (∀ σ' H', N σ' H' -> ∃ m', m' < m /\ W (i + 1) m' σ' H') /\ ∀ x H', J.yld i H x H' -> g x σ H' fun σ2 H2 => tb { D with nx := N, ct := N, bk := D.nx } σ2 H2)
def pinsAt (fp : List Addr) (h : Heap) : List (Addr × Obj) := fp.filterMap fun b => (h.get? b).map fun o => (b, o)
theorem mem_pinsAt {fp : List Addr} {h : Heap} {b : Addr} {o : Obj} (hb : b ∈ fp) (e : h.get? b = some o) : (b, o) ∈ pinsAt fp h := List.mem_filterMap.mpr ⟨b, hb, by rw [e]; rfl⟩
theorem of_pinsAt {fp : List Addr} {h : Heap} {p : Addr × Obj} (hp : p ∈ pinsAt fp h) : p.1 ∈ fp /\ h.get? p.1 = some p.2 := by
 obtain ⟨b, hb, e⟩ := List.mem_filterMap.mp hp
 cases q : h.get? b with
 | none => rw [q] at e; cases e
 | some o =>
  rw [q] at e
  have e' : (b, o) = p := Option.some.inj e
  subst e'
  exact ⟨hb, q⟩
theorem Inv.pinned {pins : List (Addr × Obj)} {σ : St} {H : Hp} {s : Shared} {fp : List Addr} (I : Inv X pins σ H s) (hf : ∀ b ∈ fp, FpOk X pins H b) (ho : ∀ b ∈ fp, ∃ o, s.heap.get? b = some o /\ ∀ v, o.data ≠ .cell v) : Inv X (pins ++ pinsAt fp s.heap) σ H s :=
 I.pins_of fun p hp => (List.mem_append.mp hp).elim (fun z => I.pin p (List.mem_append_right _ z)) fun z => by
  obtain ⟨hb, e⟩ := of_pinsAt z
  obtain ⟨f0, f1, f2, _⟩ := hf p.1 hb
  obtain ⟨o, e', d⟩ := ho p.1 hb
  rw [e] at e'; cases e'
  exact ⟨e, f0, f1, f2, d⟩
theorem Inv.unpinned {pins pl : List (Addr × Obj)} {σ : St} {H : Hp} {s : Shared} (I : Inv X (pins ++ pl) σ H s) : Inv X pins σ H s := I.pins_of fun p hp => I.pin p (List.mem_append_right _ (List.mem_append_left _ hp))
theorem ps_for {iter : Expr} {body : List Stmt} {wi : TI} {g : TG} {tb : TS} {pos : Pos} (hp : PassesOwn (model X.prog X.w) X.A X.env X.xe) (hc : X.calm = true) (hi : PI X tg iter wi) (hg : PG X tg g) (hb : PSs X body tb)
  (hs : ∀ x, foldedSetIterable iter X.env x = pure x := by intro _; rfl) : PS X (.For tg iter body [] pos) (tFor wi g tb) := by
 intro pins s σ H D I h
 refine wpAny_For (thn (hi pins s σ H _ I h) fun v s1 h1 => thn h1 fun itv s2 h2 => ?_) hs
 obtain ⟨it, fp, tn, J, H2, e, I2, T, st2, f2, W, ⟨m0, w0⟩, turn⟩ := h2
 subst e
 have stat : ∀ {H' : Hp}, (∀ b ∈ fp, H' b = none) -> ∀ b ∈ fp, FpOk X pins H' b := fun hn b hb => ⟨hn b hb, (f2 b hb).2⟩
 refine codeAny_forLoop_any (fun n s' => ∃ i σ' H', Inv X pins σ' H' s' /\ tn i s'.heap /\ (∀ b ∈ fp, H' b = none) /\ W i n σ' H') ?_ m0 ⟨0, σ, H2, I2, st2, fun b hb => (f2 b hb).1, w0⟩
 rintro n s3 ⟨i, σ3, H3, I3, st3, fr3, w3⟩
 rcases turn i n σ3 H3 w3 with ⟨stop, qn⟩ | ⟨go, N, hN, step⟩
 ·refine wpAny_passesOwn hp (thn (T.done X rfl rfl rfl hc i pins s3 σ3 H3 X.xe I3 (stat fr3) st3 stop) fun r s4 ⟨hr, I4⟩ => ?_)
  subst hr
  exact wpAny_execs_nil ⟨σ3, H3, I4, qn⟩
 ·refine wpAny_passesOwn hp (thn (T.item X rfl rfl rfl hc i pins s3 σ3 H3 X.xe I3 (stat fr3) st3 go) fun r s4 ⟨u, hr, h4⟩ => ?_)
  subst hr
  refine wpAny_passesOwn hp (thn h4 fun _ s5 ⟨x, H5, I5, r5, y5, st5, fr5⟩ => ?_)
  have I5' := I5.pinned (stat fr5) (T.obj _ _ st5)
  refine wpAny_passesOwn hp (thn (hg _ s5 σ3 H5 x u _ I5' r5 (step x H5 y5)) fun _ s6 ⟨σ6, H6, I6, q6⟩ => ?_)
  refine wpAny_passesOwn hp (thn (hb _ s6 σ6 H6 _ I6 q6) fun f s7 q7 => ?_)
  have again : ∀ {σ7 : St} {H7 : Hp}, Inv X (pins ++ pinsAt fp s5.heap) σ7 H7 s7 -> N σ7 H7 -> ∃ m, m < n /\ ∃ i σ' H', Inv X pins σ' H' s7 /\ tn i s7.heap /\ (∀ b ∈ fp, H' b = none) /\ W i m σ' H' := fun {σ7 H7} I7 n7 => by
   obtain ⟨m', hm, w7⟩ := hN σ7 H7 n7
   refine ⟨m', hm, i + 1, σ7, H7, I7.unpinned, T.keep _ _ _ st5 fun b hb o e => (I7.pin (b, o) (List.mem_append_right _ (List.mem_append_right _ (mem_pinsAt hb e)))).1, fun b hb => ?_, w7⟩
   obtain ⟨o, e, d⟩ := T.obj _ _ st5 b hb
   exact (I7.pin (b, o) (List.mem_append_right _ (List.mem_append_right _ (mem_pinsAt hb e)))).2.1
  cases f with
  | next => obtain ⟨σ7, H7, I7, n7⟩ := q7; exact again I7 n7
  | cont => obtain ⟨σ7, H7, I7, n7⟩ := q7; exact again I7 n7
  | brk => obtain ⟨σ7, H7, I7, q7⟩ := q7; exact ⟨σ7, H7, I7.unpinned, q7⟩
  | ret v => obtain ⟨x7, σ7, H7, I7, r7, q7⟩ := q7; exact ⟨x7, σ7, H7, I7.unpinned, r7, q7⟩
end
end L2
namespace L2
open PySem PySem.Spec PyProof.Rows
abbrev R2 := V -> V -> Hp -> VK -> Prop
def OpR (X : Cx) (f : Value -> Value -> Sem Value) (r : R2) : Prop :=
 ∀ (pins : List (Addr × Obj)) (s : Shared) (σ : St) (H : Hp) (x y : V) (v u : Value) (Q : VK), Inv X pins σ H s -> RelV x v -> RelV y u -> r x y H Q ->
  wpAny (model X.prog X.w) X.A (f v u) (EP X pins σ Q) X.xe s
def CallR (X : Cx) (f : Value) (r : List V -> Hp -> VK -> Prop) : Prop :=
 ∀ (pins : List (Addr × Obj)) (s : Shared) (σ : St) (H : Hp) (xs : List V) (us : List Value) (Q : VK), Inv X pins σ H s -> Vals xs us -> r xs H Q ->
  wpAny (model X.prog X.w) X.A (call f us) (EP X pins σ Q) X.xe s
def tOp (r : R2) (ta tb : TE) : TE := fun σ H Q => ta σ H fun x H1 => tb σ H1 fun y H2 => r x y H2 Q
def rI (C : Int -> Int -> Prop) (g : Int -> Int -> V) : R2 := fun x y H Q => ∃ i j, x = .int i /\ y = .int j /\ C i j /\ Q (g i j) H
def rI0 (g : Int -> Int -> V) : R2 := fun x y H Q => ∃ i j, x = .int i /\ y = .int j /\ Q (g i j) H
section
variable {X : Cx} {a b c : Expr} {ta tb tc : TE} {pos : Pos}
theorem binT (ha : PE X a ta) (hb : PE X b tb) {pins : List (Addr × Obj)} {s : Shared} {σ : St} {H : Hp} {R : V -> V -> Hp -> Prop} (I : Inv X pins σ H s)
  (h : ta σ H fun x H1 => tb σ H1 fun y H2 => R x y H2) {Q : Value -> Shared -> Prop} {f : Value -> Value -> Sem Value}
  (hf : ∀ v u s2 x y H2, Inv X pins σ H2 s2 -> RelV x v -> RelV y u -> R x y H2 -> wpAny (model X.prog X.w) X.A (f v u) Q X.xe s2) :
  wpAny (model X.prog X.w) X.A (eval a X.env) (fun v s₁ => wpAny (model X.prog X.w) X.A (eval b X.env) (fun u s₂ => wpAny (model X.prog X.w) X.A (f v u) Q X.xe s₂) X.xe s₁) X.xe s := by
 refine thn (ha pins s σ H _ I h) fun v s1 ⟨x, H1, I1, r1, q1⟩ => ?_
 refine thn (hb pins s1 σ H1 _ I1 q1) fun u s2 ⟨y, H2, I2, r2, q2⟩ => ?_
 exact hf v u s2 x y H2 I2 r1 r2 q2
theorem pe_op {op : Operator} {r : R2} (ho : OpR X (binaryOp op) r) (ha : PE X a ta) (hb : PE X b tb) : PE X (.BinOp a op b pos) (tOp r ta tb) := by
 intro pins s σ H Q I h
 exact wpAny_BinOp (binT ha hb I h fun v u s2 x y H2 I2 rx ry q => ho pins s2 σ H2 x y v u Q I2 rx ry q)
theorem opI {f : Value -> Value -> Sem Value} {C : Int -> Int -> Prop} {g : Int -> Int -> Int}
  (rule : ∀ (i j : Int) (t u : Tok) (s : Shared) (Q : Value -> Shared -> Prop) (E : Value -> Shared -> Prop), C i j -> Q (.int (g i j) s.toks) { s with toks := s.toks + 1 } -> wpAny (model X.prog X.w) X.A (f (.int i t) (.int j u)) Q E s) :
  OpR X f (rI C fun i j => .int (g i j)) := by
 intro pins s σ H x y v u Q I rx ry h
 obtain ⟨i, j, rfl, rfl, hc, q⟩ := h
 obtain ⟨t, rfl⟩ := rx
 obtain ⟨t', rfl⟩ := ry
 exact rule i j t t' s _ _ hc ⟨.int (g i j), H, I.tok _, ⟨_, rfl⟩, q⟩
theorem opI0 {f : Value -> Value -> Sem Value} {g : Int -> Int -> Int}
  (rule : ∀ (i j : Int) (t u : Tok) (s : Shared) (Q : Value -> Shared -> Prop) (E : Value -> Shared -> Prop), Q (.int (g i j) s.toks) { s with toks := s.toks + 1 } -> wpAny (model X.prog X.w) X.A (f (.int i t) (.int j u)) Q E s) :
  OpR X f (rI0 fun i j => .int (g i j)) := by
 intro pins s σ H x y v u Q I rx ry h
 obtain ⟨i, j, rfl, rfl, q⟩ := h
 obtain ⟨t, rfl⟩ := rx
 obtain ⟨t', rfl⟩ := ry
 exact rule i j t t' s _ _ ⟨.int (g i j), H, I.tok _, ⟨_, rfl⟩, q⟩
theorem opB0 {f : Value -> Value -> Sem Value} {g : Int -> Int -> Bool}
  (rule : ∀ (i j : Int) (t u : Tok) (s : Shared) (Q : Value -> Shared -> Prop) (E : Value -> Shared -> Prop), Q (.bool (g i j)) s -> wpAny (model X.prog X.w) X.A (f (.int i t) (.int j u)) Q E s) :
  OpR X f (rI0 fun i j => .bl (g i j)) := by
 intro pins s σ H x y v u Q I rx ry h
 obtain ⟨i, j, rfl, rfl, q⟩ := h
 obtain ⟨t, rfl⟩ := rx
 obtain ⟨t', rfl⟩ := ry
 exact rule i j t t' s _ _ ⟨.bl (g i j), H, I, rfl, q⟩
def CDiv (i j : Int) : Prop := 0 < j /\ j < 1073741824
def CMul (i j : Int) : Prop := (-(2 ^ 64) < i /\ i < 2 ^ 64) \/ (-(2 ^ 64) < j /\ j < 2 ^ 64)
theorem CMul.ok {i j : Int} (h : CMul i j) : IntMulOk i j := by
 rcases h with ⟨h1, h2⟩ | ⟨h1, h2⟩
 ·exact .of_left (intBits_le_64 h1 h2)
 ·exact .of_right (intBits_le_64 h1 h2)
theorem op_add : OpR X (binaryOp .Add) (rI0 fun i j => .int (i + j)) := opI0 fun _ _ _ _ _ _ _ q => add_int q
theorem op_mul : OpR X (binaryOp .Mult) (rI CMul fun i j => .int (i * j)) := opI fun _ _ _ _ _ _ _ hc q => mul_int q hc.ok
theorem op_fdiv : OpR X (binaryOp .FloorDiv) (rI CDiv fun i j => .int (i / j)) := opI fun i j _ _ _ _ _ hc q => by
 have h1 : (0 : Int) < j := hc.1
 have h2 : j < 1073741824 := hc.2
 exact floordiv_int (by omega) (by rw [Int.fdiv_eq_ediv_of_nonneg i (by omega)]; exact q) (.inl (PyProof.noPylong_small (by omega)))
theorem op_mod : OpR X (binaryOp .Mod) (rI (fun _ j => 0 < j) fun i j => .int (i % j)) := opI fun i j _ _ _ _ _ hc q => by
 have h1 : (0 : Int) < j := hc
 exact mod_int' (by omega) (by rw [Int.fmod_eq_emod_of_nonneg i (by omega)]; exact q)
end
section
variable {X : Cx} {a b c : Expr} {ta tb tc : TE} {pos : Pos}
theorem fin_bl {pins : List (Addr × Obj)} {σ : St} {H : Hp} {s : Shared} {Q : VK} {k k' : Bool} (I : Inv X pins σ H s) (q : Q (.bl k) H) (e : k = k') : EP X pins σ Q (.bool k') s := by
 subst e
 exact ⟨.bl k, H, I, rfl, q⟩
theorem op_lt : OpR X (compareOp .Lt) (rI0 fun i j => .bl (decide (i < j))) := opB0 fun _ _ _ _ _ _ _ q => lt_int q
theorem op_lt_str : OpR X (compareOp .Lt) (fun x y H Q => ∃ i j, x = .str i /\ y = .str j /\ Q (.bl (decide (i.cps.toList < j.cps.toList))) H) := by
 intro pins s σ H x y v u Q I rx ry h
 obtain ⟨i, j, rfl, rfl, q⟩ := h
 obtain ⟨t, rfl⟩ := rx
 obtain ⟨t', rfl⟩ := ry
 exact lt_str (fin_bl I q rfl)
def isObj : HO -> Bool
 | .lst _ => true
 | .ins _ _ _ => true
 | _ => false
theorem obj_there {pins : List (Addr × Obj)} {s : Shared} {σ : St} {H : Hp} {a : Addr} {o : HO} (I : Inv X pins σ H s) (h : H a = some o) (p : isObj o = true) : ∃ ob, s.heap.get? a = some ob /\ ob.cls ≠ .type "tuple" := by
 cases o with
 | lst xs =>
  obtain ⟨_, its, n, _, e⟩ : xs.length <= sizeLine /\ ∃ (its : List Value) (n : Nat), Vals xs its /\ s.heap.get? a = some { cls := .type "list", data := .seq its.toArray n } := I.hok a _ h
  exact ⟨_, e, (by show Value.type "list" ≠ .type "tuple"; decide +kernel)⟩
 | ins C dx fs =>
  have x := I.hok a _ h
  obtain ⟨_, _, _, e, _⟩ := x
  exact ⟨_, e, (by show Value.ref C ≠ .type "tuple"; exact fun z => by cases z)⟩
 | _ => exact absurd (show false = true from p) Bool.false_ne_true
theorem OpR.or {f : Value -> Value -> Sem Value} {r r' : R2} (h : OpR X f r) (h' : OpR X f r') : OpR X f (fun x y H Q => r x y H Q \/ r' x y H Q) := by
 intro pins s σ H x y v u Q I rx ry q
 rcases q with q | q
 ·exact h pins s σ H x y v u Q I rx ry q
 ·exact h' pins s σ H x y v u Q I rx ry q
theorem nomark (b : Expr) {op : CmpOp} (h : op ≠ .In := by decide) (h2 : op ≠ .NotIn := by decide) : behindInMarks op b = false := by
 have e1 : (op == CmpOp.In) = false := by cases op <;> first | rfl | exact absurd rfl h
 have e2 : (op == CmpOp.NotIn) = false := by cases op <;> first | rfl | exact absurd rfl h2
 cases b <;> simp [behindInMarks, e1, e2]
theorem pe_cmpR {op : CmpOp} {r : R2} (ho : OpR X (compareOp op) r) (ha : PE X a ta) (hb : PE X b tb) (hm : behindInMarks op b = false) : PE X (.Compare a [op] [b] pos) (tOp r ta tb) := by
 intro pins s σ H Q I h
 exact wpAny_Compare1 (binT ha hb I h fun v u s2 x y H2 I2 rx ry q => ho pins s2 σ H2 x y v u Q I2 rx ry q) hm
def tTest (t : TE) : TT := fun σ H Q => t σ H fun x H' => ∃ k, x = .bl k /\ Q k H'
theorem pt_cmpR {op : CmpOp} {r : R2} (ho : OpR X (compareOp op) r) (ha : PE X a ta) (hb : PE X b tb) (hm : behindInMarks op b = false) : PT X (.Compare a [op] [b] pos) (tTest (tOp r ta tb)) := by
 intro pins s σ H Q I h
 refine wpAny_isTrue_Compare1 (thn (ha pins s σ H _ I h) fun v s1 ⟨x, H1, I1, r1, q1⟩ => thn (hb pins s1 σ H1 _ I1 q1) fun u s2 ⟨y, H2, I2, r2, q2⟩ =>
  thn (ho pins s2 σ H2 x y v u _ I2 r1 r2 q2) fun c s3 ⟨z, H3, I3, r3, k, e, q3⟩ => ?_) hm
 subst e
 cases r3
 exact wpAny_truthy_bool ⟨H3, I3, q3⟩
theorem line63 : (sizeLine : Nat) < 2 ^ 63 := by rw [sizeLine_eq]; decide
theorem op_add_str : OpR X (binaryOp .Add) (fun x y H Q => ∃ i j, x = .str i /\ y = .str j /\ i.length + j.length <= sizeLine /\ Q (.str (i ++ j)) H) := by
 intro pins s σ H x y v u Q I rx ry h
 obtain ⟨i, j, rfl, rfl, hz, q⟩ := h
 obtain ⟨t, rfl⟩ := rx
 obtain ⟨t', rfl⟩ := ry
 exact add_str (fun t' tk => ⟨.str (i ++ j), H, I.tok _, ⟨_, rfl⟩, q⟩) hz
end
end L2
namespace L2
open PySem PySem.Spec PyProof.Rows
theorem lookIn_ns {h : Heap} {dx : Addr} {mA : Str -> Option Value} (n : h.Ns1 dx mA) : ∃ od, h.get? dx = some od /\ ∀ name, PySem.W.lookIn name od = some (mA name) := by
 obtain ⟨o, es, ep, ho, hd, hk, _, hm⟩ := n
 refine ⟨o, ho, fun name => ?_⟩
 have e := hm name
 unfold nsFind findBy at e
 rw [<- Array.find?_toList] at e
 unfold PySem.W.lookIn
 rw [hd]
 dsimp only
 split
 ·rename_i y q
  rw [q] at e
  exact congrArg some e
 ·rename_i q
  rw [q] at e
  have a : es.toList.any (·.refKey) = false := by
   rw [List.any_eq_false]
   intro y hy
   obtain ⟨z, t, hkey⟩ := hk y (Array.mem_toList_iff.mp hy)
   simp [DictEntry.refKey, hkey]
  have a' : ¬ es.toList.any (·.refKey) = true := by rw [a]; exact Bool.false_ne_true
  rw [if_neg a']
  exact congrArg some e
section
variable {prog : Program} {w : World} {A : Around} {E : Value -> Shared -> Prop} {s : Shared} {K : PySem.W.Frag} {x dx C f : Addr} {mA : Str -> Option Value} {name : Str} {v : Value}
end
def putF (f : Str) (v : V) : List (Str × V) -> List (Str × V)
 | [] => [(f, v)]
 | (g, x) :: r => if g = f then (g, v) :: r else (g, x) :: putF f v r
theorem lookup_putF (f g : Str) (v : V) : ∀ fs : List (Str × V), (putF f v fs).lookup g = if g = f then some v else fs.lookup g
 | [] => by
  show List.lookup g [(f, v)] = _
  by_cases h : g = f
  ·have hb : (g == f) = true := beq_iff_eq.mpr h
   simp only [List.lookup, hb, if_pos h]
  ·have hb : (g == f) = false := beq_eq_false_iff_ne.mpr h
   simp only [List.lookup, hb, if_neg h]
 | (k, x) :: r => by
  have ih := lookup_putF f g v r
  rw [show putF f v ((k, x) :: r) = (if k = f then (k, v) :: r else (k, x) :: putF f v r) from rfl]
  by_cases hk : k = f
  ·rw [if_pos hk]
   by_cases h : g = k
   ·have hb : (g == k) = true := beq_iff_eq.mpr h
    simp only [List.lookup, hb, if_pos (h.trans hk)]
   ·have hb : (g == k) = false := beq_eq_false_iff_ne.mpr h
    simp only [List.lookup, hb, if_neg (fun e : g = f => h (e.trans hk.symm))]
  ·rw [if_neg hk]
   by_cases h : g = k
   ·have hb : (g == k) = true := beq_iff_eq.mpr h
    simp only [List.lookup, hb, if_neg (fun e : g = f => hk (h.symm.trans e))]
   ·have hb : (g == k) = false := beq_eq_false_iff_ne.mpr h
    simp only [List.lookup, hb]
    exact ih
theorem keys_putF (f : Str) (v : V) : ∀ fs : List (Str × V), f ∈ (putF f v fs).map (·.1) /\ ∀ g, g ∈ fs.map (·.1) -> g ∈ (putF f v fs).map (·.1)
 | [] => ⟨by simp [putF], fun g h => by simp at h⟩
 | (k, x) :: r => by
  obtain ⟨i1, i2⟩ := keys_putF f v r
  rw [show putF f v ((k, x) :: r) = (if k = f then (k, v) :: r else (k, x) :: putF f v r) from rfl]
  by_cases hk : k = f
  ·rw [if_pos hk]
   subst hk
   exact ⟨by simp, fun g h => by simpa using h⟩
  ·rw [if_neg hk]
   refine ⟨?_, fun g h => ?_⟩
   ·rw [List.map_cons]
    exact List.mem_cons_of_mem _ i1
   ·rw [List.map_cons] at h ⊢
    rcases List.mem_cons.mp h with e | e
    ·exact List.mem_cons.mpr (.inl e)
    ·exact List.mem_cons_of_mem _ (i2 g e)
theorem length_putF (f : Str) (v : V) : ∀ fs : List (Str × V), (putF f v fs).length <= fs.length + 1
 | [] => by simp [putF]
 | (k, x) :: r => by
  have ih := length_putF f v r
  rw [show putF f v ((k, x) :: r) = (if k = f then (k, v) :: r else (k, x) :: putF f v r) from rfl]
  by_cases hk : k = f
  ·rw [if_pos hk, List.length_cons, List.length_cons]; omega
  ·rw [if_neg hk, List.length_cons, List.length_cons]; omega
theorem RelO.some_of {v : V} {o : Option Value} (r : RelO (some v) o) : ∃ u, o = some u /\ RelV v u := by
 cases o with
 | none => exact (show False from r).elim
 | some u => exact ⟨u, rfl, r⟩
theorem handed_of {v : V} {u : Value} (r : RelV v u) : PySem.W.handedIn u = true := by
 cases v with
 | non => cases (show u = Value.none from r); rfl
 | bl b => cases (show u = Value.bool b from r); rfl
 | int i => obtain ⟨t, e⟩ := (show ∃ t, u = Value.int i t from r); cases e; rfl
 | str x => obtain ⟨t, e⟩ := (show ∃ t, u = Value.str x t from r); cases e; rfl
 | byt b => obtain ⟨t, e⟩ := (show ∃ t, u = Value.bytes b t from r); cases e; rfl
 | flt b => obtain ⟨t, e⟩ := (show ∃ t, u = Value.float b t from r); cases e; rfl
 | ref a => cases (show u = Value.ref a from r); rfl
 | ty n => cases (show u = Value.type n from r); rfl
section
variable {P : Program} {w : World} {H H' : Hp} {h h' : Heap} {a C dx : Addr} {fs fs' : List (Str × V)}
end
structure Cls (K : PySem.W.Frag) (C : Addr) : Prop where
 pg : PySem.W.plainGet K C Str.empty = true
 hd : PySem.W.hasDictIn K C = true
 po : PySem.W.plainOver K C = true
 sa : PySem.W.findIn K (.ref C) "__setattr__" = some (some (.builtin "object.__setattr__"))
theorem Cls.get {K : PySem.W.Frag} {C : Addr} (c : Cls K C) (f : Str) : PySem.W.plainGet K C f = true := c.pg
structure Meth (K : PySem.W.Frag) (C : Addr) (m : Str) (f : Addr) : Prop where
 at_ : PySem.W.findIn K (.ref C) m = some (some (.ref f))
 fn : PySem.W.isFn K (.ref f) = true
 kp : PySem.W.keepIn K (.ref f) = true
section
variable {X : Cx} {pins : List (Addr × Obj)} {σ : St} {H : Hp} {s : Shared} {a C dx : Addr} {fs : List (Str × V)} {f : Str} {v : V} {A : Around} {E : Value -> Shared -> Prop}
theorem attr_of {prog : Program} {w : World} {env : Env} {e : Expr} {f : Str} {pos : Pos} {s : Shared} {Q : Value -> Shared -> Prop} (hb : attributeBase e f env (eval e env) = eval e env)
  (h : wpAny (model prog w) A (eval e env) (fun o s₁ => wpAny (model prog w) A (getAttr o f true) Q E s₁) E s) : wpAny (model prog w) A (eval (.Attribute e f pos) env) Q E s :=
 Attribute_any_ h (by rw [arm_eval_Attribute, hb])
end
section
variable {X : Cx} {o e value : Expr} {f : Str} {pos pos' tpos : Pos} {ta tv : TE}
end
section
variable {X : Cx} {pins : List (Addr × Obj)} {σ : St} {H : Hp} {s : Shared} {A : Around} {E : Value -> Shared -> Prop} {Q : Value -> Shared -> Prop} {c : Value} {b : Bool}
inductive TyOf (K : PySem.W.Frag) (H : Hp) : V -> Value -> Prop where
 | non : TyOf K H .non (.type "NoneType")
 | bl (x : Bool) : TyOf K H (.bl x) (.type "bool")
 | int (i : Int) : TyOf K H (.int i) (.type "int")
 | str (x : Str) : TyOf K H (.str x) (.type "str")
 | flt (x : UInt64) : TyOf K H (.flt x) (.type "float")
 | lst {a : Addr} {xs : List V} (e : H a = some (.lst xs)) : TyOf K H (.ref a) (.type "list")
 | frz {a : Addr} {o : Obj} {xs : List V} (e : H a = some (.frz o (.lst xs))) : TyOf K H (.ref a) (.type "list")
 | tup {a : Addr} {xs : List V} (e : H a = some (.tup xs)) : TyOf K H (.ref a) (.type "tuple")
 | dK {a : Addr} {kvs : List (Key × V)} (e : H a = some (.dK kvs)) : TyOf K H (.ref a) (.type "dict")
 | dT {a : Addr} {kvs : List (List Key × V)} (e : H a = some (.dT kvs)) : TyOf K H (.ref a) (.type "dict")
 | ins {a C dx : Addr} {fs : List (Str × V)} (e : H a = some (.ins C dx fs)) (cl : Cls K C) (ha : PySem.W.findIn K (.ref C) "__class__" = some (some (.builtin "object.__class__")))
   (hn : PySem.W.specialIn K (.builtin "object.__class__") "__get__" = some (some (.builtin "getset_descriptor.__get__"))) (htk : PySem.W.takesIn K (.builtin "object.__class__") = some true)
   (hm : PySem.W.mroIn K C (.type "object") = some true) : TyOf K H (.ref a) (.ref C)
end
end L2
namespace L2
open PySem PySem.Spec PyProof.Rows
structure Room (k : Nat) (A : Around) : Prop where
 hd : A.handled = none
 dp : A.depth + 3 * k + 5 < recursionLimit
 un : A.units + 16 * k + 200 < cLine
theorem Room.mono {j k : Nat} {A : Around} (r : Room k A) (h : j <= k) : Room j A := ⟨r.hd, by have := r.dp; omega, by have := r.un; omega⟩
theorem Room.deeper {k : Nat} {A : Around} (r : Room (k + 1) A) (env : Env) : Room k (A.deeper env) :=
 ⟨r.hd, by have := r.dp; show A.depth + 1 + 3 * k + 5 < _; omega, by have := r.un; show A.units + 3 + 16 * k + 200 < _; omega⟩
theorem Room.in1 {k : Nat} {A : Around} (r : Room (k + 1) A) : Room k A.in1 :=
 ⟨r.hd, by have := r.dp; show A.depth + 3 * k + 5 < _; omega, by have := r.un; show A.units + 1 + 16 * k + 200 < _; omega⟩
theorem make_depth {A : Around} {C : Addr} {us : List Value} {kw : List (Str × Value)} : (A.under (.builtin "type.__call__" ⟨.ref C :: us, kw⟩)).depth = A.depth + 1 := by
 first | rfl | simp [Around.under, Code.weight, Code.isCreation, Code.isGuard, Code.isCaller, Code.frames, Code.isFrame, guardIds]
theorem make_units {A : Around} {C : Addr} {us : List Value} {kw : List (Str × Value)} : (A.under (.builtin "type.__call__" ⟨.ref C :: us, kw⟩)).units = A.units + 1 := by
 first | rfl | simp [Around.under, Code.cUnits, Code.frames, Code.isFrame]
theorem Room.make {k : Nat} {A : Around} (r : Room (k + 1) A) (C : Addr) (us : List Value) (kw : List (Str × Value)) : Room k (A.under (.builtin "type.__call__" ⟨.ref C :: us, kw⟩)) :=
 ⟨r.hd, by have := r.dp; rw [make_depth]; omega, by have := r.un; rw [make_units]; omega⟩
theorem Room.depth {k : Nat} {A : Around} (r : Room k A) : A.depth < recursionLimit := by have := r.dp; omega
theorem Room.units {k : Nat} {A : Around} (r : Room k A) : A.units + 64 < cLine := by have := r.un; omega
def tNil : TA := fun _ H Q => Q [] H
def tCons (ta : TE) (tr : TA) : TA := fun σ H Q => ta σ H fun x H1 => tr σ H1 fun xs H2 => Q (x :: xs) H2
section
variable {X : Cx} {e : Expr} {es : List Expr} {te : TE} {t : TA} {pos : Pos}
theorem pa_nil : PA X [] tNil := fun _ _ _ _ H Q I h => Calls.spliced_nil ⟨[], H, I, .nil, h⟩
theorem pa_cons (ha : PE X e te) (hr : PA X es t) (hs : starEach (e :: es) X.env = (false, eval e X.env) :: starEach es X.env := by rfl) : PA X (e :: es) (tCons te t) := by
 intro pos pins s σ H Q I h
 rw [hs]
 show wpAny _ _ (spliced ((false, eval e X.env) :: backTo pos (starEach es X.env))) _ _ s
 refine Calls.spliced_cons (thn (ha pins s σ H _ I h) fun u s1 ⟨x, H1, I1, r1, q1⟩ => ?_)
 exact thn (hr pos pins s1 σ H1 _ I1 q1) fun us s2 ⟨xs, H2, I2, r2, q2⟩ => ⟨x :: xs, H2, I2, .cons r1 r2, q2⟩
def tTup (t : TA) : TE := fun σ H Q => t σ H fun xs H1 => xs.length <= sizeLine /\ ∀ p, H1 p = none -> Q (.ref p) (upd H1 p (.tup xs))
def tLst (t : TA) : TE := fun σ H Q => t σ H fun xs H1 => xs.length <= sizeLine /\ ∀ p, H1 p = none -> Q (.ref p) (upd H1 p (.lst xs))
theorem pe_tup {x1} (h : PA X es t) : PE X (.Tuple es x1 pos) (tTup t) := by
 intro pins s σ H Q I hq
 refine wpAny_Tuple_spliced (thn (h pos pins s σ H _ I hq) fun us s1 ⟨xs, H1, I1, r, z, q⟩ => ⟨by rw [<- r.length]; exact z, ?_⟩)
 have hf : H1 s1.heap.objs.size = none := I1.hok.fresh (Nat.le_refl _)
 refine ⟨.ref s1.heap.objs.size, upd H1 s1.heap.objs.size (.tup xs), I1.laid (t' := s1.toks) (fun b u e => Heap.get?_push_of_some _ e) (Nat.le_refl _) ?_, rfl, q _ hf⟩
 exact ⟨z, us, r, ⟨_, Heap.get?_push_size _ rfl, rfl, _, rfl⟩⟩
theorem pe_lst (h : PA X es t) : PE X (.List es pos) (tLst t) := by
 intro pins s σ H Q I hq
 refine wpAny_List_spliced (thn (h pos pins s σ H _ I hq) fun us s1 ⟨xs, H1, I1, r, z, q⟩ => ⟨by rw [<- r.length]; exact z, ?_⟩)
 have hf : H1 s1.heap.objs.size = none := I1.hok.fresh (Nat.le_refl _)
 refine ⟨.ref s1.heap.objs.size, upd H1 s1.heap.objs.size (.lst xs), I1.laid (t' := s1.toks) (fun b u e => Heap.get?_push_of_some _ e) (Nat.le_refl _) ?_, rfl, q _ hf⟩
 exact ⟨z, us, 0, r, Heap.get?_push_size _ rfl⟩
end
abbrev Sp := List V -> Hp -> VK -> XK -> Prop
abbrev CXT := List Env -> Hp -> Shared -> XK -> Value -> Shared -> Prop
structure Env0 (P : Program) (w : World) (K : PySem.W.Frag) (mg : Str -> Option Value) (base : Heap) (A : Around) (outer : List Env) (s : Shared) (H : Hp) : Prop where
 frames : A.frames = some outer
 mod : Mod K mg base
 bs : ∀ b o, base.get? b = some o -> s.heap.get? b = some o /\ H b = none
 bsz : base.objs.size <= s.heap.objs.size
 funs : s.heap.FunFrames base outer
 frf : ∀ b ∈ frs outer, H b = none
 hok : HOk P w H s.heap
 bare : AllBare s.gens
def CE (outer : List Env) (P : Program) (w : World) (H : Hp) (s : Shared) (Q : VK) (u : Value) (s' : Shared) : Prop :=
 ∃ v H', s'.os = s.os /\ AllBare s'.gens /\ Un (frs outer) [] H H' s.heap s'.heap /\ HOk P w H' s'.heap /\ RelV v u /\ Q v H'
def CR (CX : CXT) (outer : List Env) (P : Program) (w : World) (H : Hp) (s : Shared) (Q : VK) (E : XK) (r : Result) (s' : Shared) : Prop :=
 match r with
 | .ok (.ret u) => CE outer P w H s Q u s'
 | .ok _ => False
 | .error e => CX outer H s E e s'
structure FnOk (P : Program) (w : World) (K : PySem.W.Frag) (mg : Str -> Option Value) (base : Heap) (CX : CXT) (k : Nat) (f : Addr) (fd : FuncData) (ps : List Str) (sp : Sp) : Prop where
 len : ∀ vs H Q E, sp vs H Q E -> vs.length = ps.length
 run : ∀ (A : Around) (outer : List Env) (s : Shared) (H : Hp) (args : Args) (us : List Value) (vs : List V) (Q : VK) (E : XK), Room k A -> Env0 P w K mg base A outer s H -> BindsTo s fd args (ps.zip us) -> Vals vs us -> sp vs H Q E ->
  codeAny (model P w) A (.call (.ref f) args) (CR CX outer P w H s Q E) s
theorem FnOk.mono {P : Program} {w : World} {K : PySem.W.Frag} {mg : Str -> Option Value} {base : Heap} {CX : CXT} {j k : Nat} {f : Addr} {fd : FuncData} {ps : List Str} {sp : Sp} (F : FnOk P w K mg base CX j f fd ps sp) (h : j <= k) :
  FnOk P w K mg base CX k f fd ps sp := ⟨F.len, fun A outer s H args us vs Q E hr => F.run A outer s H args us vs Q E (hr.mono h)⟩
theorem Env0.make {P : Program} {w : World} {K : PySem.W.Frag} {mg : Str -> Option Value} {base : Heap} {A : Around} {outer : List Env} {s : Shared} {H : Hp} (e : Env0 P w K mg base A outer s H) (C : Addr) (us : List Value) (kw : List (Str × Value)) :
  Env0 P w K mg base (A.under (.builtin "type.__call__" ⟨.ref C :: us, kw⟩)) outer s H := ⟨by first | exact e.frames | (simpa [Around.under, Code.envs, Code.isFrame, pushEnvs] using e.frames), e.mod, e.bs, e.bsz, e.funs, e.frf, e.hok, e.bare⟩
theorem Env0.in1 {P : Program} {w : World} {K : PySem.W.Frag} {mg : Str -> Option Value} {base : Heap} {A : Around} {outer : List Env} {s : Shared} {H : Hp} (e : Env0 P w K mg base A outer s H) :
  Env0 P w K mg base A.in1 outer s H := ⟨e.frames, e.mod, e.bs, e.bsz, e.funs, e.frf, e.hok, e.bare⟩
section
variable {X : Cx} {pins : List (Addr × Obj)} {σ : St} {H : Hp} {s s' : Shared}
theorem Inv.env0 (I : Inv X pins σ H s) : Env0 X.prog X.w X.K X.mg X.base X.A X.stack s H :=
 ⟨I.ok.frames, I.ok.mod, I.bs, Nat.le_trans I.ok.bsz I.sz, I.stack, I.stkFree, I.hok, I.bare⟩
theorem Inv.after {Q : VK} {u : Value} (I : Inv X pins σ H s) (h : CE X.stack X.prog X.w H s Q u s') : EP X pins σ Q u s' := by
 obtain ⟨v, H', os, bare, un, hok, r, q⟩ := h
 obtain ⟨hh, g, d, t, os'⟩ := s'
 obtain rfl : os' = s.os := os
 exact ⟨v, H', I.call (h' := hh) (g' := g) (d' := d) (t' := t) (ch := []) un hok bare (fun b z => absurd z (by simp)), r, q⟩
end
def tCall (sp : Sp) (dvs : List V) (E : XK) (t : TA) : TE := fun σ H Q => t σ H fun vs H1 => sp (vs ++ dvs) H1 Q E
def Binds (K : PySem.W.Frag) (fd : FuncData) (ps : List Str) (ds : List Value) : Prop :=
 ∀ (s : Shared) (us : List Value), K.In s.heap -> (us ++ ds).length = ps.length -> BindsTo s fd ⟨us, []⟩ (ps.zip (us ++ ds))
theorem Binds.all {K : PySem.W.Frag} {fd : FuncData} {ps : List Str} (h : ∀ us : List Value, us.length = ps.length -> bindArgs fd ⟨us, []⟩ = pure (ps.zip us)) : Binds K fd ps [] := fun s us _ hl => by
 rw [List.append_nil] at hl ⊢
 exact .of_eq (h us hl)
def Passes (CX : CXT) (X : Cx) (E : XK) : Prop := ∀ (pins : List (Addr × Obj)) (σ : St) (H : Hp) (s : Shared) (e : Value) (s' : Shared), Inv X pins σ H s -> CX X.stack H s E e s' -> X.xe e s'
section
variable {X : Cx} {CX : CXT} {k : Nat} {f C : Addr} {fd : FuncData} {ps : List Str} {sp : Sp} {dvs : List V} {ds : List Value} {E : XK} {x m : Str} {p pos apos : Pos} {e o : Expr} {es : List Expr} {ta : TE} {t : TA}
theorem run_fn {pins : List (Addr × Obj)} {σ : St} {H : Hp} {s : Shared} {Q : VK} {us : List Value} {vs : List V} (F : FnOk X.prog X.w X.K X.mg X.base CX k f fd ps sp) (hr : Room k X.A) (hb : Binds X.K fd ps ds) (hd : Vals dvs ds) (hx : Passes CX X E)
  (I : Inv X pins σ H s) (r : Vals vs us) (h : sp (vs ++ dvs) H Q E) : wpAny (model X.prog X.w) X.A (call (.ref f) us) (EP X pins σ Q) X.xe s := by
 have r2 : Vals (vs ++ dvs) (us ++ ds) := r.append hd
 have hl : (us ++ ds).length = ps.length := by rw [<- r2.length]; exact F.len _ _ _ _ h
 refine wpAny_call (codeAny_mono (F.run X.A X.stack s H ⟨us, []⟩ (us ++ ds) (vs ++ dvs) Q E hr I.env0 (hb s us I.kIn hl) r2 h) fun r s' hq => ?_)
 cases r with
 | error e => exact hx pins σ H s e s' I hq
 | ok fl =>
  cases fl with
  | ret u => exact I.after hq
  | next => exact False.elim hq
  | brk => exact False.elim hq
  | cont => exact False.elim hq
theorem pe_call (F : FnOk X.prog X.w X.K X.mg X.base CX k f fd ps sp) (hr : Room k X.A) (hg : Gl X x) (hm : X.mg x = some (.ref f)) (hk : PySem.W.keepIn X.K (.ref f) = true) (hb : Binds X.K fd ps ds) (hd : Vals dvs ds) (hx : Passes CX X E)
  (ha : PA X (e :: es) t) (hdb : (x == ("__debug__" : Str)) = false := by decide) (he : starEach (e :: es) X.env = (false, eval e X.env) :: starEach es X.env := by rfl) (hpl : (backTo pos (starEach es X.env)).any (·.1) = false := by rfl) :
  PE X (.Call (.Name x p) (e :: es) [] pos) (tCall sp dvs E t) := by
 intro pins s σ H Q I h
 refine wpAny_Call_Name_kw (ld_glob I hg hm ?_ hdb)
 refine PySem.W.callWith_K (h₀ := X.base) I.ok.mod.kin hk (thn (ha pos pins s σ H _ I h) fun us s1 ⟨vs, H1, I1, r, q⟩ => ⟨I1.kIn, ?_⟩) he hpl
 exact run_fn F hr hb hd hx I1 r q
structure Mk (K : PySem.W.Frag) (C f : Addr) : Prop where
 makes : PySem.W.makesIn K C = true
 init : PySem.W.findIn K (.ref C) "__init__" = some (some (.ref f))
 fn : PySem.W.isFn K (.ref f) = true
 kp : PySem.W.keepIn K (.ref C) = true
end
section
variable {X : Cx} {CX : CXT} {k : Nat} {f C : Addr} {fd : FuncData} {ps ks : List Str} {sp : Sp} {E : XK} {x m : Str} {p pos apos kpos : Pos} {e o : Expr} {es : List Expr} {kws : List Keyword} {te ta : TE} {t tk : TA} {nm : Option Str}
variable {g : List Value -> List Value -> List Value} {gV : List V -> List V -> List V}
end
structure FnScope (N P : List Str) (sc : Scope) : Prop where
 kind : sc.kind = .function
 co : sc.isCoroutine = false
 gen : sc.isGenerator = false
 nd : N.Nodup
 pre : N.take P.length = P
 par : ∀ x ∈ P, sc.names.lookup x = some .local \/ sc.names.lookup x = some .cell
 nofree : ∀ y ∈ sc.names, y.2 ≠ .free
theorem bindL_out {kindOf : Str -> Option NameKind} {x : Str} : ∀ {binds : List (Str × Value)} {m : Str -> Option Value}, (∀ v, (x, v) ∉ binds) -> bindL kindOf binds m x = m x
 | [], _, _ => rfl
 | (n, v) :: r, m, h => by
  unfold bindL
  rw [bindL_out fun w hw => h w (List.mem_cons_of_mem _ hw)]
  split
  ·have : x ≠ n := by rintro rfl; exact h v List.mem_cons_self
   simp [this]
  ·rfl
theorem bindC_out {kindOf : Str -> Option NameKind} {x : Str} : ∀ {binds : List (Str × Value)} {m : Str -> Option Value}, (∀ v, (x, v) ∉ binds) -> bindC kindOf binds m x = m x
 | [], _, _ => rfl
 | (n, v) :: r, m, h => by
  unfold bindC
  rw [bindC_out fun w hw => h w (List.mem_cons_of_mem _ hw)]
  split
  ·rfl
  ·have : x ≠ n := by rintro rfl; exact h v List.mem_cons_self
   simp [this]
theorem bindL_get {kindOf : Str -> Option NameKind} {x : Str} {v : Value} : ∀ {P : List Str} {vs : List Value} {i : Nat} {m : Str -> Option Value}, P.Nodup -> P[i]? = some x -> vs[i]? = some v -> kindOf x = some .local ->
  bindL kindOf (P.zip vs) m x = some v
 | [], _, _, _, _, h, _, _ => by simp at h
 | _ :: _, [], _, _, _, _, h, _ => by simp at h
 | p :: P, w :: vs, 0, m, nd, h1, h2, hk => by
  simp at h1 h2; subst h1; subst h2
  show bindL kindOf ((p, w) :: P.zip vs) m p = _
  unfold bindL
  rw [bindL_out fun v hv => (List.nodup_cons.mp nd).1 (List.of_mem_zip hv).1, if_pos hk]
  simp
 | p :: P, w :: vs, i + 1, m, nd, h1, h2, hk => by
  show bindL kindOf ((p, w) :: P.zip vs) m x = _
  unfold bindL
  exact bindL_get (i := i) (List.nodup_cons.mp nd).2 (by simpa using h1) (by simpa using h2) hk
theorem bindC_get {kindOf : Str -> Option NameKind} {x : Str} {v : Value} : ∀ {P : List Str} {vs : List Value} {i : Nat} {m : Str -> Option Value}, P.Nodup -> P[i]? = some x -> vs[i]? = some v -> kindOf x ≠ some .local ->
  bindC kindOf (P.zip vs) m x = some v
 | [], _, _, _, _, h, _, _ => by simp at h
 | _ :: _, [], _, _, _, _, h, _ => by simp at h
 | p :: P, w :: vs, 0, m, nd, h1, h2, hk => by
  simp at h1 h2; subst h1; subst h2
  show bindC kindOf ((p, w) :: P.zip vs) m p = _
  unfold bindC
  rw [bindC_out fun v hv => (List.nodup_cons.mp nd).1 (List.of_mem_zip hv).1, if_neg hk]
  simp
 | p :: P, w :: vs, i + 1, m, nd, h1, h2, hk => by
  show bindC kindOf ((p, w) :: P.zip vs) m x = _
  unfold bindC
  exact bindC_get (i := i) (List.nodup_cons.mp nd).2 (by simpa using h1) (by simpa using h2) hk
def start (N : List Str) (vs : List V) : St := vs.map some ++ List.replicate (N.length - vs.length) none
def cxOf (CX : CXT) (P : Program) (w : World) (K : PySem.W.Frag) (mg : Str -> Option Value) (base : Heap) (N : List Str) (qual : Str) (scope : Scope) (f : Addr) (cd : Value) (A : Around) (outer : List Env) (s : Shared) (H : Hp) (E : XK) : Cx where
 prog := P
 w := w
 K := K
 mg := mg
 base := base
 A := A.deeper (envOfC qual scope s.heap.objs.size f cd)
 N := N
 s₀ := s
 H₀ := H
 env := envOfC qual scope s.heap.objs.size f cd
 outer := outer
 stack := envOfC qual scope s.heap.objs.size f cd :: outer
 ex := []
 calm := true
 fn := fun _ => true
 pn := []
 xe := fun e s' => wpAny (model P w) (A.deeper (envOfC qual scope s.heap.objs.size f cd)) (leaving (envOfC qual scope s.heap.objs.size f cd) e) (fun _ s'' => CX outer H s E e s'') (fun e' s'' => CX outer H s E e' s'') s'
theorem cell_has {sc : Scope} {n : Nat} {x : Str} (h : sc.names.lookup x = some .cell) : ∃ c, (cellsFrom n sc.names []).lookup x = some c := by
 have q := PySem.W.cellsFrom_some sc.names n [] (.inl h)
 exact Option.isSome_iff_exists.mp q
theorem inv_start {CX : CXT} {P : Program} {w : World} {K : PySem.W.Frag} {mg : Str -> Option Value} {base : Heap} {N ps : List Str} {qual : Str} {scope : Scope} {f : Addr} {cd : Value} {A : Around} {outer : List Env} {s s1 : Shared} {H : Hp} {E : XK} {us : List Value} {vs : List V}
  (S : FnScope N ps scope) (hd : A.handled = none) (e0 : Env0 P w K mg base A outer s H) (hl : vs.length = ps.length) (r : Vals vs us)
  (x : InCallC s s.heap.objs.size (bindL (envOfC qual scope s.heap.objs.size f cd).kindOf (ps.zip us) fun _ => none) (cellsFrom (s.heap.objs.size + 1) scope.names []) (bindC (envOfC qual scope s.heap.objs.size f cd).kindOf (ps.zip us) fun _ => none) s1) :
  Inv (cxOf CX P w K mg base N qual scope f cd A outer s H E) [] (start N vs) H s1 := by
 have hpl : ps.length <= N.length := by have := congrArg List.length S.pre; rw [List.length_take] at this; omega
 obtain ⟨h1, tk, rfl, hk⟩ := x.done
 have noA : ∀ b : Addr, b ∉ (cxOf CX P w K mg base N qual scope f cd A outer s H E).ex := fun b z => absurd (show b ∈ ([] : List Addr) from z) (by simp)
 refine ⟨⟨e0.mod, S.kind, rfl, rfl, Nat.le_refl _, fun y z c h1 h2 => ?_, fun y hy => ?_, fun y c _ h => ?_, fun _ => hd, Around.frames_deeper e0.frames, .inr ⟨rfl, rfl⟩, fun b z => absurd z (noA b), e0.bs, e0.bsz, fun b _ _ => noA b, fun b z => absurd z (noA b), e0.funs, e0.frf⟩,
  rfl, e0.bare, Un.kept hk, ⟨_, x.toInCall.ns, fun i y v h1 h2 h3 => ?_⟩, fun y c h => ⟨_, x.cell y c h⟩, e0.hok.fresh (Nat.le_refl _), fun y c h => ?_, fun p hp => absurd (show p ∈ ([] : List (Addr × Obj)) from hp) (by simp), e0.hok.kept hk, ?_⟩
 ·exact name_of_addr x.apart (PySem.mem_of_lookup h1) (PySem.mem_of_lookup h2)
 ·have hy : scope.names.lookup y = some .cell \/ scope.names.lookup y = some .free := hy
  rcases hy with hy | hy
  ·exact cell_has hy
  ·exact absurd rfl (S.nofree _ (PySem.mem_of_lookup hy))
 ·exact Nat.le_of_lt (x.above y c (PySem.mem_of_lookup h))
 ·have hi : i < vs.length := by
   unfold start at h2
   by_cases hi : i < vs.length
   ·exact hi
   ·rw [List.getElem?_append_right (by simpa using hi)] at h2
    rw [List.getElem?_replicate] at h2
    split at h2 <;> cases h2
  have ha : vs[i]? = some v := by
   unfold start at h2
   rw [List.getElem?_append_left (by simpa using hi), List.getElem?_map] at h2
   cases e : vs[i]? with
   | none => rw [e] at h2; cases h2
   | some a => rw [e] at h2; cases h2; rfl
  obtain ⟨u, hu, rv⟩ := r.get ha
  have hp : ps[i]? = some y := by
   rw [<- S.pre, List.getElem?_take_of_lt (by omega)]; exact h1
  have ndP : ps.Nodup := by rw [<- S.pre]; exact S.nd.sublist (List.take_sublist _ _)
  refine ⟨u, rv, ?_⟩
  rcases S.par y (List.mem_of_getElem? hp) with k | k
  ·exact .inl ⟨k, bindL_get ndP hp hu k⟩
  ·obtain ⟨c, e⟩ := cell_has (n := s.heap.objs.size + 1) k
   refine .inr ⟨.inl k, c, e, ?_⟩
   have q := x.cell y c e
   rw [bindC_get ndP hp hu (by show scope.names.lookup y ≠ _; rw [k]; decide)] at q
   exact q
 ·exact e0.hok.fresh (Nat.le_of_lt (x.above y c (PySem.mem_of_lookup h)))
 ·unfold start
  show _ = N.length
  rw [List.length_append, List.length_map, List.length_replicate]
  omega
theorem fn_of {CX : CXT} {P : Program} {w : World} {K : PySem.W.Frag} {mg : Str -> Option Value} {base : Heap} {k : Nat} {f : Addr} {name qual : Str} {params : Arguments} {body : List Stmt} {scope : Scope} {dV kV doc pm cdv ct oc : Value} {an od : Option Addr}
  {osl : Array (Option Value)} {N ps : List Str} {sp : Sp} (lk : K.lookup f = some ⟨oc, od, .func (PySem.W.fnOf name qual params body scope dV kV doc pm an cdv ct), osl⟩) (hcd : PySem.W.codeIn K cdv qual = true) (S : FnScope N ps scope)
  (len : ∀ vs H Q E, sp vs H Q E -> vs.length = ps.length)
  (hbody : ∀ (A : Around) (outer : List Env) (s : Shared) (H : Hp) (vs : List V) (Q : VK) (E : XK), Room k (A.deeper (envOfC qual scope s.heap.objs.size f cdv)) -> sp vs H Q E ->
   ∃ t, PSs (cxOf CX P w K mg base N qual scope f cdv A outer s H E) body t /\ t { nx := fun _ H' => Q .non H', rt := Q } (start N vs) H) :
  FnOk P w K mg base CX (k + 1) f (PySem.W.fnOf name qual params body scope dV kV doc pm an cdv ct) ps sp := by
 refine ⟨len, fun A outer s H args us vs Q E hr e0 hb r hsp => ?_⟩
 have hl := len _ _ _ _ hsp
 have KX : K.In s.heap := e0.mod.kin.keeps fun b o e => (e0.bs b o e).1
 have lim : s.heap.NoLimit := e0.mod.nolimit.keeps fun b o e => (e0.bs b o e).1
 have hkind : ∀ y ∈ ps.zip us, scope.names.lookup y.1 = some .local \/ (scope.names.lookup y.1 = some .cell /\ ((cellsFrom (s.heap.objs.size + 1) scope.names []).lookup y.1).isSome = true) := fun ⟨n, v⟩ hy => by
  rcases S.par n (List.of_mem_zip hy).1 with q | q
  ·exact .inl q
  ·exact .inr ⟨q, PySem.W.cellsFrom_some _ _ _ (.inl q)⟩
 refine codeAny_call_function hr.depth (KX _ _ lk) rfl S.co S.gen rfl (PySem.W.codeRec_of KX hcd) (hb _ _ _ _ ?_)
 refine wpAny_newFunctionEnv_cells S.kind hkind fun env he s1 x => ?_
 subst he
 refine ⟨lim.keeps x.toInCall.keep, codeAny_func ?_⟩
 obtain ⟨t, ht, hq⟩ := hbody A outer s H vs Q E (hr.deeper _) hsp
 have I : Inv (cxOf CX P w K mg base N qual scope f cdv A outer s H E) [] (start N vs) H s1 := inv_start S hr.hd e0 hl r x
 refine wpAny_mono (ht [] s1 (start N vs) H _ I hq) (fun fl s' hs => ?_) fun e s' hs => hs
 have fin : ∀ {σ' : St} {H' : Hp} {v : V} {u : Value}, Inv (cxOf CX P w K mg base N qual scope f cdv A outer s H E) [] σ' H' s' -> RelV v u -> Q v H' -> CE outer P w H s Q u s' :=
  fun {σ' H' v u} J rv q => ⟨v, H', J.os, J.bare, J.base, J.hok, rv, q⟩
 cases fl with
 | ret u =>
  obtain ⟨v, σ', H', J, rv, q⟩ := hs
  exact fin J rv q
 | next =>
  obtain ⟨σ', H', J, q⟩ := hs
  exact fin (v := V.non) (u := Value.none) J rfl q
 | brk =>
  obtain ⟨_, _, _, q⟩ := hs
  exact False.elim q
 | cont =>
  obtain ⟨_, _, _, q⟩ := hs
  exact False.elim q
end L2
namespace L2
open PySem PySem.Spec PyProof.Rows
section
variable {X : Cx} {x : Str} {p pos : Pos} {e : Expr} {es : List Expr} {t : TA} {id T : String} {r : List V -> Hp -> VK -> Prop}
def tCB (r : List V -> Hp -> VK -> Prop) (t : TA) : TE := fun σ H Q => t σ H fun vs H1 => r vs H1 Q
theorem pe_callB (hc : CallR X (.builtin id) r) (hg : Gl X x) (hm : X.mg x = none) (hv : bootBuiltins x = some (.builtin id)) (ha : PA X (e :: es) t) (hn : x ≠ "__name__" := by decide) (hdb : (x == ("__debug__" : Str)) = false := by decide)
  (he : starEach (e :: es) X.env = (false, eval e X.env) :: starEach es X.env := by rfl) (hpl : (backTo pos (starEach es X.env)).any (·.1) = false := by rfl) : PE X (.Call (.Name x p) (e :: es) [] pos) (tCB r t) := by
 intro pins s σ H Q I h
 refine wpAny_Call_Name_kw (ld_blt I hg hm hv ?_ hn hdb)
 exact PyProof.Rows.callWith_builtin1 (thn (ha pos pins s σ H _ I h) fun us s1 ⟨vs, H1, I1, r1, q1⟩ => hc pins s1 σ H1 vs us Q I1 r1 q1) he hpl
end
end L2
namespace HT
open PySem PyProof.Rows
section
open PySem.SeqAt
open PySem.AutoSeq1 (wpAny_loadPart')
open PySem.MeetsSeq PySem.MeetsSeq2 PySem.MeetsSeq3
end
section
variable {prog : Program} {w : World} {A : Around} {E : Value -> Shared -> Prop} {s : Shared}
def sIx (n d : Nat) : Option Int -> Nat
 | none => d
 | some v => if v < 0 then (v + (n : Int)).toNat else min v.toNat n
end
end HT
namespace L2
open PySem PySem.Spec PyProof.Rows
abbrev TO := St -> Hp -> (Option Int -> Hp -> Prop) -> Prop
def PO (X : Cx) (e : Option Expr) (t : TO) : Prop :=
 ∀ (pins : List (Addr × Obj)) (s : Shared) (σ : St) (H : Hp) (Q : Option Int -> Hp -> Prop), Inv X pins σ H s -> t σ H Q ->
  wpAny (model X.prog X.w) X.A (evalPart e X.env) (fun u s' => ∃ o H', Inv X pins σ H' s' /\ IsPart u o /\ Q o H') X.xe s
def tNoPart : TO := fun _ H Q => Q none H
def tPart (t : TE) : TO := fun σ H Q => t σ H fun x H1 => ∃ i, x = .int i /\ Q (some i) H1
section
variable {X : Cx} {e : Expr} {te : TE} {lo hi : Option Expr} {tl th : TO} {pos p2 : Pos}
theorem po_none : PO X none tNoPart := by
 intro pins s σ H Q I h
 rw [evalPart_none]
 exact wpAny_pure ⟨none, H, I, .none, h⟩
theorem po_some (h : PE X e te) : PO X (some e) (tPart te) := by
 intro pins s σ H Q I hw
 rw [evalPart_some]
 refine thn (h pins s σ H _ I hw) fun u s1 ⟨x, H1, I1, r1, q1⟩ => ?_
 obtain ⟨i, rfl, q⟩ := q1
 obtain ⟨t, rfl⟩ := r1
 exact ⟨some i, H1, I1, .int i t, q⟩
def SlR (X : Cx) (r : V -> Option Int -> Option Int -> Hp -> VK -> Prop) : Prop :=
 ∀ (pins : List (Addr × Obj)) (s : Shared) (σ : St) (H : Hp) (x : V) (v vl vu : Value) (lo hi : Option Int) (sl : Addr) (Q : VK), Inv X pins σ H s -> RelV x v -> s.heap.IsSliceOf sl vl vu .none -> IsPart vl lo -> IsPart vu hi -> r x lo hi H Q ->
  ∃ T id, typeLookup (.type T) "__getitem__" = pure (some (.builtin id)) /\ s.TypeIs v T /\ wpAny (model X.prog X.w) X.A (getItem v (.ref sl)) (EP X pins σ Q) X.xe s
theorem SlR.or {r r' : V -> Option Int -> Option Int -> Hp -> VK -> Prop} (h : SlR X r) (h' : SlR X r') : SlR X (fun x lo hi H Q => r x lo hi H Q \/ r' x lo hi H Q) := by
 intro pins s σ H x v vl vu lo hi sl Q I rx hs pl pu q
 rcases q with q | q
 ·exact h pins s σ H x v vl vu lo hi sl Q I rx hs pl pu q
 ·exact h' pins s σ H x v vl vu lo hi sl Q I rx hs pl pu q
def tSl (r : V -> Option Int -> Option Int -> Hp -> VK -> Prop) (te : TE) (tl th : TO) : TE := fun σ H Q => te σ H fun x H1 => tl σ H1 fun l H2 => th σ H2 fun u H3 => r x l u H3 Q
theorem pe_slice {r : V -> Option Int -> Option Int -> Hp -> VK -> Prop} (hr : SlR X r) (he : PE X e te) (hl : PO X lo tl) (hu : PO X hi th) : PE X (.Subscript e (.Slice lo hi none p2) pos) (tSl r te tl th) := by
 intro pins s σ H Q I h
 refine Subscript_ (thn (he pins s σ H _ I h) fun v s1 ⟨x, H1, I1, r1, q1⟩ => ?_)
 refine wpAny_Slice (thn (hl pins s1 σ H1 _ I1 q1) fun vl s2 ⟨l, H2, I2, pl, q2⟩ => thn (hu pins s2 σ H2 _ I2 q2) fun vu s3 ⟨u, H3, I3, pu, q3⟩ => ?_)
 rw [evalPart_none]
 refine wpAny_pure ?_
 have I4 : Inv X pins σ H3 { s3 with heap := s3.heap.push { cls := .type "slice", data := .fields #[vl, vu, .none] } } := I3.kept (t' := s3.toks) fun b ob q => Heap.get?_push_of_some _ q
 obtain ⟨T, id, hT, ht, hg⟩ := hr pins { s3 with heap := s3.heap.push { cls := .type "slice", data := .fields #[vl, vu, .none] } } σ H3 x v vl vu l u s3.heap.objs.size Q I4 r1 (Heap.IsSliceOf.new ..) pl pu q3
 show wpAny (model X.prog X.w) X.A (subscriptTail e (.Slice lo hi none p2) v (.ref s3.heap.objs.size)) (EP X pins σ Q) X.xe { s3 with heap := s3.heap.push { cls := .type "slice", data := .fields #[vl, vu, .none] } }
 exact tail_any (ops := [.ref s3.heap.objs.size, v]) ht hT hg (by with_unfolding_all rfl)
def cutV (xs : List V) (lo hi : Option Int) : List V := (xs.drop (HT.sIx xs.length 0 lo)).take (HT.sIx xs.length xs.length hi - HT.sIx xs.length 0 lo)
theorem cutV_length (xs : List V) (lo hi : Option Int) : (cutV xs lo hi).length <= xs.length := by
 unfold cutV
 rw [List.length_take, List.length_drop]
 omega
end
end L2
namespace L2
open PySem PySem.Spec PyProof.Rows
def ixN (n : Nat) (i : Int) : Option Nat := if 0 <= i then (if i < n then some i.toNat else none) else if -(n : Int) <= i then some (i + n).toNat else none
def atI {α : Type} (xs : List α) (i : Int) : Option α := (ixN xs.length i).bind fun j => xs[j]?
theorem ixN_seq {n : Nat} {i : Int} {j : Nat} (h : ixN n i = some j) : seqIndex? i n = some j /\ j < n /\ -(n : Int) <= i /\ i < n := by
 unfold ixN at h
 by_cases h0 : 0 <= i
 ·rw [if_pos h0] at h
  by_cases h1 : i < n
  ·rw [if_pos h1] at h
   have e : i.toNat = j := Option.some.inj h
   exact ⟨by rw [seqIndex_of h0 h1, e], by omega, by omega, h1⟩
  ·rw [if_neg h1] at h; cases h
 ·rw [if_neg h0] at h
  by_cases h1 : -(n : Int) <= i
  ·rw [if_pos h1] at h
   have e : (i + n).toNat = j := Option.some.inj h
   exact ⟨by rw [seqIndex_neg (by omega) h1, e], by omega, h1, by omega⟩
  ·rw [if_neg h1] at h; cases h
theorem atI_get {α : Type} {xs : List α} {i : Int} {v : α} (h : atI xs i = some v) : ∃ j, seqIndex? i xs.length = some j /\ xs[j]? = some v /\ j < xs.length /\ -(xs.length : Int) <= i /\ i < xs.length := by
 unfold atI at h
 cases e : ixN xs.length i with
 | none => rw [e] at h; cases h
 | some j =>
  rw [e] at h
  obtain ⟨h1, h2, h3, h4⟩ := ixN_seq e
  exact ⟨j, h1, h, h2, h3, h4⟩
def PlainIx (b : Expr) : Prop := ∀ o i, subscripted b false o i = operate [o, i] (getItem o i)
def IxR (X : Cx) (r : R2) : Prop :=
 ∀ (value slice : Expr) (pins : List (Addr × Obj)) (s : Shared) (σ : St) (H : Hp) (x y : V) (v u : Value) (Q : VK), Inv X pins σ H s -> RelV x v -> RelV y u -> r x y H Q ->
  subscripted slice false v u = operate [v, u] (getItem v u) -> wpAny (model X.prog X.w) X.A (subscriptTail value slice v u) (EP X pins σ Q) X.xe s
def MtR (X : Cx) (id : String) (r : V -> List V -> Hp -> VK -> Prop) : Prop :=
 ∀ (pins : List (Addr × Obj)) (s : Shared) (σ : St) (H : Hp) (x : V) (xs : List V) (v : Value) (us : List Value) (Q : VK), Inv X pins σ H s -> RelV x v -> Vals xs us -> r x xs H Q ->
  wpAny (model X.prog X.w) X.A (call (.builtin id) (v :: us)) (EP X pins σ Q) X.xe s
section
variable {X : Cx} {a b : Expr} {ta tb : TE} {pos : Pos}
theorem IxR.or {r r' : R2} (h : IxR X r) (h' : IxR X r') : IxR X (fun x y H Q => r x y H Q \/ r' x y H Q) := by
 intro value slice pins s σ H x y v u Q I rx ry q hs
 rcases q with q | q
 ·exact h value slice pins s σ H x y v u Q I rx ry q hs
 ·exact h' value slice pins s σ H x y v u Q I rx ry q hs
theorem MtR.or {id : String} {r r' : V -> List V -> Hp -> VK -> Prop} (h : MtR X id r) (h' : MtR X id r') : MtR X id (fun x xs H Q => r x xs H Q \/ r' x xs H Q) := by
 intro pins s σ H x xs v us Q I rx rs q
 rcases q with q | q
 ·exact h pins s σ H x xs v us Q I rx rs q
 ·exact h' pins s σ H x xs v us Q I rx rs q
theorem pe_ix {r : R2} (hr : IxR X r) (ha : PE X a ta) (hb : PE X b tb) (hs : PlainIx b) : PE X (.Subscript a b pos) (tOp r ta tb) := by
 intro pins s σ H Q I h
 exact Subscript_ (binT ha hb I h fun v u s2 x y H2 I2 rx ry q => hr a b pins s2 σ H2 x y v u Q I2 rx ry q (hs _ _))
def rIxL (K : PySem.W.Frag) : R2 := fun x y H Q => ∃ p xs i v, x = .ref p /\ y = .int i /\ SqL K H p xs /\ atI xs i = some v /\ Q v H
def rIxT (K : PySem.W.Frag) : R2 := fun x y H Q => ∃ p xs i v, x = .ref p /\ y = .int i /\ SqT K H p xs /\ atI xs i = some v /\ Q v H
def rIxS : R2 := fun x y H Q => ∃ z i c, x = .str z /\ y = .int i /\ z.length <= sizeLine /\ atI z.cps.toList i = some c /\ Q (.str ⟨#[c]⟩) H
theorem ix_list : IxR X (rIxL X.K) := by
 intro value slice pins s σ H x y v u Q I rx ry h hs
 obtain ⟨p, xs, i, z, rfl, rfl, hq, he, q⟩ := h
 cases rx
 obtain ⟨t, rfl⟩ := ry
 obtain ⟨its, r, pl, hz⟩ := I.list hq
 obtain ⟨j, h1, h2, h3, h4, h5⟩ := atI_get he
 obtain ⟨w, ew, rw'⟩ := r.get h2
 have hl := r.length
 have hn := line63
 have fin : EP X pins σ Q w s := ⟨z, H, I, rw', q⟩
 by_cases h0 : 0 <= i
 ·have hj : i.toNat = j := by
   rw [seqIndex_of h0 h5] at h1
   exact Option.some.inj h1
  exact item_listR pl.isList h0 (by omega) (by rw [hj]; simpa using ew) fin hs
 ·have hj : (i + (its.toArray.size : Int)).toNat = j := by
   rw [seqIndex_neg (by omega) h4] at h1
   rw [List.size_toArray, <- hl]
   exact Option.some.inj h1
  exact subscriptTail_builtinR (x := w) pl.isList.typeIs slot_list_getitem.lookup
   (wpAny_getItem_list_neg (Q := fun r s' => r = w /\ EP X pins σ Q r s') pl.isList (by omega) (by rw [List.size_toArray] <;> omega) (by omega) (by rw [hj]; simpa using ew) ⟨rfl, fin⟩) hs
theorem ix_tup : IxR X (rIxT X.K) := by
 intro value slice pins s σ H x y v u Q I rx ry h hs
 obtain ⟨p, xs, i, z, rfl, rfl, hq, he, q⟩ := h
 cases rx
 obtain ⟨t, rfl⟩ := ry
 obtain ⟨its, r, pl, hz⟩ := I.tuple hq
 obtain ⟨j, h1, h2, h3, h4, h5⟩ := atI_get he
 obtain ⟨w, ew, rw'⟩ := r.get h2
 have hl := r.length
 have hn := line63
 have fin : EP X pins σ Q w s := ⟨z, H, I, rw', q⟩
 exact subscriptTail_builtinR (x := w) pl.typeIs slot_tuple_getitem.lookup
  (getItem_tuple (j := j) (Q := fun r s' => r = w /\ EP X pins σ Q r s') pl (by omega) (by omega) (by rw [List.size_toArray, <- hl]; exact h1) (by simpa using ew) ⟨rfl, fin⟩) hs
theorem ix_str : IxR X rIxS := by
 intro value slice pins s σ H x y v u Q I rx ry h hs
 obtain ⟨z, i, c, rfl, rfl, hz, he, q⟩ := h
 obtain ⟨t, rfl⟩ := rx
 obtain ⟨t', rfl⟩ := ry
 obtain ⟨j, h1, h2, h3, h4, h5⟩ := atI_get he
 have hl : z.cps.toList.length = z.length := by simp [Str.length]
 rw [hl] at h1 h4 h5
 have hn := line63
 exact tail_any (typeIs_str s z t) slot_str_getitem.lookup (getItem_str (c := c) (by
  have e1 : decide (i < -(2 ^ 63 : Int)) = false := decide_eq_false (by omega)
  have e2 : decide (i ≥ 2 ^ 63) = false := decide_eq_false (by omega)
  rw [e1, e2, Bool.or_false]) (by rw [h1]; simpa using h2) ⟨.str ⟨#[c]⟩, H, I.tok _, ⟨_, rfl⟩, q⟩) hs
def rIx (K : PySem.W.Frag) : R2 := fun x y H Q => rIxL K x y H Q \/ rIxT K x y H Q \/ rIxS x y H Q
theorem ix_seq : IxR X (rIx X.K) := ix_list.or (ix_tup.or ix_str)
theorem Inv.lst {pins : List (Addr × Obj)} {σ : St} {H : Hp} {s : Shared} {p : Addr} {xs : List V} (I : Inv X pins σ H s) (h : H p = some (.lst xs)) :
  ∃ (its : List Value) (n : Nat), Vals xs its /\ s.heap.get? p = some { cls := .type "list", data := .seq its.toArray n } /\ xs.length <= sizeLine := by
 obtain ⟨z, its, n, r, e⟩ := I.hok p _ h
 exact ⟨its, n, r, e, z⟩
theorem slice_bounds (lo hi : Option Int) (n : Nat) : (sliceBounds lo hi none n).1 = ((HT.sIx n 0 lo : Nat) : Int) /\ (sliceBounds lo hi none n).2.1 = ((HT.sIx n n hi : Nat) : Int) /\ (sliceBounds lo hi none n).2.2 = 1 := by
 refine ⟨?_, ?_, rfl⟩
 ·cases lo with
  | none => simp [sliceBounds, HT.sIx]
  | some i =>
   simp only [sliceBounds, HT.sIx, Option.getD_none, show (1 : Int) > 0 by decide, if_true]
   by_cases h : i < 0
   ·simp only [h, if_true] <;> omega
   ·simp only [h, if_false] <;> omega
 ·cases hi with
  | none => simp [sliceBounds, HT.sIx]
  | some i =>
   simp only [sliceBounds, HT.sIx, Option.getD_none, show (1 : Int) > 0 by decide, if_true]
   by_cases h : i < 0
   ·simp only [h, if_true] <;> omega
   ·simp only [h, if_false] <;> omega
theorem slicePick_cut (its : List Value) (lo hi : Option Int) : slicePick its.toArray lo hi none = ((its.drop (HT.sIx its.length 0 lo)).take (HT.sIx its.length its.length hi - HT.sIx its.length 0 lo)).toArray := by
 obtain ⟨h1, h2, h3⟩ := slice_bounds lo hi its.toArray.size
 unfold slicePick
 rw [h1, h2, h3]
 simp only [sliceRange_one, pick_run, List.size_toArray] <;> rfl
def rSlL (K : PySem.W.Frag) : V -> Option Int -> Option Int -> Hp -> VK -> Prop := fun x lo hi H Q => ∃ a xs, x = .ref a /\ SqL K H a xs /\ ∀ p, H p = none -> Q (.ref p) (upd H p (.lst (cutV xs lo hi)))
theorem sl_list : SlR X (rSlL X.K) := by
 intro pins s σ H x v vl vu lo hi sl Q I rx hs pl pu h
 obtain ⟨a, xs, rfl, hx, q⟩ := h
 cases rx
 obtain ⟨its, r, ht, hz⟩ := I.list hx
 have hlen := r.length
 refine ⟨"list", _, slot_list_getitem.lookup, ht.isList.typeIs, ?_⟩
 refine wpAny_getItem_list_slice ht.isList hs pl pu .none (by simp) ?_ (by rw [List.size_toArray] <;> omega)
 rw [slicePick_cut, <- hlen]
 refine ⟨.ref s.heap.objs.size, _, I.laid (t' := s.toks) (o := .lst (cutV xs lo hi)) (fun b ob q => Heap.get?_push_of_some _ q) (Nat.le_refl _) ?_, rfl, q _ (I.hok.fresh (Nat.le_refl _))⟩
 exact ⟨Nat.le_trans (cutV_length xs lo hi) hz, _, 0, (r.drop (HT.sIx xs.length 0 lo)).take (HT.sIx xs.length xs.length hi - HT.sIx xs.length 0 lo), Heap.get?_push_size _ rfl⟩
theorem CallR.or {f : Value} {r r' : List V -> Hp -> VK -> Prop} (h : CallR X f r) (h' : CallR X f r') : CallR X f (fun xs H Q => r xs H Q \/ r' xs H Q) := by
 intro pins s σ H xs us Q I rs q
 rcases q with q | q
 ·exact h pins s σ H xs us Q I rs q
 ·exact h' pins s σ H xs us Q I rs q
def tyV (K : PySem.W.Frag) (T : String) (x : V) (H : Hp) : Prop := match x with
 | .str _ => T = "str"
 | .int _ => T = "int"
 | .ref p => (T = "list" /\ ∃ xs, SqL K H p xs) \/ (T = "tuple" /\ ∃ o, K.lookup p = some o /\ o.cls = .type "tuple" /\ o.dict = none) \/
   (T = "dict" /\ ((∃ kvs, H p = some (.dK kvs)) \/ ∃ kvs, H p = some (.dT kvs))) \/ (T = "set" /\ ∃ S n, H p = some (.set S n))
 | _ => False
theorem tyV_is {pins : List (Addr × Obj)} {σ : St} {H : Hp} {s : Shared} {T : String} {x : V} {v : Value} (I : Inv X pins σ H s) (r : RelV x v) (ty : tyV X.K T x H) :
  s.TypeIs v T /\ ∀ a, v = .ref a -> ∃ ob, s.heap.get? a = some ob /\ ob.dict = none := by
 cases x with
 | str z =>
  obtain ⟨t, rfl⟩ := r
  cases (show T = "str" from ty)
  exact ⟨typeIs_str s z t, fun _ e => nomatch e⟩
 | int i =>
  obtain ⟨t, rfl⟩ := r
  cases (show T = "int" from ty)
  exact ⟨typeIs_int s i t, fun _ e => nomatch e⟩
 | ref p =>
  cases r
  rcases ty with ⟨rfl, xs, hq⟩ | ⟨rfl, o, hk, hc, hd⟩ | ⟨rfl, hk⟩ | ⟨rfl, S, n, hk⟩
  ·obtain ⟨its, _, pl, _⟩ := I.list hq
   refine ⟨pl.isList.typeIs, fun a e => ?_⟩
   cases e
   obtain ⟨o, n, e, c, hd, _⟩ := pl
   exact ⟨o, e, hd⟩
  ·refine ⟨⟨o, I.kIn p o hk, hc⟩, fun a e => ?_⟩
   cases e
   exact ⟨o, I.kIn _ o hk, hd⟩
  ·have z : ∃ o, s.heap.get? p = some o /\ o.ExactDict := by
    rcases hk with ⟨kvs, hk⟩ | ⟨kvs, hk⟩
    ·obtain ⟨_, _, _, _, o, _, _, e, ex, _⟩ := I.hok p _ hk
     exact ⟨o, e, ex⟩
    ·obtain ⟨_, _, _, _, o, _, _, e, ex, _⟩ := I.hok p _ hk
     exact ⟨o, e, ex⟩
   obtain ⟨o, e, ex⟩ := z
   refine ⟨⟨o, e, ex.1⟩, fun a e2 => ?_⟩
   cases e2
   exact ⟨o, e, ex.2.1⟩
  ·obtain ⟨o, _, _, _, e, ex, _⟩ := I.hok p _ hk
   refine ⟨⟨o, e, ex.1⟩, fun a e2 => ?_⟩
   cases e2
   exact ⟨o, e, ex.2.1⟩
 | _ => exact False.elim ty
def tBM (K : PySem.W.Frag) (T : String) (r : V -> List V -> Hp -> VK -> Prop) (to : TE) (t : TA) : TE := fun σ H Q => to σ H fun x H1 => tyV K T x H1 /\ t σ H1 fun xs H2 => r x xs H2 Q
variable {o e : Expr} {es : List Expr} {to : TE} {t : TA} {name : Str} {apos cpos : Pos} {T id : String} {r : V -> List V -> Hp -> VK -> Prop}
theorem pe_bm (pa : PlainAttrs T) (slot : Slot T name id) (hty : typeOf (.builtin id) = pure (.type "method_descriptor")) (hm : MtR X id r) (ho : PE X o to) (ha : PA X (e :: es) t)
  (hbase : attributeBase o name X.env (eval o X.env) = eval o X.env := by rfl)
  (hfew : ((backTo cpos (starEach (e :: es) X.env)).all (fun x => !x.1) && (backToKw cpos (keywordEach [] X.env)).all (fun x => x.1.isSome)
   && decide ((e :: es).length + ([] : List Keyword).length + (if ([] : List Keyword).isEmpty then 0 else 1) < 30)) = true := by rfl)
  (hline : (apos.endLine == cpos.line) = true := by rfl) (hs : starEach (e :: es) X.env = (false, eval e X.env) :: starEach es X.env := by rfl) (hplain : (backTo cpos (starEach es X.env)).any (·.1) = false := by rfl) :
  PE X (.Call (.Attribute o name apos) (e :: es) [] cpos) (tBM X.K T r to t) := by
 intro pins s σ H Q I h
 refine wpAny_Call_method_late hbase hfew hline rfl (thn (ho pins s σ H _ I h) fun v s1 ⟨x, H1, I1, r1, ty, q1⟩ => ?_)
 obtain ⟨h1, h2⟩ := tyV_is I1 r1 ty
 refine ⟨T, id, pa, slot, hty, h1, h2, ?_⟩
 have hA := ha cpos pins s1 σ H1 _ I1 q1
 rw [hs] at hA ⊢
 refine Calls.callWith_builtin (by show (false || (backTo cpos (starEach es X.env)).any (·.1)) = false; rw [hplain] <;> rfl) (Calls.evalArgs_plain ?_)
 exact thn hA fun us s2 ⟨vs, H2, I2, r2, q2⟩ => hm pins s2 σ H2 x vs v us Q I2 r1 r2 q2
end
end L2
namespace L2
open PySem PySem.Spec PyProof.Rows
def MtM (X : Cx) (id : String) (r : V -> List V -> Hp -> VK -> Prop) : Prop :=
 ∀ (pins : List (Addr × Obj)) (s : Shared) (σ : St) (H : Hp) (x : V) (xs : List V) (v : Value) (us : List Value) (Q : VK), Inv X pins σ H s -> RelV x v -> Vals xs us -> r x xs H Q ->
  wpAny (model X.prog X.w) X.A (call (.builtin id) (v :: us)) (EP X pins σ Q) X.xe s
theorem Vals.one : ∀ {x : V} {us : List Value}, Vals [x] us -> ∃ u, us = [u] /\ RelV x u
 | _, _, .cons r .nil => ⟨_, rfl, r⟩
theorem Vals.two : ∀ {x y : V} {us : List Value}, Vals [x, y] us -> ∃ u v, us = [u, v] /\ RelV x u /\ RelV y v
 | _, _, _, .cons r (.cons q .nil) => ⟨_, _, rfl, r, q⟩
theorem Vals.zero : ∀ {us : List Value}, Vals [] us -> us = []
 | _, .nil => rfl
theorem Vals.rep {xs : List V} {us : List Value} (h : Vals xs us) : ∀ k : Nat, Vals (List.replicate k xs).flatten (List.replicate k us).flatten
 | 0 => .nil
 | k + 1 => by
  rw [List.replicate_succ, List.replicate_succ, List.flatten_cons, List.flatten_cons]
  exact Vals.append h (Vals.rep h k)
section
variable {X : Cx} {pins : List (Addr × Obj)} {σ : St} {H : Hp} {s : Shared} {l b : Addr} {xs ys zs : List V}
theorem Inv.lset {its its' : List Value} {n : Nat} {f : Array Value -> Array Value} {t' : Nat} (I : Inv X pins σ H s) (hH : H l = some (.lst xs))
  (e : s.heap.get? l = some { cls := .type "list", data := .seq its.toArray n }) (hf : f its.toArray = its'.toArray) (hv : Vals ys its') (hz : ys.length <= sizeLine) :
  Inv X pins σ (upd H l (.lst ys)) { s with heap := s.heap.update l (Obj.mapSeq f), toks := t' } := by
 have q := PySem.IsL.update e f
 rw [hf] at q
 refine I.write (x := l) (e := l) (by rw [hH]; exact trivial) (.inl rfl) (fun b' u hb hu => (Heap.get?_update_other s.heap (Obj.mapSeq f) (Ne.symm hb)).trans hu) ⟨_, q⟩ ?_
 exact ⟨hz, its', _, hv, q⟩
theorem Inv.lnew {its : List Value} {t' : Nat} (I : Inv X pins σ H s) (hv : Vals ys its) (hz : ys.length <= sizeLine) :
  Inv X pins σ (upd H s.heap.objs.size (.lst ys)) { s with heap := s.heap.push { cls := .type "list", data := .seq its.toArray }, toks := t' } :=
 I.laid (fun _ _ q => Heap.get?_push_of_some _ q) (Nat.le_refl _) ⟨hz, its, 0, hv, Heap.get?_push_size _ rfl⟩
theorem Inv.fresh (I : Inv X pins σ H s) : H s.heap.objs.size = none := I.hok.fresh (Nat.le_refl _)
theorem Inv.lstM (I : Inv X pins σ H s) (hH : H l = some (.lst xs)) : xs.length <= sizeLine /\ ∃ (its : List Value) (n : Nat), Vals xs its /\ xs.length = its.length /\ s.heap.get? l = some { cls := .type "list", data := .seq its.toArray n } := by
 obtain ⟨z, its, n, r, e⟩ := I.hok l _ hH
 exact ⟨z, its, n, r, r.length, e⟩
end
section
variable {X : Cx}
def rAppend : V -> List V -> Hp -> VK -> Prop := fun x vs H Q => ∃ l xs y, x = .ref l /\ vs = [y] /\ H l = some (.lst xs) /\ xs.length < sizeLine /\ Q .non (upd H l (.lst (xs ++ [y])))
theorem mt_append : MtM X "list.append" rAppend := by
 intro pins s σ H x vs v us Q I rx rv h
 obtain ⟨l, xs, y, rfl, rfl, hH, hz, q⟩ := h
 cases rx
 obtain ⟨u, rfl, ru⟩ := rv.one
 obtain ⟨z, its, n, r, hl, e⟩ := I.lstM hH
 refine call_meets F.slot_list_append ⟨_, e, rfl⟩ F.entry_list_append (F.args_list_append_2 _ _) (PySem.list_append l its.toArray n u (by rw [List.size_toArray]; omega)) ⟨e, ?_⟩
 refine ⟨.non, _, I.lset (its' := its ++ [u]) hH e (by simp) (r.append (.cons ru .nil)) ?_, rfl, q⟩
 rw [List.length_append, List.length_singleton]
 omega
end
section
variable {prog : Program} {w : World} {A : Around} {E : Value -> Shared -> Prop} {s : Shared}
end
section
variable {X : Cx}
end
end L2
namespace Att
open PySem PySem.W PySem.Calls PyProof.Rows
theorem ints_of_wellAll {P : Params} {h : Heap} : ∀ (ns : List Int) (vs : List Value), WellAll P h vs (ns.map WData.int) -> IntsAre vs ns := by
 intro ns
 induction ns with
 | nil =>
  intro vs w
  rw [List.map_nil] at w
  cases w
  exact .nil
 | cons n ns ih =>
  intro vs w
  rw [List.map_cons] at w
  cases w with
  | cons a b =>
   cases a
   exact .cons _ _ (ih _ b)
theorem script_of {l : OpenLaw} {n : Nat} (hn : l.most = some n) {P : Params} {h : Heap} {args : List WData} {vals : List Value}
  (hpre : l.row.toRowW.claim.pre args = true) (hwl : WellAll P h vals args) :
  ∃ a vs ns, vals = [Value.ref a] /\ args = [WData.list (ns.map WData.int)] /\ h.get? a = some { cls := .type "list", data := .seq vs.toArray } /\ IntsAre vs ns /\ ns.length <= n := by
 have hsh : WShape.hasAll [] args [.list .int] = true := (pre_splitW hpre).1
 have hc : l.pre.holds [] { args := args } = true := (pre_splitW hpre).2
 obtain ⟨d, r, rfl, h1, h2⟩ := hasAllW_cons hsh
 obtain rfl := hasAllW_nil h2
 obtain ⟨xs, rfl, h3⟩ := hasW_list h1
 obtain ⟨ns, rfl⟩ := items_int h3
 have hlen : ns.length <= n := by
  unfold OpenLaw.pre at hc
  have h4 : (WTm.not (.lt (.lit (.int (n : Int))) (.len (.arg 0)))).holds [] { args := [.list (ns.map .int)] } = true := by
   have h4 := (holds_andW hc).1
   rw [hn] at h4
   exact h4
  have h5 := condW_of h4 (w_not (w_lt w_lit (w_len_list (w_arg rfl))))
  rw [List.length_map] at h5
  refine Nat.le_of_not_lt fun q => ?_
  have q' : (n : Int) < ((ns.length : Nat) : Int) := by omega
  first
   | (rw [decide_eq_true q'] at h5; exact absurd h5 (by decide))
   | (simp at h5; omega)
 cases hwl with
 | cons w1 w2 =>
  cases w2
  cases w1 with
  | list ho hall => exact ⟨_, _, ns, rfl, rfl, ho, ints_of_wellAll ns _ hall, hlen⟩
theorem post_true (l : OpenLaw) (args : List WData) : l.row.toRowW.claim.post args (.bool true) args = true :=
 postW_of (r := l.row.toRowW) (X := (true == true))
  (show WShape.has [] (.bool true) .bool = true by first | rfl | decide | simp [WShape.has, WShape.arms, WShape.armsAll])
  (show (WTm.eq .res (.lit (.bool true))).value [] { args := args, res := some (.bool true), after := args } = some (.bool (true == true)) from w_eq_bool (w_res rfl) w_lit) rfl
theorem attach_call {l : OpenLaw} {n : Nat} {q : Program} {loose : List Str} {XP : (Str -> Option Value) -> Heap -> Prop} {YP : World -> Heap -> Prop} {d : DefRec}
  (hn : l.most = some n) (hdf : d.params.defaults = [])
  (call : ∀ (w : World) (s₀ s₁ : Shared) (mg mb : Str -> Option Value) (fa : Addr) (o : Obj) (pm cd doc : Value) (a : Addr) (vs : List Value) (ns : List Int),
   Ground q loose [] XP w s₀ mg mb s₁.heap -> YP w s₁.heap ->
   s₁.heap.get? fa = some o -> o.data = .func (docDef d.name d.params d.body d.scope pm cd doc) -> s₁.heap.CodeRec cd d.name -> mg d.name = some (.ref fa) ->
   s₁.heap.get? a = some { cls := .type "list", data := .seq vs.toArray } -> IntsAre vs ns -> ns.length <= n -> s₁.gens = #[] ->
   codeAny (model l.prog w) callerA (.call (.ref fa) ⟨[.ref a], []⟩) (fun r s' => r = .ok (.ret (.bool true)) /\ OldK s₁.heap s'.heap /\ s'.os = s₁.os /\ AllBare s'.gens) s₁) :
  WalkO q loose XP YP l.row.toRowW d [] (fun f vs => PySem.call f vs) := by
 intro w s₀ s₁ mg mb G Y fa o pm cd doc dV kV ho hd hcd hD hmg hg args vals as hpre hlay hrd hwl hlo
 obtain rfl : dV = .none := Dflts.none hD hdf
 obtain rfl : kV = .none := Dflts.noKw hD
 obtain ⟨a, vs, ns, rfl, rfl, hobj, hints, hlen⟩ := script_of hn hpre hwl
 refine enter_call (codeAny_mono (call w s₀ s₁ mg mb fa o pm cd doc a vs ns G Y ho (fd_plain hd) hcd hmg hobj hints hlen hg) fun r s' hq => ?_)
 obtain ⟨rfl, h2, h3, h4⟩ := hq
 exact ⟨.inl ⟨.bool true, .bool true, [], rfl, fun _ => rfl, .bool true, post_true l _, fun _ => ⟨List.Pairwise.nil, fun _ hm => (nomatch hm)⟩⟩, h2, h3, h4⟩
section
variable {prog : Program} {w : World} {A : Around} {E : Value -> Shared -> Prop} {s : Shared} {K : Frag}
end
end Att
namespace L2
open PySem PySem.Spec PyProof.Rows
theorem vals_ints : ∀ {vs : List Value} {ns : List Int}, IntsAre vs ns -> Vals (ns.map V.int) vs
 | _, _, .nil => .nil
 | _, _, .cons n t h => .cons ⟨t, rfl⟩ (vals_ints h)
def Only (H : Hp) : Prop := ∀ b, H b = none \/ ∃ o xs, H b = some (.frz o (.lst xs))
theorem law_call {P : Program} {w : World} {K : PySem.W.Frag} {mg mb : Str -> Option Value} {CX : CXT} {k : Nat} {fa a : Addr} {fd : FuncData} {x : Str} {sp : Sp} {s₁ : Shared} {vs : List Value} {ns : List Int}
  (KX : K.In s₁.heap) (hns : s₁.heap.Ns mainGlobals mg) (hb : s₁.heap.Ns builtinsNs mb) (hbb : ∀ x : Str, x ≠ "__name__" -> mb x = bootBuiltins x) (hlim : s₁.heap.NoLimit) (hg : s₁.gens = #[])
  (ha : s₁.heap.get? a = some { cls := .type "list", data := .seq vs.toArray }) (hi : IntsAre vs ns) (hl : ns.length <= sizeLine) (hr : Room k callerA)
  (F : ∀ base : Heap, K.In base -> base.Ns mainGlobals mg -> FnOk P w K mg base CX k fa fd [x] sp) (hbind : ∀ (s : Shared) (u : Value), BindsTo s fd ⟨[u], []⟩ [(x, u)])
  (hsp : ∀ H : Hp, Only H -> SqL K H a (ns.map V.int) -> sp [.ref a] H (fun v _ => v = .bl true) fun _ _ _ => False)
  (hCX : ∀ H e s', CX [] H s₁ (fun _ _ _ => False) e s' -> False) :
  codeAny (model P w) callerA (.call (.ref fa) ⟨[.ref a], []⟩) (fun r s' => r = .ok (.ret (.bool true)) /\ OldK s₁.heap s'.heap /\ s'.os = s₁.os /\ AllBare s'.gens) s₁ := by
 have rv := vals_ints hi
 have lenV := hi.length
 have core : ∀ H : Hp, Only H -> SqL K H a (ns.map V.int) -> HOk P w H s₁.heap -> (∀ b, H b ≠ none -> b = a) -> (H a ≠ none -> K.lookup a = none) ->
   codeAny (model P w) callerA (.call (.ref fa) ⟨[.ref a], []⟩) (fun r s' => r = .ok (.ret (.bool true)) /\ OldK s₁.heap s'.heap /\ s'.os = s₁.os /\ AllBare s'.gens) s₁ := by
  intro H hO hS hok hA hK
  have base_of : ∀ {b : Addr} {o : Obj}, s₁.heap.get? b = some o -> H b = none -> (hidT s₁.heap H).get? b = some o := fun e n => hidT_get e n
  have noA : ∀ {b : Addr} {o : Obj} {es : Array DictEntry} {ep : Nat}, s₁.heap.get? b = some o -> o.data = .dict es ep -> H b = none := fun {b o es ep} e d => by
   cases q : H b with
   | none => rfl
   | some u =>
    have e' : b = a := hA b (by rw [q]; simp)
    subst e'
    rw [ha] at e; cases e
    have d' : Data.seq vs.toArray _ = Data.dict es ep := d
    cases d'
  have nsK : ∀ {b : Addr} {m : Str -> Option Value}, s₁.heap.Ns b m -> (hidT s₁.heap H).Ns b m := fun {b m} ⟨o, es, ep, e, d, r⟩ => ⟨o, es, ep, base_of e (noA e d), d, r⟩
  have hKb : K.In (hidT s₁.heap H) := fun b o e => base_of (KX b o e) (by
   cases q : H b with
   | none => rfl
   | some u =>
    have e' : b = a := hA b (by rw [q]; simp)
    subst e'
    rw [hK (by rw [q]; simp)] at e; cases e)
  have hM : Mod K mg (hidT s₁.heap H) := ⟨hKb, nsK hns, ⟨mb, nsK hb, hbb⟩, let ⟨mc, h1, h2⟩ := hlim; ⟨mc, nsK h1, h2⟩⟩
  have e0 : Env0 P w K mg (hidT s₁.heap H) callerA [] s₁ H := ⟨rfl, hM, fun b o e => of_hidT e, Nat.le_of_eq (hidT_size _ _), trivial, fun b hb => absurd (show b ∈ ([] : List Addr) from hb) (by simp), hok, .of_eq hg⟩
  refine codeAny_mono ((F _ hKb (nsK hns)).run callerA [] s₁ H ⟨[.ref a], []⟩ [.ref a] [.ref a] _ _ hr e0 (hbind s₁ (.ref a)) (.cons rfl .nil) (hsp H hO hS)) fun r s' h => ?_
  cases r with
  | error e => exact (hCX H e s' h).elim
  | ok fl =>
   cases fl with
   | next => exact False.elim h
   | brk => exact False.elim h
   | cont => exact False.elim h
   | ret u =>
    obtain ⟨v, H', os, bare, un, hok', r', q⟩ := h
    have q' : v = .bl true := q
    subst q'
    obtain rfl : u = Value.bool true := r'
    refine ⟨rfl, OldK.of_keep fun b o e => ?_, os, bare⟩
    cases q : H b with
    | none => exact un.keep b o e q (by intro z; exact absurd (show b ∈ ([] : List Addr) from z) (by simp)) (by simp)
    | some u =>
     rcases hO b with z | ⟨ob, xs, z⟩
     ·rw [q] at z; cases z
     ·have z2 := un.frzs b ob _ z
      obtain ⟨e1, _⟩ := hok b _ z
      obtain ⟨e2, _⟩ := hok' b _ z2
      rw [e] at e1; cases e1
      exact e2
 cases hk : K.lookup a with
 | some o =>
  have e := KX a o hk
  rw [ha] at e
  cases e
  refine core (fun _ => none) (fun _ => .inl rfl) (.inr ⟨_, vs.toArray, _, hk, rfl, rfl, rfl, by rw [List.size_toArray, lenV]; exact hl, by simpa using rv⟩) (fun b u z => by have z' : (none : Option HO) = some u := z; cases z') (fun b z => absurd rfl z) fun z => absurd rfl z
 | none =>
  refine core (fun b => if b = a then some (.frz { cls := .type "list", data := .seq vs.toArray } (.lst (ns.map V.int))) else none) (fun b => ?_) (.inl (.inr ⟨{ cls := .type "list", data := .seq vs.toArray }, if_pos rfl⟩)) (fun b u z => ?_) (fun b z => ?_) fun _ => hk
  ·by_cases hb : b = a
   ·exact .inr ⟨_, _, if_pos hb⟩
   ·exact .inl (if_neg hb)
  ·by_cases hb : b = a
   ·have z' := (if_pos hb).symm.trans z
    cases z'
    subst hb
    exact ⟨ha, by rw [List.length_map]; exact hl, vs, _, rv, ha⟩
   ·have z' := (if_neg hb).symm.trans z
    cases z'
  ·by_cases hb : b = a
   ·exact hb
   ·exact absurd (if_neg hb) z
end L2
namespace L2
open PySem PySem.Spec PyProof.Rows
theorem walk_of {l : PySem.W.OpenLaw} {n k : Nat} {q : Program} {loose : List Str} {XP : (Str -> Option Value) -> Heap -> Prop} {YP : World -> Heap -> Prop} {d : DefRec} {K : Params -> PySem.W.Frag} {CX : World -> CXT} {sp : World -> Sp} {x : Str}
  (hn : l.most = some n) (hn2 : n <= sizeLine) (hdf : d.params.defaults = []) (hr : Room k callerA)
  (hY : ∀ (w : World) (h : Heap), YP w h -> (K w.params).In h)
  (F : ∀ (w : World) (mg : Str -> Option Value) (fa : Addr) (h : Heap), (K w.params).In h -> h.Ns mainGlobals mg -> mg d.name = some (.ref fa) ->
   ∃ fd : FuncData, (∀ (s : Shared) (u : Value), BindsTo s fd ⟨[u], []⟩ [(x, u)]) /\
    ∀ base : Heap, (K w.params).In base -> base.Ns mainGlobals mg -> FnOk l.prog w (K w.params) mg base (CX w) k fa fd [x] (sp w))
  (hsp : ∀ (w : World) (H : Hp) (a : Addr) (ns : List Int), ns.length <= n -> Only H -> SqL (K w.params) H a (ns.map V.int) -> sp w [.ref a] H (fun v _ => v = .bl true) fun _ _ _ => False)
  (hCX : ∀ (w : World) (H : Hp) (s : Shared) (e : Value) (s' : Shared), CX w [] H s (fun _ _ _ => False) e s' -> False) :
  PySem.W.WalkO q loose XP YP l.row.toRowW d [] (fun f vs => PySem.call f vs) := by
 refine Att.attach_call hn hdf fun w s₀ s₁ mg mb fa o pm cd doc a vs ns G Y ho hd hcd hmg hobj hints hlen hg => ?_
 have KX := hY w _ Y
 obtain ⟨fd, hb, hF⟩ := F w mg fa _ KX G.T.g hmg
 exact law_call KX G.T.g G.T.b G.T.builtins G.T.nolimit hg hobj hints (Nat.le_trans hlen hn2) hr hF hb (fun H hO hS => hsp w H a ns hlen hO hS) fun H e s' => hCX w H s₁ e s'
end L2
namespace L2
open PySem PySem.Spec PyProof.Rows
def defArgs (s : Stmt) : Arguments := match s with
 | .FunctionDef _ a _ _ _ _ _ _ _ _ => a
 | _ => { posonlyargs := [], args := [], vararg := none, kwonlyargs := [], kw_defaults := [], kwarg := none, defaults := [] }
def defBody (s : Stmt) : List Stmt := match s with
 | .FunctionDef _ _ b _ _ _ _ _ _ _ => b
 | _ => []
def defScope (s : Stmt) : Scope := match s with
 | .FunctionDef _ _ _ _ _ _ sc _ _ _ => sc
 | _ => { kind := .function, names := [], isGenerator := false, isCoroutine := false }
abbrev CX0 : CXT := fun _ _ _ _ _ _ => False
abbrev E0 : XK := fun _ _ _ => False
theorem pass0 {X : Cx} : Passes CX0 X E0 := fun _ _ _ _ _ _ _ h => h.elim
structure Fun (K : PySem.W.Frag) (x qual : Str) (st : Stmt) (f : Addr) (fd : FuncData) : Prop where
 ex : ∃ (oc : Value) (od : Option Addr) (kV doc pm : Value) (an : Option Addr) (cdv ct : Value) (osl : Array (Option Value)),
  fd = PySem.W.fnOf x qual (defArgs st) (defBody st) (defScope st) .none kV doc pm an cdv ct /\ K.lookup f = some ⟨oc, od, .func fd, osl⟩ /\ PySem.W.codeIn K cdv qual = true
 kp : PySem.W.keepIn K (.ref f) = true
section
variable {P : Program} {w : World} {K : PySem.W.Frag} {mg : Str -> Option Value} {base : Heap}
theorem Fun.ok {x qual : Str} {st : Stmt} {f : Addr} {fd : FuncData} {N ps : List Str} {k : Nat} {sp : Sp} (F : Fun K x qual st f fd) (S : FnScope N ps (defScope st)) (len : ∀ vs H Q E, sp vs H Q E -> vs.length = ps.length)
  (hbody : ∀ (cdv : Value) (A : Around) (outer : List Env) (s : Shared) (H : Hp) (vs : List V) (Q : VK) (E : XK), Room k (A.deeper (envOfC qual (defScope st) s.heap.objs.size f cdv)) -> sp vs H Q E ->
   ∃ t, PSs (cxOf CX0 P w K mg base N qual (defScope st) f cdv A outer s H E).nox (defBody st) t /\ t { nx := fun _ H' => Q .non H', rt := Q } (start N vs) H) : FnOk P w K mg base CX0 (k + 1) f fd ps sp := by
 obtain ⟨oc, od, kV, doc, pm, an, cdv, ct, osl, rfl, lk, hcd⟩ := F.ex
 refine fn_of lk hcd S len fun A outer s H vs Q E hr hsp => ?_
 obtain ⟨t, h, q⟩ := hbody cdv A outer s H vs Q E hr hsp
 exact ⟨t, h.nox, q⟩
theorem Fun.binds {x qual : Str} {st : Stmt} {f : Addr} {fd : FuncData} {ps : List Str} (F : Fun K x qual st f fd)
  (h : ∀ (kV doc pm : Value) (an : Option Addr) (cdv ct : Value) (us : List Value), us.length = ps.length -> bindArgs (PySem.W.fnOf x qual (defArgs st) (defBody st) (defScope st) .none kV doc pm an cdv ct) ⟨us, []⟩ = pure (ps.zip us)) : Binds K fd ps [] := by
 obtain ⟨oc, od, kV, doc, pm, an, cdv, ct, osl, rfl, lk, hcd⟩ := F.ex
 exact .all (h kV doc pm an cdv ct)
end
section
variable {X : Cx}
end
def Same (H H' : Hp) : Prop := ∀ b o, H b = some o -> H' b = some o
theorem Same.refl (H : Hp) : Same H H := fun _ _ h => h
theorem Same.trans {H H1 H2 : Hp} (a : Same H H1) (b : Same H1 H2) : Same H H2 := fun c o h => b c o (a c o h)
theorem Same.free {H H' : Hp} (e : Same H H') {l : Addr} (h : H' l = Option.none) : H l = Option.none := by
 cases q : H l with
 | none => rfl
 | some o =>
  rw [e l o q] at h
  cases h
theorem Same.seq {K : PySem.W.Frag} {H H' : Hp} {a : Addr} {xs : List V} (e : Same H H') (h : SqL K H a xs) : SqL K H' a xs := by
 rcases h with (h | ⟨o, h⟩) | h
 ·exact .inl (.inl (e _ _ h))
 ·exact .inl (.inr ⟨o, e _ _ h⟩)
 ·exact .inr h
end L2
namespace L2
open PySem PySem.Spec PyProof.Rows
section
variable {κ : Type} [DecidableEq κ]
def valV (kvs : List (κ × V)) (k : κ) : Option V := (kvs.find? fun kv => decide (kv.1 = k)).map (·.2)
def putK (kvs : List (κ × V)) (k : κ) (v : V) : List (κ × V) :=
 if (kvs.any fun kv => decide (kv.1 = k)) = true then kvs.map (fun kv => if kv.1 = k then (kv.1, v) else kv) else kvs ++ [(k, v)]
def dropK (kvs : List (κ × V)) (k : κ) : List (κ × V) := kvs.filter fun kv => decide (kv.1 ≠ k)
theorem valV_pos {p : κ × V} {r : List (κ × V)} {k : κ} (e : p.1 = k) : valV (p :: r) k = some p.2 := by simp [valV, List.find?_cons, e]
theorem valV_neg {p : κ × V} {r : List (κ × V)} {k : κ} (e : ¬ p.1 = k) : valV (p :: r) k = valV r k := by simp [valV, List.find?_cons, e]
theorem valV_any (k : κ) : ∀ kvs : List (κ × V), (kvs.any fun kv => decide (kv.1 = k)) = (valV kvs k).isSome
 | [] => rfl
 | p :: r => by
  rw [List.any_cons]
  by_cases e : p.1 = k
  ·simp only [valV_pos e, decide_eq_true e, Bool.true_or, Option.isSome_some]
  ·rw [valV_neg e, decide_eq_false e, Bool.false_or]; exact valV_any k r
theorem RelO.isSome_eq {o : Option V} {u : Option Value} (r : RelO o u) : o.isSome = u.isSome := by
 cases o with
 | none => cases u with
  | none => rfl
  | some _ => exact (show False from r).elim
 | some _ => cases u with
  | none => exact (show False from r).elim
  | some _ => rfl
theorem RelO.getD {o : Option V} {u : Option Value} {d : V} {d' : Value} (r : RelO o u) (rd : RelV d d') : RelV (o.getD d) (u.getD d') := by
 cases o with
 | none => cases u with
  | none => exact rd
  | some _ => exact (show False from r).elim
 | some _ => cases u with
  | none => exact (show False from r).elim
  | some _ => exact r
theorem KV.val {kvs : List (κ × V)} {vs : List (κ × Value)} (r : KV kvs vs) (k : κ) : RelO (valV kvs k) (valueAt vs k) := by
 unfold KV at r
 induction r with
 | nil => exact True.intro
 | @cons p q ps qs h t ih =>
  obtain ⟨h1, h2⟩ := h
  by_cases e : p.1 = k
  ·have e' : q.1 = k := h1.symm.trans e
   have b : valueAt (q :: qs) k = some q.2 := by simp [valueAt, List.find?_cons, e']
   rw [valV_pos e, b]; exact h2
  ·have e' : ¬ q.1 = k := fun z => e (h1.trans z)
   have b : valueAt (q :: qs) k = valueAt qs k := by simp [valueAt, List.find?_cons, e']
   rw [valV_neg e, b]; exact ih
theorem KV.any {kvs : List (κ × V)} {vs : List (κ × Value)} (r : KV kvs vs) (k : κ) : (kvs.any fun kv => decide (kv.1 = k)) = vs.any fun kv => decide (kv.1 = k) := by
 unfold KV at r
 induction r with
 | nil => rfl
 | cons h t ih => rw [List.any_cons, List.any_cons, ih, h.1]
theorem KV.repl {kvs : List (κ × V)} {vs : List (κ × Value)} (r : KV kvs vs) (k : κ) {y : V} {u : Value} (ry : RelV y u) :
  KV (kvs.map fun kv => if kv.1 = k then (kv.1, y) else kv) (vs.map fun kv => if kv.1 = k then (kv.1, u) else kv) := by
 unfold KV at r ⊢
 induction r with
 | nil => exact .nil
 | @cons p q ps qs h t ih =>
  rw [List.map_cons, List.map_cons]
  refine .cons ?_ ih
  obtain ⟨h1, h2⟩ := h
  by_cases e : p.1 = k
  ·rw [if_pos e, if_pos (h1.symm.trans e)]; exact ⟨h1, ry⟩
  ·rw [if_neg e, if_neg (fun z => e (h1.trans z))]; exact ⟨h1, h2⟩
theorem KV.put {kvs : List (κ × V)} {vs : List (κ × Value)} (r : KV kvs vs) (k : κ) {y : V} {u : Value} (ry : RelV y u) : KV (putK kvs k y) (stored vs k u) := by
 unfold putK stored
 rw [r.any k]
 by_cases e : (vs.any fun kv => decide (kv.1 = k)) = true
 ·rw [if_pos e, if_pos e]; exact r.repl k ry
 ·rw [if_neg e, if_neg e]; exact Paired.snoc r ⟨rfl, ry⟩
theorem KV.drop {kvs : List (κ × V)} {vs : List (κ × Value)} (r : KV kvs vs) (k : κ) : KV (dropK kvs k) (without vs k) := by
 unfold KV at r ⊢
 unfold dropK without
 induction r with
 | nil => exact .nil
 | @cons p q ps qs h t ih =>
  obtain ⟨h1, h2⟩ := h
  rw [List.filter_cons, List.filter_cons]
  by_cases e : p.1 = k
  ·have a : ¬ decide (p.1 ≠ k) = true := by simp [e]
   have b : ¬ decide (q.1 ≠ k) = true := by simp [h1.symm.trans e]
   rw [if_neg a, if_neg b]; exact ih
  ·have e' : ¬ q.1 = k := fun z => e (h1.trans z)
   have a : decide (p.1 ≠ k) = true := by simp [e]
   have b : decide (q.1 ≠ k) = true := by simp [e']
   rw [if_pos a, if_pos b]; exact .cons ⟨h1, h2⟩ ih
theorem KV.length {kvs : List (κ × V)} {vs : List (κ × Value)} (r : KV kvs vs) : kvs.length = vs.length := Paired.length r
end
theorem kV_is {P : Program} {w : World} {k : Key} {u : Value} (r : RelV (kV k) u) : (mixKind P w).is k u = true := by
 cases k with
 | inl i => obtain ⟨t, e⟩ := (show ∃ t, u = Value.int i t from r); subst e; exact mixKind_int P w i t
 | inr x => obtain ⟨t, e⟩ := (show ∃ t, u = Value.str x t from r); subst e; exact mixKind_str P w x t
theorem items_are {P : Program} {w : World} : ∀ {ks : List Key} {us : List Value}, Vals (ks.map kV) us -> ItemsAre (mixKind P w) ks us
 | [], _, r => by rw [List.map_nil] at r; cases r; exact .nil
 | k :: ks, _, r => by
  rw [List.map_cons] at r
  cases r with
  | cons h t => exact .cons (kV_is h) (items_are t)
abbrev KT (H : Hp) : List (List Key × V) -> List (List Key × Addr × Value) -> Prop := Paired fun p q => p.1 = q.1 /\ H q.2.1 = some (.tup (p.1.map kV)) /\ RelV p.2 q.2.2
theorem KT.val {H : Hp} {kvs : List (List Key × V)} {xs : List (List Key × Addr × Value)} (r : KT H kvs xs) (k : List Key) : RelO (valV kvs k) ((atKey xs k).map (·.2)) := by
 induction r with
 | nil => exact True.intro
 | @cons p q ps qs h t ih =>
  obtain ⟨h1, _, h2⟩ := h
  by_cases e : p.1 = k
  ·have e' : q.1 = k := h1.symm.trans e
   have b : atKey (q :: qs) k = some q.2 := by simp [atKey, List.find?_cons, e']
   rw [valV_pos e, b]; exact h2
  ·have e' : ¬ q.1 = k := fun z => e (h1.trans z)
   have b : atKey (q :: qs) k = atKey qs k := by simp [atKey, List.find?_cons, e']
   rw [valV_neg e, b]; exact ih
theorem KT.repl {H : Hp} {kvs : List (List Key × V)} {xs : List (List Key × Addr × Value)} (r : KT H kvs xs) (k : List Key) {y : V} {u : Value} (ry : RelV y u) :
  KT H (kvs.map fun kv => if kv.1 = k then (kv.1, y) else kv) (xs.map (putAt k u)) := by
 induction r with
 | nil => exact .nil
 | @cons p q ps qs h t ih =>
  rw [List.map_cons, List.map_cons]
  refine .cons ?_ ih
  obtain ⟨h1, h2, h3⟩ := h
  unfold putAt
  by_cases e : p.1 = k
  ·rw [if_pos e, if_pos (h1.symm.trans e)]; exact ⟨h1, h2, ry⟩
  ·rw [if_neg e, if_neg (fun z => e (h1.trans z))]; exact ⟨h1, h2, h3⟩
theorem KT.put {H : Hp} {kvs : List (List Key × V)} {xs : List (List Key × Addr × Value)} (r : KT H kvs xs) (k : List Key) {b : Addr} {y : V} {u : Value} (hb : H b = some (.tup (k.map kV))) (ry : RelV y u) :
  KT H (putK kvs k y) (storedH xs k b u) := by
 have e : (kvs.any fun kv => decide (kv.1 = k)) = (atKey xs k).isSome := by
  rw [valV_any, (r.val k).isSome_eq, Option.isSome_map]
 unfold putK storedH
 rw [e]
 by_cases q : (atKey xs k).isSome = true
 ·rw [if_pos q, if_pos q]; exact r.repl k ry
 ·rw [if_neg q, if_neg q]; exact Paired.snoc r ⟨rfl, hb, ry⟩
theorem KT.keeps {H H' : Hp} {kvs : List (List Key × V)} {xs : List (List Key × Addr × Value)} (r : KT H kvs xs) (ht : ∀ b ys, H b = some (.tup ys) -> H' b = some (.tup ys)) : KT H' kvs xs :=
 Paired.mapP r fun _ _ z => ⟨z.1, ht _ _ z.2.1, z.2.2⟩
section
variable {P : Program} {w : World} {H : Hp} {h : Heap} {a : Addr}
theorem rd_of {u : HO} (ok : HOk P w H h) (e : Rd H a u) : ObjOk P w H h a u := e.ok ok
theorem dk_rd {kvs : List (Key × V)} (ok : HOk P w H h) (e : Rd H a (.dK kvs)) : kvs.length <= sizeLine /\ (a == sysModules) = false /\ ∃ vs, KV kvs vs /\ h.DictOf (mixKind P w) a vs :=
 show ObjOk P w H h a (.dK kvs) from rd_of ok e
theorem key_of {ks : List Key} (ok : HOk P w H h) (e : H a = some (.tup (ks.map kV))) : (tupleKind (mixKind P w)).is h ks a := by
 obtain ⟨_, its, r, o, h1, h2, n, h3⟩ := (show ObjOk P w H h a (.tup (ks.map kV)) from ok a _ e)
 exact ⟨o, its.toArray, n, h1, h2, h3, by simpa using items_are r⟩
theorem dt_rd {kvs : List (List Key × V)} (ok : HOk P w H h) (e : Rd H a (.dT kvs)) : kvs.length <= sizeLine /\ (a == sysModules) = false /\
  ∃ xs, KT H kvs xs /\ h.DictOfH (tupleKind (mixKind P w)) a xs := by
 obtain ⟨z, y, xs, r, o, es, ep, h1, h2, h3, h4, h5⟩ := (show ObjOk P w H h a (.dT kvs) from rd_of ok e)
 refine ⟨z, y, xs, r, o, es, ep, h1, h2, h3, h4, fun x hx => ?_, h5⟩
 have all : ∀ {l : List (List Key × V)} {m : List (List Key × Addr × Value)}, KT H l m -> ∀ x ∈ m, (tupleKind (mixKind P w)).is h x.1 x.2.1 := by
  intro l m q
  induction q with
  | nil => intro x hx; exact nomatch hx
  | @cons p q ps qs hq t ih =>
   intro x hx
   rcases List.mem_cons.mp hx with e | hx
   ·subst e
    exact key_of ok (by rw [<- hq.1]; exact hq.2.1)
   ·exact ih x hx
 exact all r x hx
end
def DGet (H : Hp) (a : Addr) (y : V) (r : Option V) : Prop :=
 (∃ kvs k, Rd H a (.dK kvs) /\ y = kV k /\ r = valV kvs k) \/ ∃ kvs k b, Rd H a (.dT kvs) /\ y = .ref b /\ H b = some (.tup (k.map kV)) /\ r = valV kvs k
def DPut (H : Hp) (a : Addr) (y v : V) (H' : Hp) : Prop :=
 (∃ kvs k, H a = some (.dK kvs) /\ y = kV k /\ kvs.length < sizeLine /\ H' = upd H a (.dK (putK kvs k v))) \/
 ∃ kvs k b, H a = some (.dT kvs) /\ y = .ref b /\ H b = some (.tup (k.map kV)) /\ kvs.length < sizeLine /\ H' = upd H a (.dT (putK kvs k v))
theorem DGet.k {H : Hp} {a : Addr} {kvs : List (Key × V)} {k : Key} (e : H a = some (.dK kvs)) : DGet H a (kV k) (valV kvs k) := .inl ⟨kvs, k, .inl e, rfl, rfl⟩
theorem DGet.t {H : Hp} {a b : Addr} {kvs : List (List Key × V)} {k : List Key} (e : H a = some (.dT kvs)) (eb : H b = some (.tup (k.map kV))) : DGet H a (.ref b) (valV kvs k) := .inr ⟨kvs, k, b, .inl e, rfl, eb, rfl⟩
theorem DPut.k {H : Hp} {a : Addr} {kvs : List (Key × V)} {k : Key} {v : V} (e : H a = some (.dK kvs)) (hl : kvs.length < sizeLine) : DPut H a (kV k) v (upd H a (.dK (putK kvs k v))) := .inl ⟨kvs, k, e, rfl, hl, rfl⟩
theorem DPut.t {H : Hp} {a b : Addr} {kvs : List (List Key × V)} {k : List Key} {v : V} (e : H a = some (.dT kvs)) (eb : H b = some (.tup (k.map kV))) (hl : kvs.length < sizeLine) :
  DPut H a (.ref b) v (upd H a (.dT (putK kvs k v))) := .inr ⟨kvs, k, b, e, rfl, eb, hl, rfl⟩
section
variable {X : Cx} {pins : List (Addr × Obj)} {σ : St} {H : Hp} {s : Shared} {a : Addr} {y v : V} {u r : Value} {o : Option V} {A : Around} {E : Value -> Shared -> Prop}
theorem Inv.big (I : Inv X pins σ H s) : sysModules < s.heap.objs.size := by
 have h : mainGlobals < s.heap.objs.size := (I.mod.glob.keeps I.bk).lt
 exact Nat.lt_trans (by decide) h
theorem d_getItem {Q : Value -> Shared -> Prop} (hu : A.units + 1 < cLine) (I : Inv X pins σ H s) (g : DGet H a y (some v)) (ry : RelV y u) (h : ∀ w' s', Inv X pins σ H s' -> RelV v w' -> Q w' s') :
  wpAny (model X.prog X.w) A (getItem (.ref a) u) Q E s := by
 rcases g with ⟨kvs, k, e, ey, l⟩ | ⟨kvs, k, b, e, ey, eb, l⟩
 ·subst ey
  obtain ⟨z, hd, vs, rel, dd⟩ := dk_rd I.hok e
  obtain ⟨w', hw, rw'⟩ := RelO.some_of (v := v) (o := valueAt vs k) (by rw [l]; exact rel.val k)
  exact wpAny_getItem_of (kV_is ry) dd.mapOf hw (h w' _ (I.tok _) rw')
 ·subst ey
  cases (show u = Value.ref b from ry)
  obtain ⟨z, hd, xs, rel, dd⟩ := dt_rd I.hok e
  obtain ⟨w', hw, rw'⟩ := RelO.some_of (v := v) (o := (atKey xs k).map (·.2)) (by rw [l]; exact rel.val k)
  obtain ⟨p, hp, hp2⟩ := Option.map_eq_some_iff.mp hw
  refine wpAny_getItem_heap (tupleKind_room_in1 hu) (key_of I.hok eb) dd hp ?_
  rw [hp2]
  exact h w' _ (I.tok _) rw'
end
section
variable {X : Cx} {pins : List (Addr × Obj)} {σ : St} {H : Hp} {s : Shared} {a : Addr} {kvs : List (Key × V)} {k : Key} {u : Value} {A : Around} {E : Value -> Shared -> Prop}
end
theorem dict_typeIs {X : Cx} {pins : List (Addr × Obj)} {σ : St} {H : Hp} {s : Shared} {a : Addr} {y : V} {o : Option V} (I : Inv X pins σ H s) (g : DGet H a y o) : s.TypeIs (.ref a) "dict" := by
 rcases g with ⟨kvs, k, e, _, _⟩ | ⟨kvs, k, b, e, _, _, _⟩
 ·obtain ⟨_, _, vs, _, dd⟩ := dk_rd I.hok e
  exact dd.typeIs
 ·obtain ⟨_, _, xs, _, dd⟩ := dt_rd I.hok e
  exact dd.typeIs
section
variable {X : Cx} {o i e value : Expr} {pos pos' tpos : Pos} {td ty tv : TE}
end
section
variable {X : Cx} {pos : Pos}
end
section
variable {X : Cx} {pins : List (Addr × Obj)} {σ : St} {H : Hp} {s : Shared} {a : Addr} {y d : V} {u r : Value} {o : Option V} {A : Around} {E : Value -> Shared -> Prop}
end
section
variable {X : Cx} {o e f : Expr} {apos cpos : Pos} {td ty tx : TE}
end
section
variable {X : Cx} {pins : List (Addr × Obj)} {σ : St} {H : Hp} {s : Shared} {a : Addr} {kvs : List (Key × V)} {A : Around} {E : Value -> Shared -> Prop}
end
section
variable {X : Cx} {pins : List (Addr × Obj)} {σ : St} {H : Hp} {s : Shared} {a : Addr} {y : V} {u : Value} {A : Around} {E : Value -> Shared -> Prop}
end
end L2
set_option maxHeartbeats 1000000
namespace Pu
inductive D where
 | non | bl (b : Bool) | int (i : Int) | str (s : List Nat) | tup (xs : List D) | lst (xs : List D)
 | dct (t : Bool) (ks vs : List D)
 | ins (c : String) (ns : List String) (xs : List D)
 | exn (c : String) (ns : List String) (xs : List D)
inductive R (α : Type) where
 | ok (a : α) | exc (x : D) | bad
@[inline] def R.bind {α β : Type} (r : R α) (f : α -> R β) : R β := match r with
 | .ok a => f a
 | .exc x => .exc x
 | .bad => .bad
theorem R.ok_of {α β : Type} {r : R α} {f : α -> R β} {b : β} (h : r.bind f = .ok b) : ∃ a, r = .ok a /\ f a = .ok b := by
 cases r with
 | ok a => exact ⟨a, rfl, h⟩
 | exc x => exact nomatch h
 | bad => exact nomatch h
noncomputable section
open Classical in
def guardR {α : Type} (c : Prop) (r : R α) : R α := if c then r else .bad
theorem guardR_pos {α : Type} {c : Prop} {r : R α} (h : c) : guardR c r = r := if_pos h
theorem guardR_of {α : Type} {c : Prop} {r : R α} {a : α} (h : guardR c r = .ok a) : c /\ r = .ok a := by
 unfold guardR at h
 split at h
 ·exact ⟨by assumption, h⟩
 ·exact nomatch h
inductive OK where
 | l | d (t : Bool) (ks : List D) | i (n : Nat) (c : String) (ns : List String)
def ofK : OK -> List D -> D
 | .l, xs => .lst xs
 | .d t ks, xs => .dct t ks xs
 | .i _ c ns, xs => .ins c ns xs
inductive Sl where
 | v (d : D) | o (k : OK) (xs : List D)
abbrev PSt := List (Option Sl)
abbrev Ex := PSt -> R D
inductive Fl where
 | nx (st : PSt) | rt (d : D) | bk (st : PSt) | ct (st : PSt)
abbrev Bd := PSt -> R Fl
@[irreducible] def big : Nat := 10000000
theorem big_eq : big = 10000000 := by unfold big; rfl
theorem le_big {n : Nat} (h : n <= 10000000) : n <= big := by rw [big_eq]; exact h
theorem lt_big {n : Nat} (h : n < 10000000) : n < big := by rw [big_eq]; exact h
theorem le_bigI {n : Int} (h : n <= 10000000) : n <= (big : Int) := by rw [big_eq]; exact h
theorem ge_bigI {n : Int} (h : -10000000 <= n) : -(big : Int) <= n := by rw [big_eq]; exact h
def sIx (n d : Nat) : Option Int -> Nat
 | none => d
 | some v => if v < 0 then (v + (n : Int)).toNat else min v.toNat n
def ixN (n : Nat) (i : Int) : Option Nat := if 0 <= i then (if i < n then some i.toNat else none) else if -(n : Int) <= i then some (i + n).toNat else none
def atI {α : Type} (xs : List α) (i : Int) : Option α := (ixN xs.length i).bind fun j => xs[j]?
def cut {α : Type} (xs : List α) (lo hi : Option Int) : List α := (xs.drop (sIx xs.length 0 lo)).take (sIx xs.length xs.length hi - sIx xs.length 0 lo)
def rep {α : Type} (n : Nat) (xs : List α) : List α := (List.replicate n xs).flatten
def ofO {α : Type} : Option α -> R α
 | some a => .ok a
 | none => .bad
abbrev Op2 := D -> D -> R D
def dAdd : Op2
 | .int i, .int j => .ok (.int (i + j))
 | .str x, .str y => guardR (x.length + y.length <= big) (.ok (.str (x ++ y)))
 | .lst x, .lst y => guardR (x.length + y.length <= big) (.ok (.lst (x ++ y)))
 | _, _ => .bad
def dFdiv : Op2
 | .int i, .int j => guardR (0 < j /\ j < 1073741824) (.ok (.int (i / j)))
 | _, _ => .bad
def dMod : Op2
 | .int i, .int j => guardR (0 < j) (.ok (.int (i % j)))
 | _, _ => .bad
def keyS : D -> Bool
 | .int _ => true
 | .str _ => true
 | _ => false
def keyOk (t : Bool) (d : D) : Bool := match d with
 | .int _ => !t
 | .str _ => !t
 | .tup xs => t && xs.all keyS
 | _ => false
mutual
def eqK : D -> D -> Bool
 | .int i, .int j => i == j
 | .str x, .str y => x == y
 | .tup x, .tup y => eqKs x y
 | _, _ => false
def eqKs : List D -> List D -> Bool
 | [], [] => true
 | a :: x, b :: y => eqK a b && eqKs x y
 | _, _ => false
end
def getK (ks vs : List D) (k : D) : Option D := ((ks.zip vs).find? fun p => eqK p.1 k).map (·.2)
def hasK (ks : List D) (k : D) : Bool := ks.any fun x => eqK x k
def dIx : Op2
 | .dct t ks vs, k => guardR (keyOk t k = true) (ofO (getK ks vs k))
 | .lst x, .int i => ofO (atI x i)
 | .tup x, .int i => ofO (atI x i)
 | .str x, .int i => guardR (x.length <= big) (ofO ((atI x i).map fun c => .str [c]))
 | _, _ => .bad
mutual
def eqD : D -> D -> Bool
 | .non, .non => true
 | .bl a, .bl b => a == b
 | .bl a, .int j => (if a then (1 : Int) else 0) == j
 | .int i, .bl b => i == (if b then (1 : Int) else 0)
 | .int i, .int j => i == j
 | .str x, .str y => x == y
 | .tup x, .tup y => eqDs x y
 | .lst x, .lst y => eqDs x y
 | _, _ => false
def eqDs : List D -> List D -> Bool
 | [], [] => true
 | a :: x, b :: y => eqD a b && eqDs x y
 | _, _ => false
end
mutual
def dep : D -> Nat
 | .tup x => deps x + 1
 | .lst x => deps x + 1
 | .non => 0
 | .bl _ => 0
 | .int _ => 0
 | .str _ => 0
 | .dct _ _ _ => 0
 | .ins _ _ _ => 0
 | .exn _ _ _ => 0
def deps : List D -> Nat
 | [] => 0
 | a :: x => max (dep a) (deps x)
end
mutual
def plain : D -> Bool
 | .tup x => plains x
 | .lst x => plains x
 | .non => true
 | .bl _ => true
 | .int _ => true
 | .str _ => true
 | .dct _ _ _ => false
 | .ins _ _ _ => false
 | .exn _ _ _ => false
def plains : List D -> Bool
 | [] => true
 | a :: x => plain a && plains x
end
def dEq : Op2 := fun a b => guardR (dep a <= 64 /\ plain a = true /\ plain b = true) (.ok (.bl (eqD a b)))
def dNe : Op2 := fun a b => guardR (dep a <= 64 /\ plain a = true /\ plain b = true) (.ok (.bl (!eqD a b)))
def lexD : List D -> List D -> R Bool
 | [], [] => .ok false
 | [], _ :: _ => .ok true
 | _ :: _, [] => .ok false
 | a :: x, b :: y => if eqD a b = true then lexD x y else match a, b with
  | .int i, .int j => .ok (decide (i < j))
  | .str s, .str t => .ok (decide (s < t))
  | _, _ => .bad
def dLt : Op2
 | .int i, .int j => .ok (.bl (decide (i < j)))
 | .str s, .str t => .ok (.bl (decide (s < t)))
 | .tup x, .tup y => guardR (deps x <= 60 /\ plains x = true /\ plains y = true) ((lexD x y).bind fun b => .ok (.bl b))
 | _, _ => .bad
def isDc : D -> Bool
 | .dct _ _ _ => true
 | _ => false
def findN (x y : List Nat) (lo : Nat) : Option Nat := (List.range' lo (x.length + 1 - lo)).find? fun i => decide (i + y.length <= x.length) && ((x.drop i).take y.length == y)
def eVar (i : Nat) : Ex := fun st => match st[i]? with
 | some (some (.v d)) => .ok d
 | _ => .bad
def eC (d : D) : Ex := fun _ => .ok d
def e2 (op : Op2) (f g : Ex) : Ex := fun st => (f st).bind fun x => (g st).bind fun y => op x y
def e1 (op : D -> R D) (f : Ex) : Ex := fun st => (f st).bind op
def onB {α : Type} (d : D) (f : Bool -> R α) : R α := match d with
 | .bl b => f b
 | _ => .bad
theorem onB_of {α : Type} {d : D} {f : Bool -> R α} {a : α} (h : onB d f = .ok a) : ∃ b, d = .bl b /\ f b = .ok a := by
 cases d <;> first | exact ⟨_, rfl, h⟩ | exact nomatch h
def eOr (f g : Ex) : Ex := fun st => (f st).bind fun x => onB x fun b => if b = true then .ok (.bl true) else g st
def eNot (f : Ex) : Ex := fun st => (f st).bind fun x => onB x fun b => .ok (.bl (!b))
abbrev Exs := PSt -> R (List D)
def aNil : Exs := fun _ => .ok []
def aCons (f : Ex) (r : Exs) : Exs := fun st => (f st).bind fun x => (r st).bind fun xs => .ok (x :: xs)
def eTup (r : Exs) : Ex := fun st => (r st).bind fun xs => guardR (xs.length <= big) (.ok (.tup xs))
def eLst (r : Exs) : Ex := fun st => (r st).bind fun xs => guardR (xs.length <= big) (.ok (.lst xs))
def eCall (p : List D -> R D) (r : Exs) : Ex := fun st => (r st).bind p
def inI (d : D) {α : Type} (f : Int -> R α) : R α := match d with
 | .int i => f i
 | _ => .bad
theorem inI_of {α : Type} {d : D} {f : Int -> R α} {a : α} (h : inI d f = .ok a) : ∃ i, d = .int i /\ f i = .ok a := by
 cases d <;> first | exact ⟨_, rfl, h⟩ | exact nomatch h
abbrev ExO := PSt -> R (Option Int)
def oNone : ExO := fun _ => .ok none
def oSome (f : Ex) : ExO := fun st => (f st).bind fun x => inI x fun i => .ok (some i)
def dSl (x : D) (lo hi : Option Int) : R D := match x with
 | .lst xs => .ok (.lst (cut xs lo hi))
 | .str xs => guardR (xs.length <= big) (.ok (.str (cut xs lo hi)))
 | _ => .bad
def eSl (f : Ex) (lo hi : ExO) : Ex := fun st => (f st).bind fun x => (lo st).bind fun l => (hi st).bind fun h => dSl x l h
abbrev ItE := PSt -> R (List D)
def itE (f : Ex) : ItE := fun st => (f st).bind fun x => match x with
 | .lst xs => .ok xs
 | .tup xs => .ok xs
 | .str xs => guardR (xs.length <= big) (.ok (xs.map fun c => .str [c]))
 | _ => .bad
def rangeD (lo : Int) (n : Nat) : List D := (List.range n).map fun (k : Nat) => .int (lo + (k : Int))
def itR1 (f : Ex) : ItE := fun st => (f st).bind fun x => inI x fun j => guardR (-(big : Int) <= j /\ j <= (big : Int)) (.ok (rangeD 0 j.toNat))
abbrev Tg := D -> PSt -> R PSt
def tgN (i : Nat) : Tg := fun d st => .ok (st.set i (some (.v d)))
def setAll : List Nat -> List D -> PSt -> R PSt
 | [], [], st => .ok st
 | i :: is, d :: ds, st => setAll is ds (st.set i (some (.v d)))
 | _, _, _ => .bad
def tgT (is : List Nat) : Tg := fun d st => match d with
 | .tup xs => setAll is xs st
 | .lst xs => setAll is xs st
 | _ => .bad
def compR (tg : Tg) (c f : Ex) (st : PSt) : List D -> R (List D)
 | [] => .ok []
 | d :: ds => (tg d st).bind fun s1 => (c s1).bind fun x => onB x fun b => if b = true then (f s1).bind fun y => (compR tg c f st ds).bind fun ys => .ok (y :: ys) else compR tg c f st ds
def clr (is : List Nat) (st : PSt) : PSt := is.foldl (fun s i => s.set i none) st
def eComp (is : List Nat) (tg : Tg) (it : ItE) (c f : Ex) : Ex := fun st => (it st).bind fun xs => guardR (xs.length <= big) ((compR tg c f (clr is st) xs).bind fun ys => .ok (.lst ys))
def eTrue : Ex := fun _ => .ok (.bl true)
def onNx (r : R Fl) (f : PSt -> R Fl) : R Fl := r.bind fun x => match x with
 | .nx st => f st
 | .rt d => .ok (.rt d)
 | .bk st => .ok (.bk st)
 | .ct st => .ok (.ct st)
def sNext : Bd := fun st => .ok (.nx st)
def sSeq (a b : Bd) : Bd := fun st => onNx (a st) b
def sSet (i : Nat) (f : Ex) : Bd := fun st => (f st).bind fun d => .ok (.nx (st.set i (some (.v d))))
def sSetO (i : Nat) (f : Ex) : Bd := fun st => (f st).bind fun d => match d with
 | .lst xs => .ok (.nx (st.set i (some (.o .l xs))))
 | _ => .bad
def sApp (i : Nat) (f : Ex) : Bd := fun st => (f st).bind fun d => match st[i]? with
 | some (some (.o .l xs)) => guardR (xs.length < big) (.ok (.nx (st.set i (some (.o .l (xs ++ [d]))))))
 | _ => .bad
def fz1 (st : PSt) (i : Nat) : PSt := match st[i]? with
 | some (some (.o k xs)) => st.set i (some (.v (ofK k xs)))
 | _ => st
def sFz (is : List Nat) (b : Bd) : Bd := fun st => b (is.foldl fz1 st)
def sRet (f : Ex) : Bd := fun st => (f st).bind fun d => .ok (.rt d)
def sIf (c : Ex) (a b : Bd) : Bd := fun st => (c st).bind fun x => onB x fun q => if q = true then a st else b st
def forR (tg : Tg) (body : Bd) : List D -> PSt -> R Fl
 | [], st => .ok (.nx st)
 | d :: ds, st => (tg d st).bind fun s1 => (body s1).bind fun x => match x with
  | .nx s2 => forR tg body ds s2
  | .ct s2 => forR tg body ds s2
  | .bk s2 => .ok (.nx s2)
  | .rt v => .ok (.rt v)
def sFor (tg : Tg) (it : ItE) (body : Bd) : Bd := fun st => (it st).bind fun xs => forR tg body xs st
def runD (np n : Nat) (b : Bd) (ds : List D) : R D :=
 guardR (ds.length = np) ((b (ds.map (fun d => some (.v d)) ++ List.replicate (n - np) none)).bind fun x => match x with
  | .nx _ => .ok .non
  | .rt d => .ok d
  | _ => .bad)
def runI1 (c : String) (np n : Nat) (b : Bd) (x : Nat) (ds : List D) : R D :=
 guardR (ds.length = np) ((b (some (.o (.i x c []) []) :: (ds.map (fun d => some (.v d)) ++ List.replicate (n - np - 1) none))).bind fun (fl : Fl) => match fl with
  | .nx st => (match (st[0]? : Option (Option Sl)) with
   | some (some (.o (.i y c' ns) xs)) => guardR (y = x) (.ok (.ins c' ns xs))
   | _ => .bad)
  | _ => .bad)
open Classical in
def runI (c : String) (np n : Nat) (b : Bd) (ds : List D) : R D := if h : ∃ d, ∀ x, runI1 c np n b x ds = .ok d then .ok (choose h) else .bad
theorem runI_of {c : String} {np n : Nat} {b : Bd} {ds : List D} {d : D} (h : runI c np n b ds = .ok d) (x : Nat) : runI1 c np n b x ds = .ok d := by
 unfold runI at h
 split at h
 ·rename_i e
  have := Classical.choose_spec e x
  rw [this]
  exact h
 ·cases h
end
end Pu
namespace Pu
@[simp] theorem bg0 : 0 <= big := le_big (by decide)
@[simp] theorem bl0 : 0 < big := lt_big (by decide)
@[simp] theorem bi0 : (0 : Int) <= (big : Int) := le_bigI (by decide)
@[simp] theorem bj0 : -(big : Int) <= (0 : Int) := ge_bigI (by decide)
@[simp] theorem bg1 : 1 <= big := le_big (by decide)
@[simp] theorem bl1 : 1 < big := lt_big (by decide)
@[simp] theorem bi1 : (1 : Int) <= (big : Int) := le_bigI (by decide)
@[simp] theorem bj1 : -(big : Int) <= (1 : Int) := ge_bigI (by decide)
@[simp] theorem bg2 : 2 <= big := le_big (by decide)
@[simp] theorem bl2 : 2 < big := lt_big (by decide)
@[simp] theorem bi2 : (2 : Int) <= (big : Int) := le_bigI (by decide)
@[simp] theorem bj2 : -(big : Int) <= (2 : Int) := ge_bigI (by decide)
@[simp] theorem bg3 : 3 <= big := le_big (by decide)
@[simp] theorem bl3 : 3 < big := lt_big (by decide)
@[simp] theorem bi3 : (3 : Int) <= (big : Int) := le_bigI (by decide)
@[simp] theorem bj3 : -(big : Int) <= (3 : Int) := ge_bigI (by decide)
@[simp] theorem bg4 : 4 <= big := le_big (by decide)
@[simp] theorem bl4 : 4 < big := lt_big (by decide)
@[simp] theorem bi4 : (4 : Int) <= (big : Int) := le_bigI (by decide)
@[simp] theorem bj4 : -(big : Int) <= (4 : Int) := ge_bigI (by decide)
@[simp] theorem bg5 : 5 <= big := le_big (by decide)
@[simp] theorem bl5 : 5 < big := lt_big (by decide)
@[simp] theorem bi5 : (5 : Int) <= (big : Int) := le_bigI (by decide)
@[simp] theorem bj5 : -(big : Int) <= (5 : Int) := ge_bigI (by decide)
@[simp] theorem bg6 : 6 <= big := le_big (by decide)
@[simp] theorem bl6 : 6 < big := lt_big (by decide)
@[simp] theorem bi6 : (6 : Int) <= (big : Int) := le_bigI (by decide)
@[simp] theorem bj6 : -(big : Int) <= (6 : Int) := ge_bigI (by decide)
@[simp] theorem bg7 : 7 <= big := le_big (by decide)
@[simp] theorem bl7 : 7 < big := lt_big (by decide)
@[simp] theorem bi7 : (7 : Int) <= (big : Int) := le_bigI (by decide)
@[simp] theorem bj7 : -(big : Int) <= (7 : Int) := ge_bigI (by decide)
@[simp] theorem bg8 : 8 <= big := le_big (by decide)
@[simp] theorem bl8 : 8 < big := lt_big (by decide)
@[simp] theorem bi8 : (8 : Int) <= (big : Int) := le_bigI (by decide)
@[simp] theorem bj8 : -(big : Int) <= (8 : Int) := ge_bigI (by decide)
@[simp] theorem bg9 : 9 <= big := le_big (by decide)
@[simp] theorem bl9 : 9 < big := lt_big (by decide)
@[simp] theorem bi9 : (9 : Int) <= (big : Int) := le_bigI (by decide)
@[simp] theorem bj9 : -(big : Int) <= (9 : Int) := ge_bigI (by decide)
@[simp] theorem bg10 : 10 <= big := le_big (by decide)
@[simp] theorem bl10 : 10 < big := lt_big (by decide)
@[simp] theorem bi10 : (10 : Int) <= (big : Int) := le_bigI (by decide)
@[simp] theorem bj10 : -(big : Int) <= (10 : Int) := ge_bigI (by decide)
@[simp] theorem bg11 : 11 <= big := le_big (by decide)
@[simp] theorem bl11 : 11 < big := lt_big (by decide)
@[simp] theorem bi11 : (11 : Int) <= (big : Int) := le_bigI (by decide)
@[simp] theorem bj11 : -(big : Int) <= (11 : Int) := ge_bigI (by decide)
@[simp] theorem bg12 : 12 <= big := le_big (by decide)
@[simp] theorem bl12 : 12 < big := lt_big (by decide)
@[simp] theorem bi12 : (12 : Int) <= (big : Int) := le_bigI (by decide)
@[simp] theorem bj12 : -(big : Int) <= (12 : Int) := ge_bigI (by decide)
@[simp] theorem bg13 : 13 <= big := le_big (by decide)
@[simp] theorem bl13 : 13 < big := lt_big (by decide)
@[simp] theorem bi13 : (13 : Int) <= (big : Int) := le_bigI (by decide)
@[simp] theorem bj13 : -(big : Int) <= (13 : Int) := ge_bigI (by decide)
@[simp] theorem bg14 : 14 <= big := le_big (by decide)
@[simp] theorem bl14 : 14 < big := lt_big (by decide)
@[simp] theorem bi14 : (14 : Int) <= (big : Int) := le_bigI (by decide)
@[simp] theorem bj14 : -(big : Int) <= (14 : Int) := ge_bigI (by decide)
@[simp] theorem bg15 : 15 <= big := le_big (by decide)
@[simp] theorem bl15 : 15 < big := lt_big (by decide)
@[simp] theorem bi15 : (15 : Int) <= (big : Int) := le_bigI (by decide)
@[simp] theorem bj15 : -(big : Int) <= (15 : Int) := ge_bigI (by decide)
@[simp] theorem bg16 : 16 <= big := le_big (by decide)
@[simp] theorem bl16 : 16 < big := lt_big (by decide)
@[simp] theorem bi16 : (16 : Int) <= (big : Int) := le_bigI (by decide)
@[simp] theorem bj16 : -(big : Int) <= (16 : Int) := ge_bigI (by decide)
@[simp] theorem bg17 : 17 <= big := le_big (by decide)
@[simp] theorem bl17 : 17 < big := lt_big (by decide)
@[simp] theorem bi17 : (17 : Int) <= (big : Int) := le_bigI (by decide)
@[simp] theorem bj17 : -(big : Int) <= (17 : Int) := ge_bigI (by decide)
@[simp] theorem bg18 : 18 <= big := le_big (by decide)
@[simp] theorem bl18 : 18 < big := lt_big (by decide)
@[simp] theorem bi18 : (18 : Int) <= (big : Int) := le_bigI (by decide)
@[simp] theorem bj18 : -(big : Int) <= (18 : Int) := ge_bigI (by decide)
@[simp] theorem bg19 : 19 <= big := le_big (by decide)
@[simp] theorem bl19 : 19 < big := lt_big (by decide)
@[simp] theorem bi19 : (19 : Int) <= (big : Int) := le_bigI (by decide)
@[simp] theorem bj19 : -(big : Int) <= (19 : Int) := ge_bigI (by decide)
@[simp] theorem bg20 : 20 <= big := le_big (by decide)
@[simp] theorem bl20 : 20 < big := lt_big (by decide)
@[simp] theorem bi20 : (20 : Int) <= (big : Int) := le_bigI (by decide)
@[simp] theorem bj20 : -(big : Int) <= (20 : Int) := ge_bigI (by decide)
@[simp] theorem bg21 : 21 <= big := le_big (by decide)
@[simp] theorem bl21 : 21 < big := lt_big (by decide)
@[simp] theorem bi21 : (21 : Int) <= (big : Int) := le_bigI (by decide)
@[simp] theorem bj21 : -(big : Int) <= (21 : Int) := ge_bigI (by decide)
@[simp] theorem bg22 : 22 <= big := le_big (by decide)
@[simp] theorem bl22 : 22 < big := lt_big (by decide)
@[simp] theorem bi22 : (22 : Int) <= (big : Int) := le_bigI (by decide)
@[simp] theorem bj22 : -(big : Int) <= (22 : Int) := ge_bigI (by decide)
@[simp] theorem bg23 : 23 <= big := le_big (by decide)
@[simp] theorem bl23 : 23 < big := lt_big (by decide)
@[simp] theorem bi23 : (23 : Int) <= (big : Int) := le_bigI (by decide)
@[simp] theorem bj23 : -(big : Int) <= (23 : Int) := ge_bigI (by decide)
@[simp] theorem bg24 : 24 <= big := le_big (by decide)
@[simp] theorem bl24 : 24 < big := lt_big (by decide)
@[simp] theorem bi24 : (24 : Int) <= (big : Int) := le_bigI (by decide)
@[simp] theorem bj24 : -(big : Int) <= (24 : Int) := ge_bigI (by decide)
@[simp] theorem bg25 : 25 <= big := le_big (by decide)
@[simp] theorem bl25 : 25 < big := lt_big (by decide)
@[simp] theorem bi25 : (25 : Int) <= (big : Int) := le_bigI (by decide)
@[simp] theorem bj25 : -(big : Int) <= (25 : Int) := ge_bigI (by decide)
@[simp] theorem bg26 : 26 <= big := le_big (by decide)
@[simp] theorem bl26 : 26 < big := lt_big (by decide)
@[simp] theorem bi26 : (26 : Int) <= (big : Int) := le_bigI (by decide)
@[simp] theorem bj26 : -(big : Int) <= (26 : Int) := ge_bigI (by decide)
@[simp] theorem bg27 : 27 <= big := le_big (by decide)
@[simp] theorem bl27 : 27 < big := lt_big (by decide)
@[simp] theorem bi27 : (27 : Int) <= (big : Int) := le_bigI (by decide)
@[simp] theorem bj27 : -(big : Int) <= (27 : Int) := ge_bigI (by decide)
@[simp] theorem bg28 : 28 <= big := le_big (by decide)
@[simp] theorem bl28 : 28 < big := lt_big (by decide)
@[simp] theorem bi28 : (28 : Int) <= (big : Int) := le_bigI (by decide)
@[simp] theorem bj28 : -(big : Int) <= (28 : Int) := ge_bigI (by decide)
@[simp] theorem bg29 : 29 <= big := le_big (by decide)
@[simp] theorem bl29 : 29 < big := lt_big (by decide)
@[simp] theorem bi29 : (29 : Int) <= (big : Int) := le_bigI (by decide)
@[simp] theorem bj29 : -(big : Int) <= (29 : Int) := ge_bigI (by decide)
@[simp] theorem bg30 : 30 <= big := le_big (by decide)
@[simp] theorem bl30 : 30 < big := lt_big (by decide)
@[simp] theorem bi30 : (30 : Int) <= (big : Int) := le_bigI (by decide)
@[simp] theorem bj30 : -(big : Int) <= (30 : Int) := ge_bigI (by decide)
@[simp] theorem bg31 : 31 <= big := le_big (by decide)
@[simp] theorem bl31 : 31 < big := lt_big (by decide)
@[simp] theorem bi31 : (31 : Int) <= (big : Int) := le_bigI (by decide)
@[simp] theorem bj31 : -(big : Int) <= (31 : Int) := ge_bigI (by decide)
@[simp] theorem bg32 : 32 <= big := le_big (by decide)
@[simp] theorem bl32 : 32 < big := lt_big (by decide)
@[simp] theorem bi32 : (32 : Int) <= (big : Int) := le_bigI (by decide)
@[simp] theorem bj32 : -(big : Int) <= (32 : Int) := ge_bigI (by decide)
@[simp] theorem bg33 : 33 <= big := le_big (by decide)
@[simp] theorem bl33 : 33 < big := lt_big (by decide)
@[simp] theorem bi33 : (33 : Int) <= (big : Int) := le_bigI (by decide)
@[simp] theorem bj33 : -(big : Int) <= (33 : Int) := ge_bigI (by decide)
@[simp] theorem bg34 : 34 <= big := le_big (by decide)
@[simp] theorem bl34 : 34 < big := lt_big (by decide)
@[simp] theorem bi34 : (34 : Int) <= (big : Int) := le_bigI (by decide)
@[simp] theorem bj34 : -(big : Int) <= (34 : Int) := ge_bigI (by decide)
@[simp] theorem bg35 : 35 <= big := le_big (by decide)
@[simp] theorem bl35 : 35 < big := lt_big (by decide)
@[simp] theorem bi35 : (35 : Int) <= (big : Int) := le_bigI (by decide)
@[simp] theorem bj35 : -(big : Int) <= (35 : Int) := ge_bigI (by decide)
@[simp] theorem bg36 : 36 <= big := le_big (by decide)
@[simp] theorem bl36 : 36 < big := lt_big (by decide)
@[simp] theorem bi36 : (36 : Int) <= (big : Int) := le_bigI (by decide)
@[simp] theorem bj36 : -(big : Int) <= (36 : Int) := ge_bigI (by decide)
@[simp] theorem bg37 : 37 <= big := le_big (by decide)
@[simp] theorem bl37 : 37 < big := lt_big (by decide)
@[simp] theorem bi37 : (37 : Int) <= (big : Int) := le_bigI (by decide)
@[simp] theorem bj37 : -(big : Int) <= (37 : Int) := ge_bigI (by decide)
@[simp] theorem bg38 : 38 <= big := le_big (by decide)
@[simp] theorem bl38 : 38 < big := lt_big (by decide)
@[simp] theorem bi38 : (38 : Int) <= (big : Int) := le_bigI (by decide)
@[simp] theorem bj38 : -(big : Int) <= (38 : Int) := ge_bigI (by decide)
@[simp] theorem bg39 : 39 <= big := le_big (by decide)
@[simp] theorem bl39 : 39 < big := lt_big (by decide)
@[simp] theorem bi39 : (39 : Int) <= (big : Int) := le_bigI (by decide)
@[simp] theorem bj39 : -(big : Int) <= (39 : Int) := ge_bigI (by decide)
@[simp] theorem bg40 : 40 <= big := le_big (by decide)
@[simp] theorem bl40 : 40 < big := lt_big (by decide)
@[simp] theorem bi40 : (40 : Int) <= (big : Int) := le_bigI (by decide)
@[simp] theorem bj40 : -(big : Int) <= (40 : Int) := ge_bigI (by decide)
@[simp] theorem bg41 : 41 <= big := le_big (by decide)
@[simp] theorem bl41 : 41 < big := lt_big (by decide)
@[simp] theorem bi41 : (41 : Int) <= (big : Int) := le_bigI (by decide)
@[simp] theorem bj41 : -(big : Int) <= (41 : Int) := ge_bigI (by decide)
@[simp] theorem bg42 : 42 <= big := le_big (by decide)
@[simp] theorem bl42 : 42 < big := lt_big (by decide)
@[simp] theorem bi42 : (42 : Int) <= (big : Int) := le_bigI (by decide)
@[simp] theorem bj42 : -(big : Int) <= (42 : Int) := ge_bigI (by decide)
@[simp] theorem bg43 : 43 <= big := le_big (by decide)
@[simp] theorem bl43 : 43 < big := lt_big (by decide)
@[simp] theorem bi43 : (43 : Int) <= (big : Int) := le_bigI (by decide)
@[simp] theorem bj43 : -(big : Int) <= (43 : Int) := ge_bigI (by decide)
@[simp] theorem bg44 : 44 <= big := le_big (by decide)
@[simp] theorem bl44 : 44 < big := lt_big (by decide)
@[simp] theorem bi44 : (44 : Int) <= (big : Int) := le_bigI (by decide)
@[simp] theorem bj44 : -(big : Int) <= (44 : Int) := ge_bigI (by decide)
@[simp] theorem bg45 : 45 <= big := le_big (by decide)
@[simp] theorem bl45 : 45 < big := lt_big (by decide)
@[simp] theorem bi45 : (45 : Int) <= (big : Int) := le_bigI (by decide)
@[simp] theorem bj45 : -(big : Int) <= (45 : Int) := ge_bigI (by decide)
@[simp] theorem bg46 : 46 <= big := le_big (by decide)
@[simp] theorem bl46 : 46 < big := lt_big (by decide)
@[simp] theorem bi46 : (46 : Int) <= (big : Int) := le_bigI (by decide)
@[simp] theorem bj46 : -(big : Int) <= (46 : Int) := ge_bigI (by decide)
@[simp] theorem bg47 : 47 <= big := le_big (by decide)
@[simp] theorem bl47 : 47 < big := lt_big (by decide)
@[simp] theorem bi47 : (47 : Int) <= (big : Int) := le_bigI (by decide)
@[simp] theorem bj47 : -(big : Int) <= (47 : Int) := ge_bigI (by decide)
@[simp] theorem bg48 : 48 <= big := le_big (by decide)
@[simp] theorem bl48 : 48 < big := lt_big (by decide)
@[simp] theorem bi48 : (48 : Int) <= (big : Int) := le_bigI (by decide)
@[simp] theorem bj48 : -(big : Int) <= (48 : Int) := ge_bigI (by decide)
@[simp] theorem bg49 : 49 <= big := le_big (by decide)
@[simp] theorem bl49 : 49 < big := lt_big (by decide)
@[simp] theorem bi49 : (49 : Int) <= (big : Int) := le_bigI (by decide)
@[simp] theorem bj49 : -(big : Int) <= (49 : Int) := ge_bigI (by decide)
@[simp] theorem bg50 : 50 <= big := le_big (by decide)
@[simp] theorem bl50 : 50 < big := lt_big (by decide)
@[simp] theorem bi50 : (50 : Int) <= (big : Int) := le_bigI (by decide)
@[simp] theorem bj50 : -(big : Int) <= (50 : Int) := ge_bigI (by decide)
@[simp] theorem bg51 : 51 <= big := le_big (by decide)
@[simp] theorem bl51 : 51 < big := lt_big (by decide)
@[simp] theorem bi51 : (51 : Int) <= (big : Int) := le_bigI (by decide)
@[simp] theorem bj51 : -(big : Int) <= (51 : Int) := ge_bigI (by decide)
@[simp] theorem bg52 : 52 <= big := le_big (by decide)
@[simp] theorem bl52 : 52 < big := lt_big (by decide)
@[simp] theorem bi52 : (52 : Int) <= (big : Int) := le_bigI (by decide)
@[simp] theorem bj52 : -(big : Int) <= (52 : Int) := ge_bigI (by decide)
@[simp] theorem bg53 : 53 <= big := le_big (by decide)
@[simp] theorem bl53 : 53 < big := lt_big (by decide)
@[simp] theorem bi53 : (53 : Int) <= (big : Int) := le_bigI (by decide)
@[simp] theorem bj53 : -(big : Int) <= (53 : Int) := ge_bigI (by decide)
@[simp] theorem bg54 : 54 <= big := le_big (by decide)
@[simp] theorem bl54 : 54 < big := lt_big (by decide)
@[simp] theorem bi54 : (54 : Int) <= (big : Int) := le_bigI (by decide)
@[simp] theorem bj54 : -(big : Int) <= (54 : Int) := ge_bigI (by decide)
@[simp] theorem bg55 : 55 <= big := le_big (by decide)
@[simp] theorem bl55 : 55 < big := lt_big (by decide)
@[simp] theorem bi55 : (55 : Int) <= (big : Int) := le_bigI (by decide)
@[simp] theorem bj55 : -(big : Int) <= (55 : Int) := ge_bigI (by decide)
@[simp] theorem bg56 : 56 <= big := le_big (by decide)
@[simp] theorem bl56 : 56 < big := lt_big (by decide)
@[simp] theorem bi56 : (56 : Int) <= (big : Int) := le_bigI (by decide)
@[simp] theorem bj56 : -(big : Int) <= (56 : Int) := ge_bigI (by decide)
@[simp] theorem bg57 : 57 <= big := le_big (by decide)
@[simp] theorem bl57 : 57 < big := lt_big (by decide)
@[simp] theorem bi57 : (57 : Int) <= (big : Int) := le_bigI (by decide)
@[simp] theorem bj57 : -(big : Int) <= (57 : Int) := ge_bigI (by decide)
@[simp] theorem bg58 : 58 <= big := le_big (by decide)
@[simp] theorem bl58 : 58 < big := lt_big (by decide)
@[simp] theorem bi58 : (58 : Int) <= (big : Int) := le_bigI (by decide)
@[simp] theorem bj58 : -(big : Int) <= (58 : Int) := ge_bigI (by decide)
@[simp] theorem bg59 : 59 <= big := le_big (by decide)
@[simp] theorem bl59 : 59 < big := lt_big (by decide)
@[simp] theorem bi59 : (59 : Int) <= (big : Int) := le_bigI (by decide)
@[simp] theorem bj59 : -(big : Int) <= (59 : Int) := ge_bigI (by decide)
@[simp] theorem bg60 : 60 <= big := le_big (by decide)
@[simp] theorem bl60 : 60 < big := lt_big (by decide)
@[simp] theorem bi60 : (60 : Int) <= (big : Int) := le_bigI (by decide)
@[simp] theorem bj60 : -(big : Int) <= (60 : Int) := ge_bigI (by decide)
@[simp] theorem bg61 : 61 <= big := le_big (by decide)
@[simp] theorem bl61 : 61 < big := lt_big (by decide)
@[simp] theorem bi61 : (61 : Int) <= (big : Int) := le_bigI (by decide)
@[simp] theorem bj61 : -(big : Int) <= (61 : Int) := ge_bigI (by decide)
@[simp] theorem bg62 : 62 <= big := le_big (by decide)
@[simp] theorem bl62 : 62 < big := lt_big (by decide)
@[simp] theorem bi62 : (62 : Int) <= (big : Int) := le_bigI (by decide)
@[simp] theorem bj62 : -(big : Int) <= (62 : Int) := ge_bigI (by decide)
@[simp] theorem bg63 : 63 <= big := le_big (by decide)
@[simp] theorem bl63 : 63 < big := lt_big (by decide)
@[simp] theorem bi63 : (63 : Int) <= (big : Int) := le_bigI (by decide)
@[simp] theorem bj63 : -(big : Int) <= (63 : Int) := ge_bigI (by decide)
@[simp] theorem bg64 : 64 <= big := le_big (by decide)
@[simp] theorem bl64 : 64 < big := lt_big (by decide)
@[simp] theorem bi64 : (64 : Int) <= (big : Int) := le_bigI (by decide)
@[simp] theorem bj64 : -(big : Int) <= (64 : Int) := ge_bigI (by decide)
@[simp] theorem bind_ok' {α β : Type} (a : α) (f : α -> R β) : (R.ok a).bind f = f a := rfl
@[simp] theorem bind_bad' {α β : Type} (f : α -> R β) : (R.bad : R α).bind f = .bad := rfl
@[simp] theorem onB_bl {α : Type} (b : Bool) (f : Bool -> R α) : onB (.bl b) f = f b := rfl
@[simp] theorem inI_int {α : Type} (i : Int) (f : Int -> R α) : inI (.int i) f = f i := rfl
@[simp] theorem onNx_nx (st : PSt) (f : PSt -> R Fl) : onNx (.ok (.nx st)) f = f st := rfl
@[simp] theorem onNx_rt (d : D) (f : PSt -> R Fl) : onNx (.ok (.rt d)) f = .ok (.rt d) := rfl
@[simp] theorem eVar_ap (i : Nat) (st : PSt) : eVar i st = (match st[i]? with | some (some (.v d)) => R.ok d | _ => .bad) := rfl
@[simp] theorem eC_ap (d : D) (st : PSt) : eC d st = .ok d := rfl
@[simp] theorem e2_ap (op : Op2) (f g : Ex) (st : PSt) : e2 op f g st = (f st).bind fun x => (g st).bind fun y => op x y := rfl
@[simp] theorem e1_ap (op : D -> R D) (f : Ex) (st : PSt) : e1 op f st = (f st).bind op := rfl
@[simp] theorem eOr_ap (f g : Ex) (st : PSt) : eOr f g st = (f st).bind fun x => onB x fun b => if b = true then .ok (.bl true) else g st := rfl
@[simp] theorem eNot_ap (f : Ex) (st : PSt) : eNot f st = (f st).bind fun x => onB x fun b => .ok (.bl (!b)) := rfl
@[simp] theorem aNil_ap (st : PSt) : aNil st = .ok [] := rfl
@[simp] theorem aCons_ap (f : Ex) (r : Exs) (st : PSt) : aCons f r st = (f st).bind fun x => (r st).bind fun xs => .ok (x :: xs) := rfl
@[simp] theorem eTup_ap (r : Exs) (st : PSt) : eTup r st = (r st).bind fun xs => guardR (xs.length <= big) (.ok (.tup xs)) := rfl
@[simp] theorem eLst_ap (r : Exs) (st : PSt) : eLst r st = (r st).bind fun xs => guardR (xs.length <= big) (.ok (.lst xs)) := rfl
@[simp] theorem eCall_ap (p : List D -> R D) (r : Exs) (st : PSt) : eCall p r st = (r st).bind p := rfl
@[simp] theorem oNone_ap (st : PSt) : oNone st = .ok none := rfl
@[simp] theorem oSome_ap (f : Ex) (st : PSt) : oSome f st = (f st).bind fun x => inI x fun i => .ok (some i) := rfl
@[simp] theorem eSl_ap (f : Ex) (lo hi : ExO) (st : PSt) : eSl f lo hi st = (f st).bind fun x => (lo st).bind fun l => (hi st).bind fun h => dSl x l h := rfl
@[simp] theorem itR1_ap (f : Ex) (st : PSt) : itR1 f st = (f st).bind fun x => inI x fun j => guardR (-(big : Int) <= j /\ j <= (big : Int)) (.ok (rangeD 0 j.toNat)) := rfl
@[simp] theorem forR_nil (tg : Tg) (b : Bd) (st : PSt) : forR tg b [] st = .ok (.nx st) := rfl
theorem forR_cons (tg : Tg) (b : Bd) (d : D) (ds : List D) (st : PSt) : forR tg b (d :: ds) st = (tg d st).bind fun s1 => (b s1).bind fun x => match x with
  | .nx s2 => forR tg b ds s2
  | .ct s2 => forR tg b ds s2
  | .bk s2 => .ok (.nx s2)
  | .rt v => .ok (.rt v) := rfl
@[simp] theorem itE_ap (f : Ex) (st : PSt) : itE f st = (f st).bind fun x => match x with | .lst xs => .ok xs | .tup xs => .ok xs | .str xs => guardR (xs.length <= big) (.ok (xs.map fun c => .str [c])) | _ => .bad := rfl
@[simp] theorem sApp_ap (i : Nat) (f : Ex) (st : PSt) : sApp i f st = (f st).bind fun d => match st[i]? with | some (some (.o .l xs)) => guardR (xs.length < big) (.ok (.nx (st.set i (some (.o .l (xs ++ [d])))))) | _ => .bad := rfl
@[simp] theorem sSetO_ap (i : Nat) (f : Ex) (st : PSt) : sSetO i f st = (f st).bind fun d => match d with | .lst xs => .ok (.nx (st.set i (some (.o .l xs)))) | _ => .bad := rfl
@[simp] theorem dIx_dct (t : Bool) (ks vs : List D) (k : D) : dIx (.dct t ks vs) k = guardR (keyOk t k = true) (ofO (getK ks vs k)) := by cases k <;> rfl
@[simp] theorem sFz_ap (is : List Nat) (b : Bd) (st : PSt) : sFz is b st = b (is.foldl fz1 st) := rfl
@[simp] theorem fz1_ap (st : PSt) (i : Nat) : fz1 st i = (match st[i]? with | some (some (.o k xs)) => st.set i (some (.v (ofK k xs))) | _ => st) := rfl
@[simp] theorem onNx_bk (st : PSt) (f : PSt -> R Fl) : onNx (.ok (.bk st)) f = .ok (.bk st) := rfl
@[simp] theorem onNx_ct (st : PSt) (f : PSt -> R Fl) : onNx (.ok (.ct st)) f = .ok (.ct st) := rfl
@[simp] theorem onNx_bad (f : PSt -> R Fl) : onNx .bad f = .bad := rfl
@[simp] theorem dAdd_lst (x y : List D) : dAdd (.lst x) (.lst y) = guardR (x.length + y.length <= big) (.ok (.lst (x ++ y))) := rfl
@[simp] theorem dSl_lst (x : List D) (l h : Option Int) : dSl (.lst x) l h = .ok (.lst (cut x l h)) := rfl
@[simp] theorem tgN_ap (i : Nat) (d : D) (st : PSt) : tgN i d st = .ok (st.set i (some (.v d))) := rfl
@[simp] theorem tgT_ap (is : List Nat) (xs : List D) (st : PSt) : tgT is (.tup xs) st = setAll is xs st := rfl
@[simp] theorem tgT_apL (is : List Nat) (xs : List D) (st : PSt) : tgT is (.lst xs) st = setAll is xs st := rfl
@[simp] theorem setAll_nil (st : PSt) : setAll [] [] st = .ok st := rfl
@[simp] theorem setAll_cons (i : Nat) (is : List Nat) (d : D) (ds : List D) (st : PSt) : setAll (i :: is) (d :: ds) st = setAll is ds (st.set i (some (.v d))) := rfl
@[simp] theorem clr_nil (st : PSt) : clr [] st = st := rfl
@[simp] theorem clr_cons (i : Nat) (is : List Nat) (st : PSt) : clr (i :: is) st = clr is (st.set i none) := rfl
@[simp] theorem compR_nil (tg : Tg) (c f : Ex) (st : PSt) : compR tg c f st [] = .ok [] := rfl
theorem compR_cons (tg : Tg) (c f : Ex) (st : PSt) (d : D) (ds : List D) : compR tg c f st (d :: ds) = (tg d st).bind fun s1 => (c s1).bind fun x => onB x fun b => if b = true then (f s1).bind fun y => (compR tg c f st ds).bind fun ys => .ok (y :: ys) else compR tg c f st ds := rfl
@[simp] theorem eTrue_ap (st : PSt) : eTrue st = .ok (.bl true) := rfl
@[simp] theorem eComp_ap (is : List Nat) (tg : Tg) (it : ItE) (c f : Ex) (st : PSt) : eComp is tg it c f st = (it st).bind fun xs => guardR (xs.length <= big) ((compR tg c f (clr is st) xs).bind fun ys => .ok (.lst ys)) := rfl
@[simp] theorem sNext_ap (st : PSt) : sNext st = .ok (.nx st) := rfl
@[simp] theorem sSeq_ap (a b : Bd) (st : PSt) : sSeq a b st = onNx (a st) b := rfl
@[simp] theorem sSet_ap (i : Nat) (f : Ex) (st : PSt) : sSet i f st = (f st).bind fun d => .ok (.nx (st.set i (some (.v d)))) := rfl
@[simp] theorem sRet_ap (f : Ex) (st : PSt) : sRet f st = (f st).bind fun d => .ok (.rt d) := rfl
@[simp] theorem sIf_ap (c : Ex) (a b : Bd) (st : PSt) : sIf c a b st = (c st).bind fun x => onB x fun q => if q = true then a st else b st := rfl
@[simp] theorem sFor_ap (tg : Tg) (it : ItE) (body : Bd) (st : PSt) : sFor tg it body st = (it st).bind fun xs => forR tg body xs st := rfl
@[simp] theorem dAdd_int (i j : Int) : dAdd (.int i) (.int j) = .ok (.int (i + j)) := rfl
@[simp] theorem dAdd_str (x y : List Nat) : dAdd (.str x) (.str y) = guardR (x.length + y.length <= big) (.ok (.str (x ++ y))) := rfl
@[simp] theorem dFdiv_int (i j : Int) : dFdiv (.int i) (.int j) = guardR (0 < j /\ j < 1073741824) (.ok (.int (i / j))) := rfl
@[simp] theorem dMod_int (i j : Int) : dMod (.int i) (.int j) = guardR (0 < j) (.ok (.int (i % j))) := rfl
@[simp] theorem dLt_int (i j : Int) : dLt (.int i) (.int j) = .ok (.bl (decide (i < j))) := rfl
@[simp] theorem dLt_str (s t : List Nat) : dLt (.str s) (.str t) = .ok (.bl (decide (s < t))) := rfl
@[simp] theorem dLt_tup (x y : List D) : dLt (.tup x) (.tup y) = guardR (deps x <= 60 /\ plains x = true /\ plains y = true) ((lexD x y).bind fun b => .ok (.bl b)) := rfl
@[simp] theorem dEq_ap (x y : D) : dEq x y = guardR (dep x <= 64 /\ plain x = true /\ plain y = true) (.ok (.bl (eqD x y))) := rfl
@[simp] theorem dNe_ap (x y : D) : dNe x y = guardR (dep x <= 64 /\ plain x = true /\ plain y = true) (.ok (.bl (!eqD x y))) := rfl
@[simp] theorem dep_non : dep .non = 0 := by unfold dep; rfl
@[simp] theorem dep_bl (b : Bool) : dep (.bl b) = 0 := by unfold dep; rfl
@[simp] theorem dep_int (i : Int) : dep (.int i) = 0 := by unfold dep; rfl
@[simp] theorem dep_str (s : List Nat) : dep (.str s) = 0 := by unfold dep; rfl
@[simp] theorem dep_tup (x : List D) : dep (.tup x) = deps x + 1 := by conv => lhs; unfold dep
@[simp] theorem dep_lst (x : List D) : dep (.lst x) = deps x + 1 := by conv => lhs; unfold dep
@[simp] theorem plain_non : plain .non = true := by unfold plain; rfl
@[simp] theorem plain_bl (b : Bool) : plain (.bl b) = true := by unfold plain; rfl
@[simp] theorem plain_int (i : Int) : plain (.int i) = true := by unfold plain; rfl
@[simp] theorem plain_str (s : List Nat) : plain (.str s) = true := by unfold plain; rfl
@[simp] theorem plain_tup (x : List D) : plain (.tup x) = plains x := by conv => lhs; unfold plain
@[simp] theorem plain_lst (x : List D) : plain (.lst x) = plains x := by conv => lhs; unfold plain
@[simp] theorem plain_dct (t : Bool) (k v : List D) : plain (.dct t k v) = false := by unfold plain; rfl
@[simp] theorem plain_ins (c : String) (n : List String) (v : List D) : plain (.ins c n v) = false := by unfold plain; rfl
@[simp] theorem plain_exn (c : String) (n : List String) (v : List D) : plain (.exn c n v) = false := by unfold plain; rfl
@[simp] theorem plains_nil : plains [] = true := by unfold plains; rfl
@[simp] theorem plains_cons (a : D) (x : List D) : plains (a :: x) = (plain a && plains x) := by conv => lhs; unfold plains
@[simp] theorem deps_nil : deps [] = 0 := by unfold deps; rfl
@[simp] theorem deps_cons (a : D) (x : List D) : deps (a :: x) = max (dep a) (deps x) := by conv => lhs; unfold deps
@[simp] theorem eqD_int (i j : Int) : eqD (.int i) (.int j) = (i == j) := by unfold eqD; rfl
@[simp] theorem eqD_str (i j : List Nat) : eqD (.str i) (.str j) = (i == j) := by unfold eqD; rfl
@[simp] theorem eqD_non_non : eqD .non .non = true := by unfold eqD; rfl
@[simp] theorem eqD_non_bl (b : Bool) : eqD .non (.bl b) = false := by unfold eqD; rfl
@[simp] theorem eqD_non_int (j : Int) : eqD .non (.int j) = false := by unfold eqD; rfl
@[simp] theorem eqD_non_str (t : List Nat) : eqD .non (.str t) = false := by unfold eqD; rfl
@[simp] theorem eqD_non_tup (y : List D) : eqD .non (.tup y) = false := by unfold eqD; rfl
@[simp] theorem eqD_non_lst (y : List D) : eqD .non (.lst y) = false := by unfold eqD; rfl
@[simp] theorem eqD_bl_non (a : Bool) : eqD (.bl a) .non = false := by unfold eqD; rfl
@[simp] theorem eqD_bl_bl (a : Bool) (b : Bool) : eqD (.bl a) (.bl b) = (a == b) := by unfold eqD; rfl
@[simp] theorem eqD_bl_int (a : Bool) (j : Int) : eqD (.bl a) (.int j) = ((if a then (1 : Int) else 0) == j) := by unfold eqD; rfl
@[simp] theorem eqD_bl_str (a : Bool) (t : List Nat) : eqD (.bl a) (.str t) = false := by unfold eqD; rfl
@[simp] theorem eqD_bl_tup (a : Bool) (y : List D) : eqD (.bl a) (.tup y) = false := by unfold eqD; rfl
@[simp] theorem eqD_bl_lst (a : Bool) (y : List D) : eqD (.bl a) (.lst y) = false := by unfold eqD; rfl
@[simp] theorem eqD_int_non (i : Int) : eqD (.int i) .non = false := by unfold eqD; rfl
@[simp] theorem eqD_int_bl (i : Int) (b : Bool) : eqD (.int i) (.bl b) = (i == (if b then (1 : Int) else 0)) := by unfold eqD; rfl
@[simp] theorem eqD_int_str (i : Int) (t : List Nat) : eqD (.int i) (.str t) = false := by unfold eqD; rfl
@[simp] theorem eqD_int_tup (i : Int) (y : List D) : eqD (.int i) (.tup y) = false := by unfold eqD; rfl
@[simp] theorem eqD_int_lst (i : Int) (y : List D) : eqD (.int i) (.lst y) = false := by unfold eqD; rfl
@[simp] theorem eqD_str_non (s : List Nat) : eqD (.str s) .non = false := by unfold eqD; rfl
@[simp] theorem eqD_str_bl (s : List Nat) (b : Bool) : eqD (.str s) (.bl b) = false := by unfold eqD; rfl
@[simp] theorem eqD_str_int (s : List Nat) (j : Int) : eqD (.str s) (.int j) = false := by unfold eqD; rfl
@[simp] theorem eqD_str_tup (s : List Nat) (y : List D) : eqD (.str s) (.tup y) = false := by unfold eqD; rfl
@[simp] theorem eqD_str_lst (s : List Nat) (y : List D) : eqD (.str s) (.lst y) = false := by unfold eqD; rfl
@[simp] theorem eqD_tup_non (x : List D) : eqD (.tup x) .non = false := by unfold eqD; rfl
@[simp] theorem eqD_tup_bl (x : List D) (b : Bool) : eqD (.tup x) (.bl b) = false := by unfold eqD; rfl
@[simp] theorem eqD_tup_int (x : List D) (j : Int) : eqD (.tup x) (.int j) = false := by unfold eqD; rfl
@[simp] theorem eqD_tup_str (x : List D) (t : List Nat) : eqD (.tup x) (.str t) = false := by unfold eqD; rfl
@[simp] theorem eqD_tup_tup (x : List D) (y : List D) : eqD (.tup x) (.tup y) = eqDs x y := by conv => lhs; unfold eqD
@[simp] theorem eqD_tup_lst (x : List D) (y : List D) : eqD (.tup x) (.lst y) = false := by unfold eqD; rfl
@[simp] theorem eqD_lst_non (x : List D) : eqD (.lst x) .non = false := by unfold eqD; rfl
@[simp] theorem eqD_lst_bl (x : List D) (b : Bool) : eqD (.lst x) (.bl b) = false := by unfold eqD; rfl
@[simp] theorem eqD_lst_int (x : List D) (j : Int) : eqD (.lst x) (.int j) = false := by unfold eqD; rfl
@[simp] theorem eqD_lst_str (x : List D) (t : List Nat) : eqD (.lst x) (.str t) = false := by unfold eqD; rfl
@[simp] theorem eqD_lst_tup (x : List D) (y : List D) : eqD (.lst x) (.tup y) = false := by unfold eqD; rfl
@[simp] theorem eqD_lst_lst (x : List D) (y : List D) : eqD (.lst x) (.lst y) = eqDs x y := by conv => lhs; unfold eqD
@[simp] theorem eqDs_nil_nil : eqDs [] [] = true := by unfold eqDs; rfl
@[simp] theorem eqDs_nil_cons (b : D) (y : List D) : eqDs [] (b :: y) = false := by unfold eqDs; rfl
@[simp] theorem eqDs_cons_nil (b : D) (y : List D) : eqDs (b :: y) [] = false := by unfold eqDs; rfl
@[simp] theorem eqDs_cons_cons (a b : D) (x y : List D) : eqDs (a :: x) (b :: y) = (eqD a b && eqDs x y) := by conv => lhs; unfold eqDs
@[simp] theorem dIx_str (x : List Nat) (i : Int) : dIx (.str x) (.int i) = guardR (x.length <= big) (ofO ((atI x i).map fun c => .str [c])) := rfl
@[simp] theorem dIx_tup (x : List D) (i : Int) : dIx (.tup x) (.int i) = ofO (atI x i) := rfl
@[simp] theorem dIx_lst (x : List D) (i : Int) : dIx (.lst x) (.int i) = ofO (atI x i) := rfl
@[simp] theorem dSl_str (x : List Nat) (l h : Option Int) : dSl (.str x) l h = guardR (x.length <= big) (.ok (.str (cut x l h))) := rfl
@[simp] theorem ofK_l (xs : List D) : ofK .l xs = .lst xs := rfl
@[simp] theorem ofK_d (t : Bool) (ks xs : List D) : ofK (.d t ks) xs = .dct t ks xs := rfl
@[simp] theorem ofK_i (n : Nat) (c : String) (ns : List String) (xs : List D) : ofK (.i n c ns) xs = .ins c ns xs := rfl
@[simp] theorem ofO_some {α : Type} (a : α) : ofO (some a) = .ok a := rfl
@[simp] theorem gR {α : Type} {c : Prop} {r : R α} (h : c) : guardR c r = r := guardR_pos h
@[simp] theorem neg_big_nat (n : Nat) : -(big : Int) <= (n : Int) := ge_bigI (by omega)
@[simp] theorem neg_big_pos {n : Int} (h : 0 <= n) : -(big : Int) <= n := ge_bigI (by omega)
@[simp] theorem runD_ap {np n : Nat} {b : Bd} {ds : List D} (h : ds.length = np) : runD np n b ds = (b (ds.map (fun d => some (.v d)) ++ List.replicate (n - np) none)).bind fun x => match x with
  | .nx _ => .ok .non
  | .rt d => .ok d
  | _ => .bad := guardR_pos h
end Pu
namespace Pu
def R.nox {α : Type} (r : R α) : R α := match r with
 | .exc _ => .bad
 | r => r
theorem R.nox_ok {α : Type} {r : R α} {a : α} (h : r.nox = .ok a) : r = .ok a := by
 cases r with
 | ok b => exact h
 | exc x => cases h
 | bad => cases h
@[simp] theorem nox_ok' {α : Type} (a : α) : (R.ok a).nox = .ok a := rfl
def pNX (p : List D -> R D) : List D -> R D := fun ds => (p ds).nox
def hRun : List (List String × List String × (String -> Bd)) -> String -> PSt -> R Fl
 | [], _, _ => .bad
 | (yes, no, b) :: hs, c, st => if c ∈ yes then (b c st).nox else if c ∈ no then hRun hs c st else .bad
def dIsX (yes no : List String) : D -> R D
 | .exn c _ _ => if c ∈ yes then .ok (.bl true) else if c ∈ no then .ok (.bl false) else .bad
 | _ => .bad
def sTry (b : Bd) (hs : List (List String × List String × (String -> Bd))) : Bd := fun st => match b st with
 | .exc (.exn c [] []) => hRun hs c st
 | .exc _ => .bad
 | r => r
inductive NFl where
 | nx (xss : List (List D)) (st : PSt) | rt (d : D)
abbrev NB := List (List D) -> PSt -> R NFl
def nSet (j : Nat) (f : Ex) : NB := fun xss st => (f st).bind fun d => .ok (.nx xss (st.set j (some (.v d))))
def nRet (f : Ex) : NB := fun _ st => (f st).bind fun d => .ok (.rt d)
def nIf (c : Ex) (a b : NB) : NB := fun xss st => (c st).bind fun x => onB x fun q => if q = true then a xss st else b xss st
noncomputable def nApp (g f : Ex) : NB := fun xss st => (g st).bind fun x => inI x fun j => (f st).bind fun d => (ofO (ixN xss.length j)).bind fun k => match xss[k]? with
 | some ys => guardR (ys.length < big) (.ok (.nx (xss.set k (ys ++ [d])) st))
 | none => .bad
def sRetO (i : Nat) : Bd := fun st => match st[i]? with
 | some (some (.o .l xs)) => .ok (.rt (.lst xs))
 | _ => .bad
def thenO (bd : Bd) (i : Nat) : Bd := fun st => match bd st with
 | .ok (.nx s) => sRetO i s
 | _ => .bad
def asTwo : R D -> Option (List D × List D)
 | .ok (.tup [.lst xs, .lst ys]) => some (xs, ys)
 | _ => none
def thenT (bd : Bd) (f : Ex) : Bd := fun st => match bd st with
 | .ok (.nx s) => (match asTwo (f s) with
  | some (xs, ys) => .ok (.rt (.tup [.lst xs, .lst ys]))
  | none => .bad)
 | .exc x => .exc x
 | _ => .bad
def atom : D -> Bool
 | .non => true
 | .bl _ => true
 | .int _ => true
 | .str _ => true
 | _ => false
def rowOk : D -> Bool
 | .lst xs => xs.all atom
 | _ => false
noncomputable section
def dCopy2 : D -> R D
 | .lst xs => guardR (xs.length <= big /\ xs.all rowOk = true) (.ok (.lst xs))
 | _ => .bad
def unL : D -> List D
 | .lst xs => xs
 | _ => []
open Classical in
def runIX (c : String) (np n : Nat) (b : Bd) (ds : List D) : R D := if h : ∃ r, ∀ x, runI1 c np n b x ds = r then choose h else .bad
theorem runIX_of {c : String} {np n : Nat} {b : Bd} {ds : List D} (h : runIX c np n b ds ≠ .bad) (x : Nat) : runI1 c np n b x ds = runIX c np n b ds := by
 unfold runIX at h ⊢
 split at h
 ·rename_i e
  rw [dif_pos e]
  exact Classical.choose_spec e x
 ·exact (h rfl).elim
end
noncomputable section
end
noncomputable section
end
noncomputable section
end
noncomputable section
end
def thenR (bd : Bd) (f : Ex) : Bd := fun st => match bd st with
 | .ok (.nx s) => (f s).bind fun d => match d with
  | .lst xs => .ok (.rt (.lst xs))
  | _ => .bad
 | _ => .bad
noncomputable def eExn (c : String) (r : Exs) : Ex := fun st => (r st).bind fun xs => guardR (xs.length <= 100) (.ok (.exn c [] []))
noncomputable def eExnF (c : String) (ns : List String) (r : Exs) : Ex := fun st => (r st).bind fun xs => guardR (xs.length = ns.length) (.ok (.exn c ns xs))
noncomputable def dXFld (c f : String) : D -> R D
 | .exn c' ns xs => guardR (c' = c) (ofO ((ns.zip xs).lookup f))
 | _ => .bad
noncomputable def dMulI : Op2
 | .int i, .int j => guardR ((-18446744073709551616 < i /\ i < 18446744073709551616) \/ (-18446744073709551616 < j /\ j < 18446744073709551616)) (.ok (.int (i * j)))
 | _, _ => .bad
@[simp] theorem dMulI_int (i j : Int) : dMulI (.int i) (.int j) = guardR ((-18446744073709551616 < i /\ i < 18446744073709551616) \/ (-18446744073709551616 < j /\ j < 18446744073709551616)) (.ok (.int (i * j))) := rfl
end Pu
namespace Pu
noncomputable section
def L__law_text_0 (st : PSt) : R Fl := (sSeq (sSet 5 (e2 dMod (e2 dAdd (e2 dAdd (e2 dAdd (e2 dMulI (eVar 5) (eVar 5)) (e2 dMulI (eC (.int 48271)) (eVar 5))) (e2 dMulI (eC (.int 7919)) (eVar 6))) (eC (.int 11))) (eC (.int 2147483629)))) (sIf (e2 dEq (e2 dMod (eVar 0) (eC (.int 2))) (eC (.int 1))) (sSeq (sSet 3 (e2 dAdd (eVar 3) (e2 dIx (eC (.str [97, 98, 99])) (e2 dMod (eVar 4) (eVar 2))))) (sSet 4 (e2 dFdiv (eVar 4) (eVar 2)))) (sSet 3 (e2 dAdd (eVar 3) (e2 dIx (eC (.str [97, 98, 99])) (e2 dMod (e2 dFdiv (e2 dMod (e2 dMulI (eVar 5) (eVar 5)) (eC (.int 2147483587))) (eC (.int 64))) (eVar 2))))))) st
def b__law_text : Bd := sSeq (sSet 3 (eC (.str []))) (sSeq (sSet 4 (e2 dFdiv (eVar 0) (eC (.int 2)))) (sSeq (sSet 5 (e2 dAdd (e2 dMod (e2 dFdiv (eVar 0) (eC (.int 2))) (eC (.int 2147483629))) (eC (.int 7)))) (sSeq (sFor (tgN 6) (itR1 (eVar 1)) (L__law_text_0)) (sRet (eVar 3)))))
def p__law_text : List D -> R D := runD 3 7 b__law_text
def b__law_first : Bd := sSeq (sIf (e2 dEq (eVar 0) (eC (.int 0))) (sRet (eExn "NoWord" (aCons (eC (.str [97])) (aNil)))) (sNext)) (sSeq (sIf (e2 dEq (eVar 0) (eC (.int 1))) (sRet (eExn "NoMachine" (aCons (eC (.str [98])) (aNil)))) (sNext)) (sSeq (sIf (e2 dEq (eVar 0) (eC (.int 2))) (sRet (eExn "NoRoom" (aCons (eC (.str [99])) (aNil)))) (sNext)) (sSeq (sIf (e2 dEq (eVar 0) (eC (.int 3))) (sRet (eExn "NoText" (aCons (eC (.str [100])) (aNil)))) (sNext)) (sSeq (sIf (e2 dEq (eVar 0) (eC (.int 4))) (sRet (eExn "NoLoop" (aCons (eC (.str [101])) (aNil)))) (sNext)) (sRet (eExn "NoKind" (aCons (eC (.str [102])) (aNil))))))))
def p__law_first : List D -> R D := runD 1 1 b__law_first
def b__law_second : Bd := sSeq (sIf (e2 dEq (eVar 0) (eC (.int 6))) (sRet (eExn "NoPaper" (aCons (eC (.str [103])) (aNil)))) (sNext)) (sSeq (sIf (e2 dEq (eVar 0) (eC (.int 7))) (sRet (eExn "OtherLetters" (aCons (eC (.str [104])) (aNil)))) (sNext)) (sSeq (sIf (e2 dEq (eVar 0) (eC (.int 8))) (sRet (eExn "NoFraction" (aCons (eC (.str [105])) (aNil)))) (sNext)) (sSeq (sIf (e2 dEq (eVar 0) (eC (.int 9))) (sRet (eExn "NoLine" (aCons (eC (.str [106])) (aNil)))) (sNext)) (sSeq (sIf (e2 dEq (eVar 0) (eC (.int 10))) (sRet (eExn "NoName" (aCons (eC (.str [107])) (aNil)))) (sNext)) (sRet (eExn "NoEnd" (aCons (eC (.str [108])) (aNil))))))))
def p__law_second : List D -> R D := runD 1 1 b__law_second
def b__law_made : Bd := sSeq (sIf (e2 dLt (eVar 0) (eC (.int 6))) (sRet (eCall p__law_first (aCons (eVar 0) (aNil)))) (sNext)) (sSeq (sIf (e2 dLt (eVar 0) (eC (.int 12))) (sRet (eCall p__law_second (aCons (eVar 0) (aNil)))) (sNext)) (sRet (eExnF "NotSettled" ["front", "one", "other"] (aCons (e2 dIx (eVar 1) (eC (.int 0))) (aCons (e2 dIx (eVar 1) (eC (.int 1))) (aCons (e2 dIx (eVar 1) (eC (.int 2))) (aNil)))))))
def p__law_made : List D -> R D := runD 2 2 b__law_made
def b__law_kinds : Bd := sSeq (sSet 1 (eLst (aCons (e1 (dIsX ["NoWord"] ["NoEnd", "NoFraction", "NoKind", "NoLine", "NoLoop", "NoMachine", "NoName", "NoPaper", "NoRoom", "NoText", "NotSettled", "OtherLetters"]) (eVar 0)) (aCons (e1 (dIsX ["NoMachine"] ["NoEnd", "NoFraction", "NoKind", "NoLine", "NoLoop", "NoName", "NoPaper", "NoRoom", "NoText", "NoWord", "NotSettled", "OtherLetters"]) (eVar 0)) (aCons (e1 (dIsX ["NoRoom"] ["NoEnd", "NoFraction", "NoKind", "NoLine", "NoLoop", "NoMachine", "NoName", "NoPaper", "NoText", "NoWord", "NotSettled", "OtherLetters"]) (eVar 0)) (aCons (e1 (dIsX ["NoText"] ["NoEnd", "NoFraction", "NoKind", "NoLine", "NoLoop", "NoMachine", "NoName", "NoPaper", "NoRoom", "NoWord", "NotSettled", "OtherLetters"]) (eVar 0)) (aNil))))))) (sSeq (sSet 1 (e2 dAdd (eVar 1) (eLst (aCons (e1 (dIsX ["NoLoop"] ["NoEnd", "NoFraction", "NoKind", "NoLine", "NoMachine", "NoName", "NoPaper", "NoRoom", "NoText", "NoWord", "NotSettled", "OtherLetters"]) (eVar 0)) (aCons (e1 (dIsX ["NoKind"] ["NoEnd", "NoFraction", "NoLine", "NoLoop", "NoMachine", "NoName", "NoPaper", "NoRoom", "NoText", "NoWord", "NotSettled", "OtherLetters"]) (eVar 0)) (aCons (e1 (dIsX ["NoPaper"] ["NoEnd", "NoFraction", "NoKind", "NoLine", "NoLoop", "NoMachine", "NoName", "NoRoom", "NoText", "NoWord", "NotSettled", "OtherLetters"]) (eVar 0)) (aCons (e1 (dIsX ["OtherLetters"] ["NoEnd", "NoFraction", "NoKind", "NoLine", "NoLoop", "NoMachine", "NoName", "NoPaper", "NoRoom", "NoText", "NoWord", "NotSettled"]) (eVar 0)) (aNil)))))))) (sSeq (sSet 1 (e2 dAdd (eVar 1) (eLst (aCons (e1 (dIsX ["NoFraction"] ["NoEnd", "NoKind", "NoLine", "NoLoop", "NoMachine", "NoName", "NoPaper", "NoRoom", "NoText", "NoWord", "NotSettled", "OtherLetters"]) (eVar 0)) (aCons (e1 (dIsX ["NoLine"] ["NoEnd", "NoFraction", "NoKind", "NoLoop", "NoMachine", "NoName", "NoPaper", "NoRoom", "NoText", "NoWord", "NotSettled", "OtherLetters"]) (eVar 0)) (aCons (e1 (dIsX ["NoName"] ["NoEnd", "NoFraction", "NoKind", "NoLine", "NoLoop", "NoMachine", "NoPaper", "NoRoom", "NoText", "NoWord", "NotSettled", "OtherLetters"]) (eVar 0)) (aCons (e1 (dIsX ["NoEnd"] ["NoFraction", "NoKind", "NoLine", "NoLoop", "NoMachine", "NoName", "NoPaper", "NoRoom", "NoText", "NoWord", "NotSettled", "OtherLetters"]) (eVar 0)) (aNil)))))))) (sRet (e2 dAdd (eVar 1) (eLst (aCons (e1 (dIsX ["NotSettled"] ["NoEnd", "NoFraction", "NoKind", "NoLine", "NoLoop", "NoMachine", "NoName", "NoPaper", "NoRoom", "NoText", "NoWord", "OtherLetters"]) (eVar 0)) (aNil)))))))
def p__law_kinds : List D -> R D := runD 1 2 b__law_kinds
def E_law_0 (st : PSt) : R D := (eCall p__law_text (aCons (e2 dAdd (e2 dFdiv (eVar 3) (eC (.int 13))) (e2 dMulI (eC (.int 7)) (eVar 7))) (aCons (e2 dAdd (e2 dMod (e2 dFdiv (eVar 3) (eC (.int 13))) (eC (.int 5))) (eVar 7)) (aCons (eC (.int 3)) (aNil))))) st
def E_law_2 (st : PSt) : R D := (e2 dEq (eVar 7) (eVar 4)) st
def L_law_3 (st : PSt) : R Fl := (sSeq (sSet 4 (e2 dMod (eVar 3) (eC (.int 13)))) (sSeq (sSet 5 (eComp [7] (tgN 7) (itR1 (eC (.int 3))) eTrue (E_law_0))) (sSeq (sSet 6 (eCall p__law_made (aCons (eVar 4) (aCons (eVar 5) (aNil))))) (sSeq (sIf (eOr (eNot (e1 (dIsX ["NoEnd", "NoFraction", "NoKind", "NoLine", "NoLoop", "NoMachine", "NoName", "NoPaper", "NoRoom", "NoText", "NoWord", "NotSettled", "OtherLetters"] []) (eVar 6))) (eNot (e1 (dIsX ["NoEnd", "NoFraction", "NoKind", "NoLine", "NoLoop", "NoMachine", "NoName", "NoPaper", "NoRoom", "NoText", "NoWord", "NotSettled", "OtherLetters"] []) (eVar 6)))) (sRet (eC (.bl false))) (sNext)) (sSeq (sIf (e2 dNe (eCall p__law_kinds (aCons (eVar 6) (aNil))) (eComp [7] (tgN 7) (itR1 (eC (.int 13))) eTrue (E_law_2))) (sRet (eC (.bl false))) (sNext)) (sIf (e2 dEq (eVar 4) (eC (.int 12))) (sApp 2 (eTup (aCons (eVar 6) (aCons (eVar 5) (aNil))))) (sNext))))))) st
def L_law_4 (st : PSt) : R Fl := (sIf (e2 dNe (eLst (aCons (e1 (dXFld "NotSettled" "front") (eVar 6)) (aCons (e1 (dXFld "NotSettled" "one") (eVar 6)) (aCons (e1 (dXFld "NotSettled" "other") (eVar 6)) (aNil))))) (eVar 5)) (sRet (eC (.bl false))) (sNext)) st
def b_law : Bd := sSeq (sSet 1 (eSl (eVar 0) (oNone) (oSome (eC (.int 30))))) (sSeq (sIf (e2 dEq (eVar 1) (eLst (aNil))) (sSet 1 (eLst (aCons (eC (.int 12)) (aNil)))) (sNext)) (sSeq (sSetO 2 (eLst (aNil))) (sSeq (sFor (tgN 3) (itE (eVar 1)) (L_law_3)) (sSeq (sFz [2] (sFor (tgT [6, 5]) (itE (eVar 2)) (L_law_4))) (sRet (eC (.bl true)))))))
def p_law : List D -> R D := runD 1 8 b_law
end
end Pu
namespace Pu
@[simp] theorem bind_exc' {α β : Type} (x : D) (f : α -> R β) : (R.exc x : R α).bind f = .exc x := rfl
@[simp] theorem nox_bad' {α : Type} : (R.bad : R α).nox = .bad := rfl
@[simp] theorem nox_exc' {α : Type} (x : D) : (R.exc x : R α).nox = .bad := rfl
@[simp] theorem onNx_exc (x : D) (f : PSt -> R Fl) : onNx (.exc x) f = .exc x := rfl
@[simp] theorem pNX_ap (p : List D -> R D) (ds : List D) : pNX p ds = (p ds).nox := rfl
@[simp] theorem sTry_ap (b : Bd) (hs : List (List String × List String × (String -> Bd))) (st : PSt) : sTry b hs st = (match b st with | .exc (.exn c [] []) => hRun hs c st | .exc _ => .bad | r => r) := rfl
@[simp] theorem hRun_cons (yes no : List String) (b : String -> Bd) (hs : List (List String × List String × (String -> Bd))) (c : String) (st : PSt) : hRun ((yes, no, b) :: hs) c st = if c ∈ yes then (b c st).nox else if c ∈ no then hRun hs c st else .bad := rfl
@[simp] theorem dIsX_exn (yes no : List String) (c : String) (n : List String) (d : List D) : dIsX yes no (.exn c n d) = if c ∈ yes then .ok (.bl true) else if c ∈ no then .ok (.bl false) else .bad := rfl
end Pu
namespace Pu
@[simp] theorem nSet_ap (j : Nat) (f : Ex) (xss : List (List D)) (st : PSt) : nSet j f xss st = (f st).bind fun d => .ok (.nx xss (st.set j (some (.v d)))) := rfl
@[simp] theorem nRet_ap (f : Ex) (xss : List (List D)) (st : PSt) : nRet f xss st = (f st).bind fun d => .ok (.rt d) := rfl
@[simp] theorem nIf_ap (c : Ex) (a b : NB) (xss : List (List D)) (st : PSt) : nIf c a b xss st = (c st).bind fun x => onB x fun q => if q = true then a xss st else b xss st := rfl
@[simp] theorem nApp_ap (g f : Ex) (xss : List (List D)) (st : PSt) : nApp g f xss st = (g st).bind fun x => inI x fun j => (f st).bind fun d => (ofO (ixN xss.length j)).bind fun k => match xss[k]? with
 | some ys => guardR (ys.length < big) (.ok (.nx (xss.set k (ys ++ [d])) st))
 | none => .bad := rfl
end Pu
namespace Pu
end Pu
namespace Pu
theorem seq_nx {a b : Bd} {st st' : PSt} {r : R Fl} (h : a st = .ok (.nx st')) (h2 : b st' = r) : sSeq a b st = r := by
 rw [sSeq_ap, h]
 exact h2
theorem seq_same {a b : Bd} {st : PSt} {r : R Fl} (h : a st = .ok (.nx st)) (h2 : b st = r) : sSeq a b st = r := seq_nx h h2
theorem run_rt {np n : Nat} {b : Bd} {ds : List D} {d : D} (h : ds.length = np) (hb : b (ds.map (fun d => some (.v d)) ++ List.replicate (n - np) none) = .ok (.rt d)) : runD np n b ds = .ok d := by
 rw [runD_ap h, hb]
 rfl
end Pu
namespace Pu
theorem rangeD_zero (n : Nat) : rangeD 0 n = (List.range n).map fun (k : Nat) => D.int (k : Int) := by
 unfold rangeD
 refine List.map_congr_left fun k _ => ?_
 rw [Int.zero_add]
theorem compR_map {tg : Tg} {c f : Ex} {st : PSt} (g : D -> D) : ∀ (ds : List D), (∀ d ∈ ds, ∃ s1, tg d st = .ok s1 /\ c s1 = .ok (.bl true) /\ f s1 = .ok (g d)) -> compR tg c f st ds = .ok (ds.map g)
 | [], _ => rfl
 | d :: ds, h => by
  obtain ⟨s1, e1, e2, e3⟩ := h d List.mem_cons_self
  rw [compR_cons, e1]
  simp only [bind_ok', e2, onB_bl, if_true, e3, compR_map g ds fun d hd => h d (List.mem_cons_of_mem _ hd), List.map_cons]
end Pu
namespace Pu
theorem set_ok {i : Nat} {f : Ex} {st : PSt} {d : D} (h : f st = .ok d) : sSet i f st = .ok (.nx (st.set i (some (.v d)))) := by rw [sSet_ap, h, bind_ok']
theorem setO_ok {i : Nat} {f : Ex} {st : PSt} {xs : List D} (h : f st = .ok (.lst xs)) : sSetO i f st = .ok (.nx (st.set i (some (.o .l xs)))) := by rw [sSetO_ap, h, bind_ok']
theorem call_ok {p : List D -> R D} {r : Exs} {st : PSt} {ds : List D} {x : R D} (h : r st = .ok ds) (hp : p ds = x) : eCall p r st = x := by rw [eCall_ap, h, bind_ok', hp]
theorem op_ok {op : Op2} {f g : Ex} {st : PSt} {x y : D} {z : R D} (hf : f st = .ok x) (hg : g st = .ok y) (h : op x y = z) : e2 op f g st = z := by rw [e2_ap, hf, bind_ok', hg, bind_ok', h]
theorem if_t {c : Ex} {a b : Bd} {st : PSt} {r : R Fl} (h : c st = .ok (.bl true)) (ha : a st = r) : sIf c a b st = r := by rw [sIf_ap, h, bind_ok', onB_bl, if_pos rfl, ha]
theorem if_f {c : Ex} {a b : Bd} {st : PSt} {r : R Fl} (h : c st = .ok (.bl false)) (hb : b st = r) : sIf c a b st = r := by rw [sIf_ap, h, bind_ok', onB_bl, if_neg Bool.false_ne_true, hb]
theorem or_ok {f g : Ex} {st : PSt} {p q : Bool} (hf : f st = .ok (.bl p)) (hg : p = false -> g st = .ok (.bl q)) : eOr f g st = .ok (.bl (p || q)) := by
 rw [eOr_ap, hf, bind_ok', onB_bl]
 cases p with
 | true => rfl
 | false => rw [if_neg Bool.false_ne_true, hg rfl]; rfl
theorem not_ok {f : Ex} {st : PSt} {p : Bool} (hf : f st = .ok (.bl p)) : eNot f st = .ok (.bl (!p)) := by rw [eNot_ap, hf, bind_ok', onB_bl]
theorem ret_ok {f : Ex} {st : PSt} {d : D} (h : f st = .ok d) : sRet f st = .ok (.rt d) := by rw [sRet_ap, h, bind_ok']
theorem for_ok {tg : Tg} {it : ItE} {L : Bd} {st : PSt} {xs : List D} {r : R Fl} (h : it st = .ok xs) (hr : forR tg L xs st = r) : sFor tg it L st = r := by rw [sFor_ap, h, bind_ok', hr]
theorem arg_ok {f : Ex} {r : Exs} {st : PSt} {d : D} {ds : List D} (h : f st = .ok d) (hr : r st = .ok ds) : aCons f r st = .ok (d :: ds) := by rw [aCons_ap, h, bind_ok', hr, bind_ok']
theorem lst_ok {r : Exs} {st : PSt} {ds : List D} (h : r st = .ok ds) (hl : ds.length <= 1000 := by exact of_decide_eq_true rfl) : eLst r st = .ok (.lst ds) := by rw [eLst_ap, h, bind_ok', guardR_pos (le_big (Nat.le_trans hl (by decide)))]
theorem mod_ok {i j : Int} (h : 0 < j) : dMod (.int i) (.int j) = .ok (.int (i % j)) := guardR_pos h
theorem fdiv_ok {i j : Int} (h : 0 < j /\ j < 1073741824) : dFdiv (.int i) (.int j) = .ok (.int (i / j)) := guardR_pos h
theorem eqi_ok (i j : Int) : dEq (.int i) (.int j) = .ok (.bl (decide (i = j))) := by
 have : (i == j) = decide (i = j) := by by_cases h : i = j <;> simp [h]
 rw [<- this]
 exact guardR_pos ⟨Nat.zero_le 64, rfl, rfl⟩
theorem app_ok {i : Nat} {f : Ex} {st : PSt} {d : D} {xs : List D} (h : f st = .ok d) (hs : st[i]? = some (some (.o .l xs))) (hl : xs.length < 1000000) : sApp i f st = .ok (.nx (st.set i (some (.o .l (xs ++ [d]))))) := by
 rw [sApp_ap, h, bind_ok', hs]
 exact guardR_pos (lt_big (Nat.lt_trans hl (by decide)))
theorem r1_ok {f : Ex} {st : PSt} {n : Nat} (h : f st = .ok (.int n)) (hn : n <= 1000000) : itR1 f st = .ok ((List.range n).map fun (k : Nat) => D.int (k : Int)) := by
 rw [itR1_ap, h, bind_ok', <- rangeD_zero]
 exact guardR_pos ⟨ge_bigI (by omega), le_bigI (by omega)⟩
theorem comp_if {E C : Ex} {is : List Nat} {tg : Tg} {it : ItE} {st : PSt} {ys xs : List D} (h : it st = .ok xs) (hl : xs.length <= 1000000) (hc : compR tg C E (clr is st) xs = .ok ys) : eComp is tg it C E st = .ok (.lst ys) := by
 rw [eComp_ap, h, bind_ok', guardR_pos (le_big (Nat.le_trans hl (by decide))), hc, bind_ok']
theorem for_go {tg : Tg} {L : Bd} {d : D} {ds : List D} {st s1 s2 : PSt} {r : R Fl} (ht : tg d st = .ok s1) (hL : L s1 = .ok (.nx s2)) (hr : forR tg L ds s2 = r) : forR tg L (d :: ds) st = r := by
 rw [forR_cons, ht, bind_ok', hL]
 exact hr
theorem ix_ok {xs : List D} {i : Int} {d : D} (h : atI xs i = some d) : dIx (.lst xs) (.int i) = .ok d := by
 show ofO (atI xs i) = _
 rw [h]
 rfl
theorem it_ok {f : Ex} {st : PSt} {xs : List D} (h : f st = .ok (.lst xs)) : itE f st = .ok xs := by rw [itE_ap, h, bind_ok']
end Pu
namespace Pu
def nats (l : List Nat) : List D := l.map fun (x : Nat) => D.int (x : Int)
end Pu
namespace Pu
theorem for_inv {tg : Tg} {L : Bd} (P : PSt -> Prop) : ∀ (ks : List D), (∀ d ∈ ks, ∀ st, P st -> ∃ s1 st', tg d st = .ok s1 /\ L s1 = .ok (.nx st') /\ P st') -> ∀ st, P st -> ∃ st', P st' /\ forR tg L ks st = .ok (.nx st')
 | [], _, st, p => ⟨st, p, rfl⟩
 | d :: ks, h, st, p => by
  obtain ⟨s1, st', e1, e2, p'⟩ := h d List.mem_cons_self st p
  obtain ⟨st2, p2, e3⟩ := for_inv P ks (fun d hd => h d (List.mem_cons_of_mem _ hd)) st' p'
  refine ⟨st2, p2, ?_⟩
  rw [forR_cons, e1]
  simp only [bind_ok', e2]
  exact e3
end Pu
namespace Pu
theorem abcI {i : Int} (h0 : 0 <= i) (h : i < 3) : ∃ ch, dIx (.str [97, 98, 99]) (.int i) = .ok (.str [ch]) := by
 have : i = 0 \/ i = 1 \/ i = 2 := by omega
 rcases this with rfl | rfl | rfl
 ·exact ⟨97, by simp [dIx, atI, ofO, ixN]⟩
 ·exact ⟨98, by simp [dIx, atI, ofO, ixN]⟩
 ·exact ⟨99, by simp [dIx, atI, ofO, ixN]⟩
def tst (cell n : Int) (x : List Nat) (d m : Int) (k : Option Sl) : PSt := [some (.v (.int cell)), some (.v (.int n)), some (.v (.int 3)), some (.v (.str x)), some (.v (.int d)), some (.v (.int m)), k]
theorem mulC_ok {i : Int} (h : -18446744073709551616 < i /\ i < 18446744073709551616) (j : Int) : dMulI (.int i) (.int j) = .ok (.int (i * j)) := guardR_pos (.inl h)
theorem text_turn (cell n : Int) (x : List Nat) (hx : x.length <= 1000) (d m k : Int) (h0 : 0 <= m) (h1 : m < 4294967296) : ∃ y d' m', L__law_text_0 (tst cell n x d m (some (.v (.int k)))) = .ok (.nx (tst cell n y d' m' (some (.v (.int k))))) /\ y.length = x.length + 1 /\ 0 <= m' /\ m' < 4294967296 := by
 have e1 : e2 dMod (e2 dAdd (e2 dAdd (e2 dAdd (e2 dMulI (eVar 5) (eVar 5)) (e2 dMulI (eC (.int 48271)) (eVar 5))) (e2 dMulI (eC (.int 7919)) (eVar 6))) (eC (.int 11))) (eC (.int 2147483629)) (tst cell n x d m (some (.v (.int k)))) = .ok (.int ((m * m + 48271 * m + 7919 * k + 11) % 2147483629)) := op_ok (op_ok (x := .int (m * m + 48271 * m + 7919 * k)) (y := .int 11) (op_ok (x := .int (m * m + 48271 * m)) (y := .int (7919 * k)) (op_ok (x := .int (m * m)) (y := .int (48271 * m)) (op_ok rfl rfl (mulC_ok ⟨by omega, by omega⟩ _)) (op_ok rfl rfl (mulC_ok (by decide) _)) rfl) (op_ok rfl rfl (mulC_ok (by decide) _)) rfl) rfl rfl) rfl (mod_ok (by decide))
 have g0 : 0 <= (m * m + 48271 * m + 7919 * k + 11) % 2147483629 := Int.emod_nonneg _ (by decide)
 have g1 : (m * m + 48271 * m + 7919 * k + 11) % 2147483629 < 2147483629 := Int.emod_lt_of_pos _ (by decide)
 generalize (m * m + 48271 * m + 7919 * k + 11) % 2147483629 = m1 at e1 g0 g1
 have t : e2 dEq (e2 dMod (eVar 0) (eC (.int 2))) (eC (.int 1)) (tst cell n x d m1 (some (.v (.int k)))) = .ok (.bl (decide (cell % 2 = 1))) := op_ok (op_ok rfl rfl (mod_ok (by decide))) rfl (eqi_ok _ _)
 by_cases hc : cell % 2 = 1
 ·rw [decide_eq_true hc] at t
  obtain ⟨ch, hch⟩ := abcI (i := d % 3) (Int.emod_nonneg _ (by decide)) (Int.emod_lt_of_pos _ (by decide))
  refine ⟨x ++ [ch], d / 3, m1, seq_nx (st' := tst cell n x d m1 (some (.v (.int k)))) (set_ok e1) (if_t t (seq_nx (st' := tst cell n (x ++ [ch]) d m1 (some (.v (.int k)))) (set_ok (op_ok rfl (op_ok rfl (op_ok rfl rfl (mod_ok (by decide))) hch) (guardR_pos (le_big (by show x.length + 1 <= _; omega))))) (set_ok (op_ok rfl rfl (fdiv_ok (by decide)))))), by rw [List.length_append]; rfl, g0, by omega⟩
 ·rw [decide_eq_false hc] at t
  obtain ⟨ch, hch⟩ := abcI (i := m1 * m1 % 2147483587 / 64 % 3) (Int.emod_nonneg _ (by decide)) (Int.emod_lt_of_pos _ (by decide))
  refine ⟨x ++ [ch], d, m1, seq_nx (st' := tst cell n x d m1 (some (.v (.int k)))) (set_ok e1) (if_f t (set_ok (op_ok rfl (op_ok rfl (op_ok (op_ok (op_ok (op_ok rfl rfl (mulC_ok ⟨by omega, by omega⟩ _)) rfl (mod_ok (by decide))) rfl (fdiv_ok (by decide))) rfl (mod_ok (by decide))) hch) (guardR_pos (le_big (by show x.length + 1 <= _; omega)))))), by rw [List.length_append]; rfl, g0, by omega⟩
theorem text_loop (cell n : Int) : ∀ (ks : List Nat) (x : List Nat) (d m : Int) (k : Option Sl), x.length + ks.length <= 1000 -> 0 <= m -> m < 4294967296 -> ∃ y d' m' k', forR (tgN 6) L__law_text_0 (nats ks) (tst cell n x d m k) = .ok (.nx (tst cell n y d' m' k'))
 | [], x, d, m, k, _, _, _ => ⟨x, d, m, k, rfl⟩
 | j :: ks, x, d, m, k, h, h0, h1 => by
  rw [List.length_cons] at h
  obtain ⟨y, d', m', e, hy, g0, g1⟩ := text_turn cell n x (by omega) d m j h0 h1
  obtain ⟨z, d2, m2, k2, e2⟩ := text_loop cell n ks y d' m' (some (.v (.int j))) (by omega) g0 g1
  exact ⟨z, d2, m2, k2, for_go rfl e e2⟩
theorem text_ok (cell : Int) (n : Nat) (hn : n <= 1000) : ∃ x, p__law_text [.int cell, .int n, .int 3] = .ok (.str x) := by
 have g0 : 0 <= cell / 2 % 2147483629 := Int.emod_nonneg _ (by decide)
 have g1 : cell / 2 % 2147483629 < 2147483629 := Int.emod_lt_of_pos _ (by decide)
 obtain ⟨y, d', m', k', e⟩ := text_loop cell n (List.range n) [] (cell / 2) (cell / 2 % 2147483629 + 7) none (by rw [List.length_range]; show 0 + n <= _; omega) (by omega) (by omega)
 refine ⟨y, run_rt rfl (seq_nx (st' := [some (.v (.int cell)), some (.v (.int n)), some (.v (.int 3)), some (.v (.str [])), none, none, none]) (set_ok rfl) (seq_nx (st' := [some (.v (.int cell)), some (.v (.int n)), some (.v (.int 3)), some (.v (.str [])), some (.v (.int (cell / 2))), none, none]) (set_ok (op_ok rfl rfl (fdiv_ok (by decide)))) (seq_nx (st' := tst cell n [] (cell / 2) (cell / 2 % 2147483629 + 7) none) (set_ok (op_ok (op_ok (op_ok rfl rfl (fdiv_ok (by decide))) rfl (mod_ok (by decide))) rfl rfl)) (seq_nx (for_ok (r1_ok rfl (by omega)) e) (ret_ok rfl)))))⟩
def kindN : List String := ["NoWord", "NoMachine", "NoRoom", "NoText", "NoLoop", "NoKind", "NoPaper", "OtherLetters", "NoFraction", "NoLine", "NoName", "NoEnd", "NotSettled"]
def wsD (w0 w1 w2 : List Nat) : List D := [.str w0, .str w1, .str w2]
def exD (k : Nat) (w0 w1 w2 : List Nat) : D := if k = 12 then .exn "NotSettled" ["front", "one", "other"] (wsD w0 w1 w2) else .exn (kindN.getD k "") [] []
theorem lt_13 {P : Nat -> Prop} (h0 : P 0) (h1 : P 1) (h2 : P 2) (h3 : P 3) (h4 : P 4) (h5 : P 5) (h6 : P 6) (h7 : P 7) (h8 : P 8) (h9 : P 9) (h10 : P 10) (h11 : P 11) (h12 : P 12) : ∀ k, k < 13 -> P k := fun k hk => by
 have : k = 0 \/ k = 1 \/ k = 2 \/ k = 3 \/ k = 4 \/ k = 5 \/ k = 6 \/ k = 7 \/ k = 8 \/ k = 9 \/ k = 10 \/ k = 11 \/ k = 12 := by omega
 rcases this with rfl | rfl | rfl | rfl | rfl | rfl | rfl | rfl | rfl | rfl | rfl | rfl | rfl <;> assumption
theorem exn_ok {c : String} {ch : Nat} {st : PSt} : eExn c (aCons (eC (.str [ch])) aNil) st = .ok (.exn c [] []) := guardR_pos (by show 1 <= 100; decide)
theorem no_ok {j k : Int} (h : j ≠ k) {st : PSt} {f : Ex} (hf : f st = .ok (.int j)) : e2 dEq f (eC (.int k)) st = .ok (.bl false) := op_ok hf rfl (by rw [eqi_ok, decide_eq_false h])
theorem yes_ok {k : Int} {st : PSt} {f : Ex} (hf : f st = .ok (.int k)) : e2 dEq f (eC (.int k)) st = .ok (.bl true) := op_ok hf rfl (by rw [eqi_ok, decide_eq_true rfl])
theorem first_ok (k : Nat) (hk : k < 6) : p__law_first [.int k] = .ok (.exn (kindN.getD k "") [] []) := by
 have : k = 0 \/ k = 1 \/ k = 2 \/ k = 3 \/ k = 4 \/ k = 5 := by omega
 rcases this with rfl | rfl | rfl | rfl | rfl | rfl
 ·exact run_rt rfl (by unfold b__law_first sSeq onNx; rw [if_t (yes_ok rfl) (ret_ok exn_ok)]; rfl)
 ·exact run_rt rfl (seq_same (if_f (no_ok (by decide) rfl) rfl) (by unfold sSeq onNx; rw [if_t (yes_ok rfl) (ret_ok exn_ok)]; rfl))
 ·exact run_rt rfl (seq_same (if_f (no_ok (by decide) rfl) rfl) (seq_same (if_f (no_ok (by decide) rfl) rfl) (by unfold sSeq onNx; rw [if_t (yes_ok rfl) (ret_ok exn_ok)]; rfl)))
 ·exact run_rt rfl (seq_same (if_f (no_ok (by decide) rfl) rfl) (seq_same (if_f (no_ok (by decide) rfl) rfl) (seq_same (if_f (no_ok (by decide) rfl) rfl) (by unfold sSeq onNx; rw [if_t (yes_ok rfl) (ret_ok exn_ok)]; rfl))))
 ·exact run_rt rfl (seq_same (if_f (no_ok (by decide) rfl) rfl) (seq_same (if_f (no_ok (by decide) rfl) rfl) (seq_same (if_f (no_ok (by decide) rfl) rfl) (seq_same (if_f (no_ok (by decide) rfl) rfl) (by unfold sSeq onNx; rw [if_t (yes_ok rfl) (ret_ok exn_ok)]; rfl)))))
 ·exact run_rt rfl (seq_same (if_f (no_ok (by decide) rfl) rfl) (seq_same (if_f (no_ok (by decide) rfl) rfl) (seq_same (if_f (no_ok (by decide) rfl) rfl) (seq_same (if_f (no_ok (by decide) rfl) rfl) (seq_same (if_f (no_ok (by decide) rfl) rfl) (ret_ok exn_ok))))))
theorem second_ok (k : Nat) (h6 : 6 <= k) (hk : k < 12) : p__law_second [.int k] = .ok (.exn (kindN.getD k "") [] []) := by
 have : k = 6 \/ k = 7 \/ k = 8 \/ k = 9 \/ k = 10 \/ k = 11 := by omega
 rcases this with rfl | rfl | rfl | rfl | rfl | rfl
 ·exact run_rt rfl (by unfold b__law_second sSeq onNx; rw [if_t (yes_ok rfl) (ret_ok exn_ok)]; rfl)
 ·exact run_rt rfl (seq_same (if_f (no_ok (by decide) rfl) rfl) (by unfold sSeq onNx; rw [if_t (yes_ok rfl) (ret_ok exn_ok)]; rfl))
 ·exact run_rt rfl (seq_same (if_f (no_ok (by decide) rfl) rfl) (seq_same (if_f (no_ok (by decide) rfl) rfl) (by unfold sSeq onNx; rw [if_t (yes_ok rfl) (ret_ok exn_ok)]; rfl)))
 ·exact run_rt rfl (seq_same (if_f (no_ok (by decide) rfl) rfl) (seq_same (if_f (no_ok (by decide) rfl) rfl) (seq_same (if_f (no_ok (by decide) rfl) rfl) (by unfold sSeq onNx; rw [if_t (yes_ok rfl) (ret_ok exn_ok)]; rfl))))
 ·exact run_rt rfl (seq_same (if_f (no_ok (by decide) rfl) rfl) (seq_same (if_f (no_ok (by decide) rfl) rfl) (seq_same (if_f (no_ok (by decide) rfl) rfl) (seq_same (if_f (no_ok (by decide) rfl) rfl) (by unfold sSeq onNx; rw [if_t (yes_ok rfl) (ret_ok exn_ok)]; rfl)))))
 ·exact run_rt rfl (seq_same (if_f (no_ok (by decide) rfl) rfl) (seq_same (if_f (no_ok (by decide) rfl) rfl) (seq_same (if_f (no_ok (by decide) rfl) rfl) (seq_same (if_f (no_ok (by decide) rfl) rfl) (seq_same (if_f (no_ok (by decide) rfl) rfl) (ret_ok exn_ok))))))
theorem made_ok (k : Nat) (hk : k < 13) (w0 w1 w2 : List Nat) : p__law_made [.int k, .lst (wsD w0 w1 w2)] = .ok (exD k w0 w1 w2) := by
 have t1 : e2 dLt (eVar 0) (eC (.int 6)) [some (.v (.int k)), some (.v (.lst (wsD w0 w1 w2)))] = .ok (.bl (decide (k < 6))) := op_ok rfl rfl (by
  show R.ok (D.bl (decide ((k : Int) < 6))) = _
  rw [decide_eq_decide.mpr (by omega : (k : Int) < 6 ↔ k < 6)])
 have t2 : e2 dLt (eVar 0) (eC (.int 12)) [some (.v (.int k)), some (.v (.lst (wsD w0 w1 w2)))] = .ok (.bl (decide (k < 12))) := op_ok rfl rfl (by
  show R.ok (D.bl (decide ((k : Int) < 12))) = _
  rw [decide_eq_decide.mpr (by omega : (k : Int) < 12 ↔ k < 12)])
 refine run_rt rfl ?_
 by_cases h6 : k < 6
 ·rw [decide_eq_true h6] at t1
  have e : exD k w0 w1 w2 = .exn (kindN.getD k "") [] [] := if_neg (by omega)
  rw [e]
  unfold b__law_made sSeq onNx
  show R.bind (sIf (e2 dLt (eVar 0) (eC (.int 6))) (sRet (eCall p__law_first (aCons (eVar 0) aNil))) sNext [some (.v (.int k)), some (.v (.lst (wsD w0 w1 w2)))]) _ = _
  rw [if_t t1 (ret_ok (call_ok rfl (first_ok k h6)))]
  rfl
 ·rw [decide_eq_false h6] at t1
  refine seq_same (if_f t1 rfl) ?_
  by_cases h12 : k < 12
  ·rw [decide_eq_true h12] at t2
   have e : exD k w0 w1 w2 = .exn (kindN.getD k "") [] [] := if_neg (by omega)
   rw [e]
   unfold sSeq onNx
   show R.bind (sIf (e2 dLt (eVar 0) (eC (.int 12))) (sRet (eCall p__law_second (aCons (eVar 0) aNil))) sNext [some (.v (.int k)), some (.v (.lst (wsD w0 w1 w2)))]) _ = _
   rw [if_t t2 (ret_ok (call_ok rfl (second_ok k (by omega) h12)))]
   rfl
  ·rw [decide_eq_false h12] at t2
   have e : exD k w0 w1 w2 = .exn "NotSettled" ["front", "one", "other"] (wsD w0 w1 w2) := if_pos (by omega)
   rw [e]
   refine seq_same (if_f t2 rfl) (ret_ok ?_)
   have a0 : e2 dIx (eVar 1) (eC (.int 0)) [some (.v (.int k)), some (.v (.lst (wsD w0 w1 w2)))] = .ok (.str w0) := op_ok rfl rfl (ix_ok (by unfold wsD; simp [atI, ixN]))
   have a1 : e2 dIx (eVar 1) (eC (.int 1)) [some (.v (.int k)), some (.v (.lst (wsD w0 w1 w2)))] = .ok (.str w1) := op_ok rfl rfl (ix_ok (by unfold wsD; simp [atI, ixN]))
   have a2 : e2 dIx (eVar 1) (eC (.int 2)) [some (.v (.int k)), some (.v (.lst (wsD w0 w1 w2)))] = .ok (.str w2) := op_ok rfl rfl (ix_ok (by unfold wsD; simp [atI, ixN]))
   show R.bind (aCons (e2 dIx (eVar 1) (eC (.int 0))) (aCons (e2 dIx (eVar 1) (eC (.int 1))) (aCons (e2 dIx (eVar 1) (eC (.int 2))) aNil)) [some (.v (.int k)), some (.v (.lst (wsD w0 w1 w2)))]) _ = _
   rw [arg_ok a0 (arg_ok a1 (arg_ok a2 rfl)), bind_ok']
   exact guardR_pos rfl
theorem isX_ok {c : String} {ns : List String} {ds : List D} {yes no : List String} {st : PSt} {f : Ex} {b : Bool} (hf : f st = .ok (.exn c ns ds)) (h : (if c ∈ yes then R.ok (D.bl true) else if c ∈ no then R.ok (D.bl false) else R.bad) = .ok (.bl b)) : e1 (dIsX yes no) f st = .ok (.bl b) := by
 show R.bind (f st) _ = _
 rw [hf, bind_ok']
 exact h
theorem add_ok {xs ys : List D} (h : xs.length + ys.length <= 1000) : dAdd (.lst xs) (.lst ys) = .ok (.lst (xs ++ ys)) := guardR_pos (le_big (by omega))
def oneD (k n : Nat) : List D := (List.range n).map fun j => D.bl (decide (j = k))
theorem kinds_of {c : String} {ns : List String} {ds : List D} (k : Nat) (hk : k < 13) (hc : c = kindN.getD k "") : p__law_kinds [.exn c ns ds] = .ok (.lst (oneD k 13)) := by
 subst hc
 revert hk
 revert k
 refine lt_13 ?_ ?_ ?_ ?_ ?_ ?_ ?_ ?_ ?_ ?_ ?_ ?_ ?_ <;>
  exact run_rt rfl (seq_nx (set_ok (lst_ok (arg_ok (isX_ok rfl rfl) (arg_ok (isX_ok rfl rfl) (arg_ok (isX_ok rfl rfl) (arg_ok (isX_ok rfl rfl) rfl)))))) (seq_nx (set_ok (op_ok rfl (lst_ok (arg_ok (isX_ok rfl rfl) (arg_ok (isX_ok rfl rfl) (arg_ok (isX_ok rfl rfl) (arg_ok (isX_ok rfl rfl) rfl))))) (add_ok (Nat.le_of_ble_eq_true rfl)))) (seq_nx (set_ok (op_ok rfl (lst_ok (arg_ok (isX_ok rfl rfl) (arg_ok (isX_ok rfl rfl) (arg_ok (isX_ok rfl rfl) (arg_ok (isX_ok rfl rfl) rfl))))) (add_ok (Nat.le_of_ble_eq_true rfl)))) (ret_ok (op_ok rfl (lst_ok (arg_ok (isX_ok rfl rfl) rfl)) (add_ok (Nat.le_of_ble_eq_true rfl)))))))
def keptD (d : D) : Prop := ∃ w0 w1 w2, d = .tup [.exn "NotSettled" ["front", "one", "other"] (wsD w0 w1 w2), .lst (wsD w0 w1 w2)]
def qst (ns : List Int) (xs kept : List D) (x3 x4 x5 x6 : Option Sl) : PSt := [some (.v (.lst (ns.map D.int))), some (.v (.lst xs)), some (.o .l kept), x3, x4, x5, x6, none]
theorem one_plain : ∀ l : List Nat, ∀ k : Nat, plains (l.map fun j => D.bl (decide (j = k))) = true /\ deps (l.map fun j => D.bl (decide (j = k))) = 0 /\ eqDs (l.map fun j => D.bl (decide (j = k))) (l.map fun j => D.bl (decide (j = k))) = true
 | [], k => ⟨rfl, rfl, rfl⟩
 | j :: l, k => by
  obtain ⟨h1, h2, h3⟩ := one_plain l k
  rw [List.map_cons]
  refine ⟨by rw [plains_cons, h1]; rfl, by rw [deps_cons, h2]; rfl, ?_⟩
  conv => lhs; unfold eqDs
  rw [h3]
  cases decide (j = k) <;> rfl
theorem words_ok (ns : List Int) (xs kept : List D) (cell k : Int) (x5 x6 : Option Sl) : ∃ w0 w1 w2, eComp [7] (tgN 7) (itR1 (eC (.int 3))) eTrue E_law_0 (qst ns xs kept (some (.v (.int cell))) (some (.v (.int k))) x5 x6) = .ok (.lst (wsD w0 w1 w2)) := by
 have g0 : 0 <= cell / 13 % 5 := Int.emod_nonneg _ (by decide)
 have g1 : cell / 13 % 5 < 5 := Int.emod_lt_of_pos _ (by decide)
 obtain ⟨s, hs⟩ : ∃ s : Nat, cell / 13 % 5 = s := ⟨(cell / 13 % 5).toNat, by omega⟩
 have key : ∀ j : Nat, j <= 2 -> ∃ w, E_law_0 ((qst ns xs kept (some (.v (.int cell))) (some (.v (.int k))) x5 x6).set 7 (some (.v (.int j)))) = .ok (.str w) := fun j hj => by
  obtain ⟨w, hw⟩ := text_ok (cell / 13 + 7 * j) (s + j) (by omega)
  refine ⟨w, call_ok (arg_ok (d := .int (cell / 13 + 7 * j)) (op_ok (op_ok rfl rfl (fdiv_ok (by decide))) (op_ok rfl rfl (mulC_ok (by decide) _)) rfl) (arg_ok (d := .int ((s + j : Nat) : Int)) (op_ok (op_ok (op_ok rfl rfl (fdiv_ok (by decide))) rfl (mod_ok (by decide))) rfl ?_) rfl)) hw⟩
  rw [hs, Int.natCast_add]
  rfl
 obtain ⟨w0, e0⟩ := key 0 (by omega)
 obtain ⟨w1, e1⟩ := key 1 (by omega)
 obtain ⟨w2, e2⟩ := key 2 (by omega)
 refine ⟨w0, w1, w2, comp_if (r1_ok (n := 3) rfl (by decide)) (by decide) ?_⟩
 show compR (tgN 7) eTrue E_law_0 (qst ns xs kept (some (.v (.int cell))) (some (.v (.int k))) x5 x6) [.int ((0 : Nat) : Int), .int ((1 : Nat) : Int), .int ((2 : Nat) : Int)] = _
 have st : ∀ (d : D) (ds : List D) (w : List Nat) (r : List D), E_law_0 ((qst ns xs kept (some (.v (.int cell))) (some (.v (.int k))) x5 x6).set 7 (some (.v d))) = .ok (.str w) -> compR (tgN 7) eTrue E_law_0 (qst ns xs kept (some (.v (.int cell))) (some (.v (.int k))) x5 x6) ds = .ok r -> compR (tgN 7) eTrue E_law_0 (qst ns xs kept (some (.v (.int cell))) (some (.v (.int k))) x5 x6) (d :: ds) = .ok (.str w :: r) := fun d ds w r h1 h2 => by
  rw [compR_cons]
  show R.bind (E_law_0 ((qst ns xs kept (some (.v (.int cell))) (some (.v (.int k))) x5 x6).set 7 (some (.v d)))) _ = _
  rw [h1, bind_ok', h2]
  rfl
 exact st _ _ w0 _ e0 (st _ _ w1 _ e1 (st _ _ w2 _ e2 rfl))
theorem turn_ok (ns : List Int) (xs kept : List D) (hk : kept.length <= 1000) (hq : ∀ d ∈ kept, keptD d) (cell : Int) (x4 x5 x6 : Option Sl) : ∃ kept' y4 y5 y6, L_law_3 (qst ns xs kept (some (.v (.int cell))) x4 x5 x6) = .ok (.nx (qst ns xs kept' (some (.v (.int cell))) y4 y5 y6)) /\ kept'.length <= kept.length + 1 /\ ∀ d ∈ kept', keptD d := by
 have g0 : 0 <= cell % 13 := Int.emod_nonneg _ (by decide)
 have g1 : cell % 13 < 13 := Int.emod_lt_of_pos _ (by decide)
 obtain ⟨k, hkk⟩ : ∃ k : Nat, cell % 13 = k := ⟨(cell % 13).toNat, by omega⟩
 have hk13 : k < 13 := by omega
 obtain ⟨w0, w1, w2, ew⟩ := words_ok ns xs kept cell k x5 x6
 have em := made_ok k hk13 w0 w1 w2
 have hC : ∃ c n d, exD k w0 w1 w2 = .exn c n d /\ c = kindN.getD k "" := by
  by_cases h : k = 12
  ·subst h; exact ⟨_, _, _, rfl, rfl⟩
  ·exact ⟨_, _, _, if_neg h, rfl⟩
 obtain ⟨c, n, d, hx, hc⟩ := hC
 have hm : c ∈ ["NoEnd", "NoFraction", "NoKind", "NoLine", "NoLoop", "NoMachine", "NoName", "NoPaper", "NoRoom", "NoText", "NoWord", "NotSettled", "OtherLetters"] := by
  rw [hc]
  revert hk13
  clear hc hx ew em hkk
  revert k
  exact lt_13 (by decide) (by decide) (by decide) (by decide) (by decide) (by decide) (by decide) (by decide) (by decide) (by decide) (by decide) (by decide) (by decide)
 have eK := kinds_of (ns := n) (ds := d) k hk13 hc
 rw [<- hx] at eK
 let s0 : PSt := qst ns xs kept (some (.v (.int cell))) (some (.v (.int k))) (some (.v (.lst (wsD w0 w1 w2)))) (some (.v (exD k w0 w1 w2)))
 have hi : e1 (dIsX ["NoEnd", "NoFraction", "NoKind", "NoLine", "NoLoop", "NoMachine", "NoName", "NoPaper", "NoRoom", "NoText", "NoWord", "NotSettled", "OtherLetters"] []) (eVar 6) s0 = .ok (.bl true) := isX_ok (c := c) (ns := n) (ds := d) (by rw [<- hx]; rfl) (if_pos hm)
 have hl : eComp [7] (tgN 7) (itR1 (eC (.int 13))) eTrue E_law_2 s0 = .ok (.lst (oneD k 13)) := comp_if (r1_ok (n := 13) rfl (by decide)) (by decide) (by
  have : oneD k 13 = (nats (List.range 13)).map fun y => match y with | .int i => D.bl (decide (i = (k : Int))) | y => y := by
   unfold oneD nats
   rw [List.map_map]
   refine List.map_congr_left fun j _ => ?_
   show D.bl (decide (j = k)) = D.bl (decide ((j : Int) = (k : Int)))
   rw [decide_eq_decide.mpr (by omega : (j : Int) = (k : Int) ↔ j = k)]
  rw [this]
  exact compR_map _ _ fun y hy => by
   obtain ⟨j, _, rfl⟩ := List.mem_map.mp hy
   exact ⟨_, rfl, rfl, op_ok rfl rfl (eqi_ok _ _)⟩)
 obtain ⟨p1, p2, p3⟩ := one_plain (List.range 13) k
 have hne : dNe (.lst (oneD k 13)) (.lst (oneD k 13)) = .ok (.bl false) := by
  have kd : dep (.lst (oneD k 13)) = 1 := by unfold dep; rw [show deps (oneD k 13) = 0 from p2]
  have ke : eqD (.lst (oneD k 13)) (.lst (oneD k 13)) = true := by (conv => lhs; unfold eqD); exact p3
  have kp : plain (.lst (oneD k 13)) = true := by (conv => lhs; unfold plain); exact p1
  rw [dNe_ap, guardR_pos ⟨by omega, kp, kp⟩, ke]
  rfl
 have t : e2 dEq (eVar 4) (eC (.int 12)) s0 = .ok (.bl (decide (k = 12))) := op_ok rfl rfl (by
  rw [eqi_ok, decide_eq_decide.mpr (by omega : (k : Int) = 12 ↔ k = 12)])
 have go : ∀ {r : R Fl}, sIf (e2 dEq (eVar 4) (eC (.int 12))) (sApp 2 (eTup (aCons (eVar 6) (aCons (eVar 5) aNil)))) sNext s0 = r -> L_law_3 (qst ns xs kept (some (.v (.int cell))) x4 x5 x6) = r := fun {r} h => by
  refine seq_nx (st' := qst ns xs kept (some (.v (.int cell))) (some (.v (.int k))) x5 x6) (set_ok (op_ok rfl rfl (by rw [<- hkk]; exact mod_ok (by decide)))) ?_
  refine seq_nx (st' := qst ns xs kept (some (.v (.int cell))) (some (.v (.int k))) (some (.v (.lst (wsD w0 w1 w2)))) x6) (set_ok ew) ?_
  refine seq_nx (st' := s0) (set_ok (call_ok rfl em)) ?_
  refine seq_same (if_f (or_ok (p := false) (q := false) (not_ok (p := true) hi) fun _ => not_ok (p := true) hi) rfl) ?_
  exact seq_same (if_f (op_ok (call_ok rfl eK) hl hne) rfl) h
 by_cases h12 : k = 12
 ·rw [decide_eq_true h12] at t
  have hX : exD k w0 w1 w2 = .exn "NotSettled" ["front", "one", "other"] (wsD w0 w1 w2) := if_pos h12
  have eT : eTup (aCons (eVar 6) (aCons (eVar 5) aNil)) s0 = .ok (.tup [exD k w0 w1 w2, .lst (wsD w0 w1 w2)]) := guardR_pos (le_big (by show 2 <= _; omega))
  refine ⟨kept ++ [.tup [exD k w0 w1 w2, .lst (wsD w0 w1 w2)]], _, _, _, go (if_t t (app_ok eT rfl (by omega))), by rw [List.length_append]; exact Nat.le_refl _, fun d hd => ?_⟩
  rcases List.mem_append.mp hd with hd | hd
  ·exact hq d hd
  ·rw [List.mem_singleton.mp hd, hX]
   exact ⟨w0, w1, w2, rfl⟩
 ·rw [decide_eq_false h12] at t
  exact ⟨kept, _, _, _, go (if_f t rfl), Nat.le_succ _, hq⟩
theorem loop_ok (ns : List Int) (xs : List D) : ∀ (cs : List Int) (kept : List D) (x3 x4 x5 x6 : Option Sl), kept.length + cs.length <= 1000 -> (∀ d ∈ kept, keptD d) -> ∃ kept' y3 y4 y5 y6, forR (tgN 3) L_law_3 (cs.map D.int) (qst ns xs kept x3 x4 x5 x6) = .ok (.nx (qst ns xs kept' y3 y4 y5 y6)) /\ kept'.length <= 1000 /\ ∀ d ∈ kept', keptD d
 | [], kept, x3, x4, x5, x6, h, hq => ⟨kept, x3, x4, x5, x6, rfl, by simpa using h, hq⟩
 | c :: cs, kept, x3, x4, x5, x6, h, hq => by
  rw [List.length_cons] at h
  obtain ⟨k1, y4, y5, y6, e, hl, hk⟩ := turn_ok ns xs kept (by omega) hq c x4 x5 x6
  obtain ⟨k2, z3, z4, z5, z6, e', hl', hk'⟩ := loop_ok ns xs cs k1 (some (.v (.int c))) y4 y5 y6 (by omega) hk
  exact ⟨k2, z3, z4, z5, z6, for_go rfl e e', hl', hk'⟩
theorem str_ne (w0 w1 w2 : List Nat) : dNe (.lst (wsD w0 w1 w2)) (.lst (wsD w0 w1 w2)) = .ok (.bl false) := by
 rw [dNe_ap, guardR_pos ⟨by unfold wsD; simp [dep, deps], rfl, rfl⟩]
 unfold wsD
 simp [eqD, eqDs]
theorem fld_ok {f : String} {w0 w1 w2 : List Nat} {d : D} {st : PSt} (hv : eVar 6 st = .ok (.exn "NotSettled" ["front", "one", "other"] (wsD w0 w1 w2))) (h : (["front", "one", "other"].zip (wsD w0 w1 w2)).lookup f = some d) : e1 (dXFld "NotSettled" f) (eVar 6) st = .ok d := by
 show R.bind (eVar 6 st) _ = _
 rw [hv, bind_ok']
 show guardR _ _ = _
 rw [guardR_pos rfl, h]
 rfl
theorem ints_plain : ∀ l : List Int, plains (l.map D.int) = true /\ deps (l.map D.int) = 0
 | [] => ⟨rfl, rfl⟩
 | i :: l => by
  obtain ⟨h1, h2⟩ := ints_plain l
  rw [List.map_cons, plains_cons, deps_cons, h1, h2]
  exact ⟨rfl, rfl⟩
theorem law_true (ns : List Int) (hn : ns.length <= 63) : p_law [.lst (ns.map D.int)] = .ok (.bl true) := by
 have hcut : cut (ns.map D.int) none (some 30) = (ns.take 30).map D.int := by
  unfold cut
  simp [sIx]
 refine run_rt rfl (seq_nx (st' := [some (.v (.lst (ns.map D.int))), some (.v (.lst ((ns.take 30).map D.int))), none, none, none, none, none, none]) (set_ok (by rw [<- hcut]; rfl)) ?_)
 obtain ⟨cs, hl, e⟩ : ∃ cs : List Int, cs.length <= 63 /\ sIf (e2 dEq (eVar 1) (eLst (aNil))) (sSet 1 (eLst (aCons (eC (.int 12)) (aNil)))) (sNext) [some (.v (.lst (ns.map D.int))), some (.v (.lst ((ns.take 30).map D.int))), none, none, none, none, none, none] = .ok (.nx [some (.v (.lst (ns.map D.int))), some (.v (.lst (cs.map D.int))), none, none, none, none, none, none]) := by
  have hle : (ns.take 30).length <= 63 := by rw [List.length_take]; omega
  generalize ns.take 30 = cs at hle
  obtain ⟨p1, p2⟩ := ints_plain cs
  have hd : dep (.lst (cs.map D.int)) <= 64 := by unfold dep; omega
  have hp : plain (.lst (cs.map D.int)) = true := by (conv => lhs; unfold plain); exact p1
  cases cs with
  | nil => exact ⟨[12], by decide, if_t (op_ok rfl (lst_ok rfl) (by rw [dEq_ap, guardR_pos ⟨hd, hp, rfl⟩]; rfl)) (set_ok (lst_ok rfl))⟩
  | cons c cs => exact ⟨c :: cs, hle, if_f (op_ok rfl (lst_ok rfl) (by rw [dEq_ap, guardR_pos ⟨hd, hp, rfl⟩]; rfl)) rfl⟩
 refine seq_nx e (seq_nx (st' := qst ns (cs.map D.int) [] none none none none) (setO_ok (lst_ok rfl)) ?_)
 obtain ⟨kept, y3, y4, y5, y6, e1, hk, hq⟩ := loop_ok ns (cs.map D.int) cs [] none none none none (by show 0 + cs.length <= _; omega) fun _ h => nomatch h
 refine seq_nx (for_ok (it_ok rfl) e1) ?_
 obtain ⟨st', _, e2⟩ := for_inv (tg := tgT [6, 5]) (L := L_law_4) (fun st => ∃ z5 z6, st = [some (.v (.lst (ns.map D.int))), some (.v (.lst (cs.map D.int))), some (.v (.lst kept)), y3, y4, z5, z6, none]) kept (fun d hd st ⟨z5, z6, hst⟩ => by
  obtain ⟨w0, w1, w2, rfl⟩ := hq d hd
  subst hst
  exact ⟨_, _, rfl, if_f (op_ok (lst_ok (arg_ok (fld_ok (w0 := w0) (w1 := w1) (w2 := w2) rfl rfl) (arg_ok (fld_ok (w0 := w0) (w1 := w1) (w2 := w2) rfl rfl) (arg_ok (fld_ok (w0 := w0) (w1 := w1) (w2 := w2) rfl rfl) rfl)))) rfl (str_ne w0 w1 w2)) rfl, _, _, rfl⟩) _ ⟨y5, y6, rfl⟩
 exact seq_nx (for_ok (it_ok rfl) e2) (ret_ok rfl)
end Pu
namespace Pu
open PySem PySem.Spec PyProof.Rows L2
abbrev LSt := L2.St
def keyD : Key -> D
 | .inl i => .int i
 | .inr x => .str x.cps.toList
structure ExcCl (K : PySem.W.Frag) (C : Addr) : Prop where
 ga : PySem.W.findIn K (.ref C) "__getattribute__" = some (some (.builtin "BaseException.__getattribute__"))
 gn : PySem.W.findIn K (.ref C) "__getattr__" = some none
 mb : PySem.W.mroIn K C (.type "BaseException") = some true
 cl : (PySem.W.clsIn K C).isSome = true
 fd : PySem.W.findIn K (.ref C) "__class__" = some (some (.builtin "object.__class__"))
 sp : PySem.W.specialIn K (.builtin "object.__class__") "__get__" = some (some (.builtin "getset_descriptor.__get__"))
 tk : PySem.W.takesIn K (.builtin "object.__class__") = some true
 mr : PySem.W.mroIn K C (.type "object") = some true
structure ExcAt (K : PySem.W.Frag) (c : String) (C : Addr) (bm : List Value) : Prop where
 ns : PySem.W.nsIn K mainGlobals (Str.ofString c) = some (some (.ref C))
 ob : ∃ (B newId initId : String) (bmB : List Value), ExcBaseFacts B newId initId bmB /\ ∀ h, K.In h -> ∃ N nm q bs hdct sn sub ab col dd k0 k1 k2 k3 k5 mN,
  h.get? C = some (excClassObj nm q C N bs bm hdct sn sub ab col dd k0 k1 k2 k3 k5 newId) /\ h.Ns N mN /\ mN "__init__" = none /\ OwnTail h bmB bm
 ic : ExcCl K C
def ExcOb (a C : Addr) (h : Heap) : Prop := ∃ o, h.get? a = some o /\ o.cls = .ref C /\ PySem.W.notCls o = true
structure ExcIs (K : PySem.W.Frag) (c : String) (C : Addr) : Prop where
 ns : PySem.W.nsIn K mainGlobals (Str.ofString c) = some (some (.ref C))
 ic : ExcCl K C
theorem ExcAt.is {K : PySem.W.Frag} {c : String} {C : Addr} {bm : List Value} (h : ExcAt K c C bm) : ExcIs K c C := ⟨h.ns, h.ic⟩
def xOb (x C : Addr) (d : Option Addr) (h : Heap) : Prop := ∃ o, h.get? x = some o /\ o.cls = .ref C /\ PySem.W.notCls o = true /\ o.dict = d
def xFs (dx : Addr) (fs : List (Str × V)) (h : Heap) : Prop := ∃ mA, h.Ns1 dx mA /\ (∀ f, RelO (fs.lookup f) (mA f)) /\ PySem.Within mA (fs.map (·.1))
mutual
def Rep (K : PySem.W.Frag) (H : Hp) : D -> V -> Prop
 | .non, v => v = V.non
 | .bl b, v => v = V.bl b
 | .int i, v => v = V.int i
 | .str s, v => v = V.str ⟨s.toArray⟩
 | .tup ds, v => ∃ a vs, v = V.ref a /\ H a = some (.tup vs) /\ Reps K H ds vs
 | .lst ds, v => ∃ a vs, v = V.ref a /\ SqL K H a vs /\ Reps K H ds vs
 | .dct t ks ds, v => ∃ a vs, v = V.ref a /\ ((t = false /\ ∃ kvs : List (Key × V), H a = some (.dK kvs) /\ kvs.map (fun p => keyD p.1) = ks /\ vs = kvs.map (·.2)) \/ (t = true /\ ∃ kvs : List (List Key × V), H a = some (.dT kvs) /\ kvs.map (fun p => D.tup (p.1.map keyD)) = ks /\ vs = kvs.map (·.2))) /\ Reps K H ds vs
 | .ins c ns ds, v => ∃ a C dx fs vs, v = V.ref a /\ H a = some (.ins C dx fs) /\ PySem.W.nsIn K mainGlobals (Str.ofString c) = some (some (.ref C)) /\ fs.map (·.1) = ns.map Str.ofString /\ vs = fs.map (·.2) /\ Reps K H ds vs
 | .exn c ns ds, v => ∃ a φ C, v = V.ref a /\ H a = some (.ext φ) /\ (∀ h, φ h -> ExcOb a C h) /\ ExcIs K c C /\ ∃ dx fs vs, ((ns = [] /\ vs = []) \/ (φ = xOb a C (some dx) /\ dx ≠ a /\ H dx = some (.ext (xFs dx fs)) /\ fs.map (·.1) = ns.map Str.ofString /\ vs = fs.map (·.2))) /\ Reps K H ds vs
def Reps (K : PySem.W.Frag) (H : Hp) : List D -> List V -> Prop
 | [], vs => vs = []
 | d :: ds, vs => ∃ v r, vs = v :: r /\ Rep K H d v /\ Reps K H ds r
end
theorem sqT_mono {K : PySem.W.Frag} {H H' : Hp} {a : Addr} {xs : List V} (e : Same H H') (h : SqT K H a xs) : SqT K H' a xs := by
 rcases h with (h | ⟨o, h⟩) | h
 ·exact .inl (.inl (e _ _ h))
 ·exact .inl (.inr ⟨o, e _ _ h⟩)
 ·exact .inr h
mutual
theorem Rep.mono {K : PySem.W.Frag} {H H' : Hp} (s : Same H H') : ∀ {d : D} {v : V}, Rep K H d v -> Rep K H' d v
 | .non, _, h => by unfold Rep at h ⊢; exact h
 | .bl _, _, h => by unfold Rep at h ⊢; exact h
 | .int _, _, h => by unfold Rep at h ⊢; exact h
 | .str _, _, h => by unfold Rep at h ⊢; exact h
 | .tup _, _, h => by
  unfold Rep at h ⊢
  obtain ⟨a, vs, e, q, r⟩ := h
  exact ⟨a, vs, e, s _ _ q, Reps.mono s r⟩
 | .lst _, _, h => by
  unfold Rep at h ⊢
  obtain ⟨a, vs, e, q, r⟩ := h
  exact ⟨a, vs, e, s.seq q, Reps.mono s r⟩
 | .dct _ _ _, _, h => by
  unfold Rep at h ⊢
  obtain ⟨a, vs, e, q, r⟩ := h
  refine ⟨a, vs, e, ?_, Reps.mono s r⟩
  rcases q with ⟨q0, kvs, q1, q2⟩ | ⟨q0, kvs, q1, q2⟩
  ·exact .inl ⟨q0, kvs, s _ _ q1, q2⟩
  ·exact .inr ⟨q0, kvs, s _ _ q1, q2⟩
 | .ins _ _ _, _, h => by
  unfold Rep at h ⊢
  obtain ⟨a, C, dx, fs, vs, e, q1, q2, q3, q4, r⟩ := h
  exact ⟨a, C, dx, fs, vs, e, s _ _ q1, q2, q3, q4, Reps.mono s r⟩
 | .exn _ _ _, _, h => by
  unfold Rep at h ⊢
  obtain ⟨a, φ, C, e, q, hφ, hi, dx, fs, vs, h1, r⟩ := h
  refine ⟨a, φ, C, e, s _ _ q, hφ, hi, dx, fs, vs, ?_, Reps.mono s r⟩
  rcases h1 with h1 | ⟨h1, h2, h3, h4⟩
  ·exact .inl h1
  ·exact .inr ⟨h1, h2, s _ _ h3, h4⟩
theorem Reps.mono {K : PySem.W.Frag} {H H' : Hp} (s : Same H H') : ∀ {ds : List D} {vs : List V}, Reps K H ds vs -> Reps K H' ds vs
 | [], _, h => by unfold Reps at h ⊢; exact h
 | d :: ds, _, h => by
  unfold Reps at h ⊢
  obtain ⟨v, r, e, q, t⟩ := h
  exact ⟨v, r, e, Rep.mono s q, Reps.mono s t⟩
end
section
variable {K : PySem.W.Frag} {H : Hp}
theorem rep_non {v : V} : Rep K H .non v ↔ v = V.non := by unfold Rep; exact Iff.rfl
theorem rep_bl {b : Bool} {v : V} : Rep K H (.bl b) v ↔ v = V.bl b := by unfold Rep; exact Iff.rfl
theorem rep_int {i : Int} {v : V} : Rep K H (.int i) v ↔ v = V.int i := by unfold Rep; exact Iff.rfl
theorem rep_str {s : List Nat} {v : V} : Rep K H (.str s) v ↔ v = V.str ⟨s.toArray⟩ := by unfold Rep; exact Iff.rfl
theorem rep_tupD {ds : List D} {v : V} : Rep K H (.tup ds) v ↔ ∃ a vs, v = V.ref a /\ H a = some (.tup vs) /\ Reps K H ds vs := by conv => lhs; unfold Rep
theorem rep_tup_mp {ds : List D} {v : V} (h : Rep K H (.tup ds) v) : ∃ a vs, v = V.ref a /\ SqT K H a vs /\ Reps K H ds vs :=
 let ⟨a, vs, e, q, r⟩ := rep_tupD.mp h; ⟨a, vs, e, SqT.of q, r⟩
theorem rep_lst {ds : List D} {v : V} : Rep K H (.lst ds) v ↔ ∃ a vs, v = V.ref a /\ SqL K H a vs /\ Reps K H ds vs := by conv => lhs; unfold Rep
theorem rep_dct {t : Bool} {ks ds : List D} {v : V} : Rep K H (.dct t ks ds) v ↔ ∃ a vs, v = V.ref a /\ ((t = false /\ ∃ kvs : List (Key × V), H a = some (.dK kvs) /\ kvs.map (fun p => keyD p.1) = ks /\ vs = kvs.map (·.2)) \/ (t = true /\ ∃ kvs : List (List Key × V), H a = some (.dT kvs) /\ kvs.map (fun p => D.tup (p.1.map keyD)) = ks /\ vs = kvs.map (·.2))) /\ Reps K H ds vs := by conv => lhs; unfold Rep
theorem rep_ins {c : String} {ns : List String} {ds : List D} {v : V} : Rep K H (.ins c ns ds) v ↔ ∃ a C dx fs vs, v = V.ref a /\ H a = some (.ins C dx fs) /\ PySem.W.nsIn K mainGlobals (Str.ofString c) = some (some (.ref C)) /\ fs.map (·.1) = ns.map Str.ofString /\ vs = fs.map (·.2) /\ Reps K H ds vs := by conv => lhs; unfold Rep
theorem rep_exn {c : String} {ns : List String} {ds : List D} {v : V} : Rep K H (.exn c ns ds) v ↔ ∃ a φ C, v = V.ref a /\ H a = some (.ext φ) /\ (∀ h, φ h -> ExcOb a C h) /\ ExcIs K c C /\ ∃ dx fs vs, ((ns = [] /\ vs = []) \/ (φ = xOb a C (some dx) /\ dx ≠ a /\ H dx = some (.ext (xFs dx fs)) /\ fs.map (·.1) = ns.map Str.ofString /\ vs = fs.map (·.2))) /\ Reps K H ds vs := by conv => lhs; unfold Rep
theorem reps_nil {vs : List V} : Reps K H [] vs ↔ vs = [] := by unfold Reps; exact Iff.rfl
theorem reps_cons {d : D} {ds : List D} {vs : List V} : Reps K H (d :: ds) vs ↔ ∃ v r, vs = v :: r /\ Rep K H d v /\ Reps K H ds r := by conv => lhs; unfold Reps
theorem Reps.nil : Reps K H [] [] := reps_nil.mpr rfl
theorem Reps.cons {d : D} {ds : List D} {v : V} {vs : List V} (h : Rep K H d v) (t : Reps K H ds vs) : Reps K H (d :: ds) (v :: vs) := reps_cons.mpr ⟨v, vs, rfl, h, t⟩
theorem Reps.length : ∀ {ds : List D} {vs : List V}, Reps K H ds vs -> vs.length = ds.length
 | [], _, h => by rw [reps_nil.mp h]; rfl
 | _ :: ds, _, h => by
  obtain ⟨v, r, rfl, _, t⟩ := reps_cons.mp h
  rw [List.length_cons, List.length_cons, Reps.length t]
theorem Reps.get : ∀ {ds : List D} {vs : List V} {i : Nat} {d : D}, Reps K H ds vs -> ds[i]? = some d -> ∃ v, vs[i]? = some v /\ Rep K H d v
 | [], _, _, _, _, e => by simp at e
 | _ :: ds, _, 0, d, h, e => by
  obtain ⟨v, r, rfl, q, t⟩ := reps_cons.mp h
  simp at e; subst e
  exact ⟨v, rfl, q⟩
 | _ :: ds, _, i + 1, d, h, e => by
  obtain ⟨v, r, rfl, q, t⟩ := reps_cons.mp h
  obtain ⟨u, e1, e2⟩ := Reps.get (i := i) t (by simpa using e)
  exact ⟨u, by simpa using e1, e2⟩
theorem Reps.append : ∀ {ds es : List D} {vs us : List V}, Reps K H ds vs -> Reps K H es us -> Reps K H (ds ++ es) (vs ++ us)
 | [], _, _, _, h, t => by rw [reps_nil.mp h]; exact t
 | _ :: _, _, _, _, h, t => by
  obtain ⟨v, r, rfl, q, w⟩ := reps_cons.mp h
  exact .cons q (Reps.append w t)
theorem Reps.set {d : D} {v : V} (hd : Rep K H d v) : ∀ {ds : List D} {vs : List V} (i : Nat), Reps K H ds vs -> Reps K H (ds.set i d) (vs.set i v)
 | [], _, _, h => by rw [reps_nil.mp h]; exact .nil
 | _ :: _, _, 0, h => by
  obtain ⟨v, r, rfl, q, w⟩ := reps_cons.mp h
  exact .cons hd w
 | _ :: _, _, i + 1, h => by
  obtain ⟨v, r, rfl, q, w⟩ := reps_cons.mp h
  exact .cons q (Reps.set hd i w)
theorem Reps.take : ∀ {ds : List D} {vs : List V} (n : Nat), Reps K H ds vs -> Reps K H (ds.take n) (vs.take n)
 | _, _, 0, _ => .nil
 | [], _, _ + 1, h => by rw [reps_nil.mp h]; exact .nil
 | _ :: _, _, n + 1, h => by
  obtain ⟨v, r, rfl, q, w⟩ := reps_cons.mp h
  exact .cons q (Reps.take n w)
theorem Reps.drop : ∀ {ds : List D} {vs : List V} (n : Nat), Reps K H ds vs -> Reps K H (ds.drop n) (vs.drop n)
 | _, _, 0, h => h
 | [], _, _ + 1, h => by rw [reps_nil.mp h]; exact .nil
 | _ :: _, _, n + 1, h => by
  obtain ⟨v, r, rfl, q, w⟩ := reps_cons.mp h
  exact Reps.drop n w
theorem Reps.rep {ds : List D} {vs : List V} (h : Reps K H ds vs) : ∀ n : Nat, Reps K H (Pu.rep n ds) (List.replicate n vs).flatten
 | 0 => .nil
 | n + 1 => by
  unfold Pu.rep
  rw [List.replicate_succ, List.flatten_cons, List.replicate_succ, List.flatten_cons]
  exact h.append (Reps.rep h n)
end
def hide (A : List Addr) (H : Hp) : Hp := fun b => if b ∈ A then none else H b
theorem hide_in {A : List Addr} {H : Hp} {b : Addr} (h : b ∈ A) : hide A H b = none := if_pos h
theorem hide_out {A : List Addr} {H : Hp} {b : Addr} (h : b ∉ A) : hide A H b = H b := if_neg h
theorem hide_sub (A : List Addr) (H : Hp) : Same (hide A H) H := fun b o h => by
 unfold hide at h
 split at h
 ·cases h
 ·exact h
theorem Same.hide {A : List Addr} {H H' : Hp} (s : Same H H') : Same (hide A H) (hide A H') := fun b o h => by
 unfold Pu.hide at h ⊢
 split at h
 ·cases h
 ·rename_i q
  rw [if_neg q]
  exact s b o h
theorem hide_more {A A' : List Addr} {H : Hp} (h : ∀ a ∈ A', a ∈ A) : Same (hide A H) (hide A' H) := fun b o q => by
 by_cases hb : b ∈ A
 ·rw [hide_in hb] at q; cases q
 ·rw [hide_out hb] at q
  rw [hide_out fun z => hb (h b z)]
  exact q
theorem hide_nil (H : Hp) : hide [] H = H := by
 funext b
 exact hide_out (by simp)
theorem hide_upd {A : List Addr} {H : Hp} {a : Addr} {o : HO} (h : a ∈ A) : hide A (upd H a o) = hide A H := by
 funext b
 by_cases hb : b ∈ A
 ·rw [hide_in hb, hide_in hb]
 ·rw [hide_out hb, hide_out hb]
  exact upd_ne fun z => hb (z ▸ h)
theorem same_upd {H : Hp} {p : Addr} {o : HO} (h : H p = none) : Same H (upd H p o) := fun b u q => by
 rw [upd_ne (ne_of_none q h)]; exact q
def Own (A : List Addr) (H : Hp) : Prop := ∀ a ∈ A, (H a).isSome = true
theorem Own.mono {A : List Addr} {H H' : Hp} (h : Own A H) (s : Same H H') : Own A H' := fun a ha => by
 obtain ⟨o, e⟩ := Option.isSome_iff_exists.mp (h a ha)
 rw [s a o e]; rfl
theorem Own.free {A : List Addr} {H : Hp} (h : Own A H) {p : Addr} (e : H p = none) : p ∉ A := fun z => by
 have q := h p z
 rw [e] at q; cases q
theorem rep_new_lst {K : PySem.W.Frag} {A : List Addr} {H : Hp} {p : Addr} {ds : List D} {vs : List V} (w : Own A H) (e : H p = none) (h : Reps K (hide A H) ds vs) : Rep K (hide A (upd H p (.lst vs))) (.lst ds) (.ref p) :=
 rep_lst.mpr ⟨p, vs, rfl, SqL.of (by rw [hide_out (w.free e)]; exact upd_same), h.mono (Same.hide (same_upd e))⟩
theorem rep_new_tup {K : PySem.W.Frag} {A : List Addr} {H : Hp} {p : Addr} {ds : List D} {vs : List V} (w : Own A H) (e : H p = none) (h : Reps K (hide A H) ds vs) : Rep K (hide A (upd H p (.tup vs))) (.tup ds) (.ref p) :=
 rep_tupD.mpr ⟨p, vs, rfl, (by rw [hide_out (w.free e)]; exact upd_same), h.mono (Same.hide (same_upd e))⟩
def KOk (K : PySem.W.Frag) : OK -> Addr -> HO -> List V -> Prop
 | .l, _, o, vs => o = .lst vs
 | .d t ks, _, o, vs => (t = false /\ ∃ kvs : List (Key × V), o = .dK kvs /\ kvs.map (fun p => keyD p.1) = ks /\ vs = kvs.map (·.2)) \/ (t = true /\ ∃ kvs : List (List Key × V), o = .dT kvs /\ kvs.map (fun p => D.tup (p.1.map keyD)) = ks /\ vs = kvs.map (·.2))
 | .i n c ns, a, o, vs => a = n /\ ∃ C dx fs, o = .ins C dx fs /\ PySem.W.nsIn K mainGlobals (Str.ofString c) = some (some (.ref C)) /\ fs.map (·.1) = ns.map Str.ofString /\ vs = fs.map (·.2)
theorem KOk.rep {K : PySem.W.Frag} {H : Hp} {k : OK} {o : HO} {vs : List V} {ds : List D} {a : Addr} (ko : KOk K k a o vs) (h : H a = some o) (r : Reps K H ds vs) : Rep K H (ofK k ds) (.ref a) := by
 cases k with
 | l => have e : o = .lst vs := ko; subst e; exact rep_lst.mpr ⟨a, vs, rfl, SqL.of h, r⟩
 | d t ks =>
  refine rep_dct.mpr ⟨a, vs, rfl, ?_, r⟩
  rcases ko with ⟨q0, kvs, rfl, q⟩ | ⟨q0, kvs, rfl, q⟩
  ·exact .inl ⟨q0, kvs, h, q⟩
  ·exact .inr ⟨q0, kvs, h, q⟩
 | i n c ns =>
  obtain ⟨_, C, dx, fs, rfl, q1, q2, q3⟩ := ko
  exact rep_ins.mpr ⟨a, C, dx, fs, vs, rfl, h, q1, q2, q3, r⟩
structure RS (K : PySem.W.Frag) (B A : List Addr) (H : Hp) (st : PSt) (σ : LSt) : Prop where
 len : st.length = σ.length
 own : Own (A ++ B) H
 dis : ∀ a ∈ A, a ∉ B
 val : ∀ (i : Nat) d, st[i]? = some (some (.v d)) -> ∃ v, σ[i]? = some (some v) /\ Rep K (hide (A ++ B) H) d v
 lst : ∀ (i : Nat) k xs, st[i]? = some (some (.o k xs)) -> ∃ a o vs, σ[i]? = some (some (.ref a)) /\ a ∈ A /\ H a = some o /\ KOk K k a o vs /\ Reps K (hide (A ++ B) H) xs vs /\
  ∀ (j : Nat) k' ys, st[j]? = some (some (.o k' ys)) -> σ[j]? = some (some (.ref a)) -> j = i
theorem RS.mono {K : PySem.W.Frag} {B A : List Addr} {H H' : Hp} {st : PSt} {σ : LSt} (r : RS K B A H st σ) (s : Same H H') : RS K B A H' st σ where
 len := r.len
 own := r.own.mono s
 dis := r.dis
 val := fun i d e => let ⟨v, e1, q⟩ := r.val i d e; ⟨v, e1, q.mono (Same.hide s)⟩
 lst := fun i k xs e => let ⟨a, o, vs, e1, m, h, ko, q, u⟩ := r.lst i k xs e; ⟨a, o, vs, e1, m, s _ _ h, ko, q.mono (Same.hide s), u⟩
def Le (A : List Addr) (H : Hp) (A' : List Addr) (H' : Hp) : Prop := Same (hide A H) (hide A' H')
theorem Le.refl {A : List Addr} {H : Hp} : Le A H A H := Same.refl _
theorem Le.of {A : List Addr} {H H' : Hp} (s : Same H H') : Le A H A H' := Same.hide s
theorem Le.trans {A A1 A2 : List Addr} {H H1 H2 : Hp} (a : Le A H A1 H1) (b : Le A1 H1 A2 H2) : Le A H A2 H2 := Same.trans a b
def tI (K : PySem.W.Frag) (B : List Addr) (f : Ex) : TE := fun σ H Q => ∃ A st d, RS K B A H st σ /\ f st = .ok d /\ ∀ v H', Same H H' -> Rep K (hide (A ++ B) H') d v -> Q v H'
def RepP (K : PySem.W.Frag) (A : List Addr) (H : Hp) (d : D) (v : V) : Prop :=
 Rep K (hide A H) d v \/ ∃ a k o ds vs, d = ofK k ds /\ v = V.ref a /\ H a = some o /\ KOk K k a o vs /\ Reps K (hide A H) ds vs
theorem RepP.mono {K : PySem.W.Frag} {A : List Addr} {H H' : Hp} {d : D} {v : V} (s : Same H H') (h : RepP K A H d v) : RepP K A H' d v := by
 rcases h with h | ⟨a, k, o, ds, vs, e1, e2, e3, ko, q⟩
 ·exact .inl (h.mono (Same.hide s))
 ·exact .inr ⟨a, k, o, ds, vs, e1, e2, s _ _ e3, ko, q.mono (Same.hide s)⟩
def tP (K : PySem.W.Frag) (B : List Addr) (f : Ex) : TE := fun σ H Q => ∃ A st d, RS K B A H st σ /\ f st = .ok d /\ ∀ v H', Same H H' -> RepP K (A ++ B) H' d v -> Q v H'
def tA (K : PySem.W.Frag) (B : List Addr) (f : Exs) : TA := fun σ H Q => ∃ A st ds, RS K B A H st σ /\ f st = .ok ds /\ ∀ vs H', Same H H' -> Reps K (hide (A ++ B) H') ds vs -> Q vs H'
def tT (K : PySem.W.Frag) (B : List Addr) (f : Ex) : TT := fun σ H Q => ∃ A st b, RS K B A H st σ /\ f st = .ok (.bl b) /\ ∀ H', Same H H' -> Q b H'
def tO (K : PySem.W.Frag) (B : List Addr) (f : ExO) : TO := fun σ H Q => ∃ A st o, RS K B A H st σ /\ f st = .ok o /\ ∀ H', Same H H' -> Q o H'
def Post (K : PySem.W.Frag) (B A : List Addr) (H : Hp) (r : Fl) (Dn : Ends) : Prop := match r with
 | .nx st' => ∀ A' σ' H', Le A H A' H' -> RS K B A' H' st' σ' -> Dn.nx σ' H'
 | .bk st' => ∀ A' σ' H', Le A H A' H' -> RS K B A' H' st' σ' -> Dn.bk σ' H'
 | .ct st' => ∀ A' σ' H', Le A H A' H' -> RS K B A' H' st' σ' -> Dn.ct σ' H'
 | .rt d => ∀ A' v H', Le A H A' H' -> Rep K (hide (A' ++ B) H') d v -> Dn.rt v H'
theorem Post.mono {K : PySem.W.Frag} {B A A1 : List Addr} {H H1 : Hp} {r : Fl} {Dn : Ends} (l : Le A H A1 H1) (p : Post K B A H r Dn) : Post K B A1 H1 r Dn := by
 cases r with
 | nx st => exact fun A' σ' H' l' => p A' σ' H' (l.trans l')
 | bk st => exact fun A' σ' H' l' => p A' σ' H' (l.trans l')
 | ct st => exact fun A' σ' H' l' => p A' σ' H' (l.trans l')
 | rt d => exact fun A' v H' l' => p A' v H' (l.trans l')
def tS (K : PySem.W.Frag) (B : List Addr) (b : Bd) : TS := fun Dn σ H => ∃ A st r, RS K B A H st σ /\ b st = .ok r /\ Post K B A H r Dn
def ItOf (K : PySem.W.Frag) (B A : List Addr) (H : Hp) (J : It) (ds : List D) : Prop := ∀ A' H', Le A H A' H' -> Own (A' ++ B) H' -> ∀ (i : Nat),
 (∀ d, ds[i]? = some d -> J.go i H' /\ ∀ x H3, J.yld i H' x H3 -> Same H' H3 /\ Rep K (hide (A' ++ B) H3) d x) /\ (ds.length <= i -> J.stop i H')
def tIt (K : PySem.W.Frag) (B : List Addr) (f : ItE) : TI := fun σ H R => ∃ A st ds, RS K B A H st σ /\ f st = .ok ds /\ ∀ J H', Same H H' -> ItOf K B A H' J ds -> R J H'
def tG (K : PySem.W.Frag) (B : List Addr) (g : Tg) : TG := fun v σ H Q => ∃ A st d s1, RS K B A H st σ /\ Rep K (hide (A ++ B) H) d v /\ g d st = .ok s1 /\ ∀ σ', RS K B A H s1 σ' -> Q σ' H
section
variable {X : Cx}
theorem pe_imp {e : Expr} {t t' : TE} (h : PE X e t) (m : ∀ σ H Q, t' σ H Q -> t σ H Q) : PE X e t' := fun pins s σ H Q I q => h pins s σ H Q I (m σ H Q q)
theorem pt_imp {e : Expr} {t t' : TT} (h : PT X e t) (m : ∀ σ H Q, t' σ H Q -> t σ H Q) : PT X e t' := fun pins s σ H Q I q => h pins s σ H Q I (m σ H Q q)
theorem pw_imp {e : Expr} {t t' : TT} (h : PW X e t) (m : ∀ σ H Q, t' σ H Q -> t σ H Q) : PW X e t' := fun w pins s σ H Q I q => h w pins s σ H Q I (m σ H Q q)
theorem pa_imp {es : List Expr} {t t' : TA} (h : PA X es t) (m : ∀ σ H Q, t' σ H Q -> t σ H Q) : PA X es t' := fun pos pins s σ H Q I q => h pos pins s σ H Q I (m σ H Q q)
theorem po_imp {e : Option Expr} {t t' : TO} (h : PO X e t) (m : ∀ σ H Q, t' σ H Q -> t σ H Q) : PO X e t' := fun pins s σ H Q I q => h pins s σ H Q I (m σ H Q q)
theorem ps_imp {st : Stmt} {t t' : TS} (h : PS X st t) (m : ∀ D σ H, t' D σ H -> t D σ H) : PS X st t' := fun pins s σ H D I q => h pins s σ H D I (m D σ H q)
theorem pss_imp {st : List Stmt} {t t' : TS} (h : PSs X st t) (m : ∀ D σ H, t' D σ H -> t D σ H) : PSs X st t' := fun pins s σ H D I q => h pins s σ H D I (m D σ H q)
theorem pg_imp {e : Expr} {t t' : TG} (h : PG X e t) (m : ∀ v σ H Q, t' v σ H Q -> t v σ H Q) : PG X e t' := fun pins s σ H v u Q I r q => h pins s σ H v u Q I r (m v σ H Q q)
theorem pi_imp {tg e : Expr} {t t' : TI} (h : L2.PI X tg e t) (m : ∀ σ H R, t' σ H R -> t σ H R) : L2.PI X tg e t' := fun pins s σ H R I q => h pins s σ H R I (m σ H R q)
end
section
variable {X : Cx} {B : List Addr} {a b e : Expr} {f g h : Ex} {pos : Pos}
theorem i_var (i : Nat) {x : Str} (hN : X.N[i]? = some x := by rfl) (hv : Vis X.env.scope x := by first | exact Or.inl rfl | exact Or.inr (Or.inl rfl) | exact Or.inr (Or.inr rfl)) (hd : (x == ("__debug__" : Str)) = false := by decide)
  (hcd : (x == ("__classdict__" : Str)) = false := by decide) : PE X (.Name x pos) (tI X.K B (eVar i)) := by
 refine pe_imp (pe_var hN hv hd hcd) ?_
 rintro σ H Q ⟨A, st, d, rs, hd, q⟩
 unfold eVar at hd
 split at hd
 ·rename_i d' e
  cases hd
  obtain ⟨v, e1, r⟩ := rs.val i _ e
  exact ⟨v, e1, q v H (Same.refl _) r⟩
 ·cases hd
end
end Pu
namespace Pu
open PySem PySem.Spec PyProof.Rows L2
section
variable {X : Cx} {B : List Addr} {a b e : Expr} {f g : Ex} {pos : Pos}
theorem i_c {d : D} {v : V} (h : PE X e (tC v)) (r : ∀ H, Rep X.K H d v) : PE X e (tI X.K B (eC d)) := pe_imp h (by
 rintro σ H Q ⟨A, st, d', rs, hd, q⟩
 cases hd
 exact q v H (Same.refl _) (r _))
theorem i_int {i : Int} {j : Nat} : PE X (.Constant (.int i) j pos) (tI X.K B (eC (.int i))) := i_c pe_int fun _ => rep_int.mpr rfl
theorem i_bl {q : Bool} {j : Nat} : PE X (.Constant (.bool q) j pos) (tI X.K B (eC (.bl q))) := i_c pe_bl fun _ => rep_bl.mpr rfl
theorem i_str {x : Str} {j : Nat} (s : List Nat) (hx : x = ⟨s.toArray⟩ := by first | rfl | decide | decide +kernel) : PE X (.Constant (.str x) j pos) (tI X.K B (eC (.str s))) := i_c pe_str fun _ => rep_str.mpr (by rw [hx])
theorem toP (h : PE X e (tI X.K B f)) : PE X e (tP X.K B f) := pe_imp h (by
 rintro σ H Q ⟨A, st, d, rs, hd, q⟩
 exact ⟨A, st, d, rs, hd, fun v H' s r => q v H' s (.inl r)⟩)
section
variable {K : PySem.W.Frag} {A : List Addr} {H : Hp} {v : V}
theorem RepP.non (h : RepP K A H .non v) : v = V.non := by
 rcases h with h | ⟨_, k, _, _, _, e, _⟩
 ·exact rep_non.mp h
 ·cases k <;> cases e
theorem RepP.bl {q : Bool} (h : RepP K A H (.bl q) v) : v = V.bl q := by
 rcases h with h | ⟨_, k, _, _, _, e, _⟩
 ·exact rep_bl.mp h
 ·cases k <;> cases e
theorem RepP.int {i : Int} (h : RepP K A H (.int i) v) : v = V.int i := by
 rcases h with h | ⟨_, k, _, _, _, e, _⟩
 ·exact rep_int.mp h
 ·cases k <;> cases e
theorem RepP.str {s : List Nat} (h : RepP K A H (.str s) v) : v = V.str ⟨s.toArray⟩ := by
 rcases h with h | ⟨_, k, _, _, _, e, _⟩
 ·exact rep_str.mp h
 ·cases k <;> cases e
theorem RepP.tup {ds : List D} (h : RepP K A H (.tup ds) v) : ∃ a vs, v = V.ref a /\ SqT K H a vs /\ Reps K (hide A H) ds vs := by
 rcases h with h | ⟨_, k, _, _, _, e, _⟩
 ·obtain ⟨a, vs, e, q, r⟩ := rep_tup_mp h
  exact ⟨a, vs, e, sqT_mono (hide_sub _ _) q, r⟩
 ·cases k <;> cases e
theorem RepP.lst {ds : List D} (h : RepP K A H (.lst ds) v) : ∃ a vs, v = V.ref a /\ SqL K H a vs /\ Reps K (hide A H) ds vs := by
 rcases h with h | ⟨a, k, o, ds', vs, e, e2, h, ko, r⟩
 ·obtain ⟨a, vs, e, q, r⟩ := rep_lst.mp h
  exact ⟨a, vs, e, (hide_sub _ _).seq q, r⟩
 ·cases k <;> cases e
  have e3 : o = .lst vs := ko
  subst e3
  exact ⟨a, vs, e2, SqL.of h, r⟩
end
def Sem2 (K : PySem.W.Frag) (r : R2) (o : Op2) : Prop := ∀ (A : List Addr) (H : Hp) (x y d : D) (v u : V) (Q : VK), Own A H -> RepP K A H x v -> RepP K A H y u -> o x y = .ok d ->
 (∀ w H', Same H H' -> Rep K (hide A H') d w -> Q w H') -> r v u H Q
theorem tOp_of {r : R2} {o : Op2} (sem : Sem2 X.K r o) {σ : LSt} {H : Hp} {Q : VK} (h : tI X.K B (e2 o f g) σ H Q) : tOp r (tP X.K B f) (tP X.K B g) σ H Q := by
 obtain ⟨A, st, d, rs, hd, q⟩ := h
 obtain ⟨x, hx, h2⟩ := R.ok_of hd
 obtain ⟨y, hy, h3⟩ := R.ok_of h2
 refine ⟨A, st, x, rs, hx, fun v H1 s1 r1 => ⟨A, st, y, rs.mono s1, hy, fun u H2 s2 r2 => ?_⟩⟩
 exact sem (A ++ B) H2 x y d v u Q (rs.own.mono (s1.trans s2)) (r1.mono s2) r2 h3 fun w H' s' r' => q w H' (s1.trans (s2.trans s')) r'
theorem i_op {op : Operator} {r : R2} {o : Op2} (ho : OpR X (binaryOp op) r) (sem : Sem2 X.K r o) (ha : PE X a (tP X.K B f)) (hb : PE X b (tP X.K B g)) : PE X (.BinOp a op b pos) (tI X.K B (e2 o f g)) :=
 pe_imp (pe_op ho ha hb) fun _ _ _ h => tOp_of sem h
theorem i_cmpG {op : CmpOp} {r : R2} {o : Op2} (ho : OpR X (compareOp op) r) (sem : Sem2 X.K r o) (ha : PE X a (tP X.K B f)) (hb : PE X b (tP X.K B g)) (hm : behindInMarks op b = false) : PE X (.Compare a [op] [b] pos) (tI X.K B (e2 o f g)) :=
 pe_imp (pe_cmpR ho ha hb hm) fun _ _ _ h => tOp_of sem h
theorem t_of {f : Ex} {σ : LSt} {H : Hp} {Q : Bool -> Hp -> Prop} (h : tT X.K B f σ H Q) : tI X.K B f σ H fun x H' => ∃ k, x = .bl k /\ Q k H' := by
 obtain ⟨A, st, k, rs, hk, q⟩ := h
 exact ⟨A, st, .bl k, rs, hk, fun v H' s r => ⟨k, rep_bl.mp r, q H' s⟩⟩
theorem i_cmpT {op : CmpOp} {r : R2} {o : Op2} (ho : OpR X (compareOp op) r) (sem : Sem2 X.K r o) (ha : PE X a (tP X.K B f)) (hb : PE X b (tP X.K B g)) (hm : behindInMarks op b = false) : PT X (.Compare a [op] [b] pos) (tT X.K B (e2 o f g)) :=
 pt_imp (pt_cmpR ho ha hb hm) fun _ _ _ h => tOp_of sem (t_of h)
theorem i_test {f : Ex} (h : PE X e (tI X.K B f)) (he : ∀ whole, isTrue e X.env whole = (do let v <- whole; standAt e.pos; holding [v] (truthy v)) := by intro _; rfl) : PT X e (tT X.K B f) :=
 pt_imp (pt_val h he) fun _ _ _ q => t_of q
theorem sem_rI {K : PySem.W.Frag} {C : Int -> Int -> Prop} {g : Int -> Int -> D} {gv : Int -> Int -> V} {o : Op2} (hr : ∀ H i j, Rep K H (g i j) (gv i j)) (ho : ∀ x y d, o x y = .ok d -> ∃ i j, x = .int i /\ y = .int j /\ C i j /\ d = g i j) : Sem2 K (rI C gv) o := by
 intro A H x y d v u Q w rx ry e q
 obtain ⟨i, j, rfl, rfl, c, rfl⟩ := ho x y d e
 exact ⟨i, j, rx.int, ry.int, c, q _ H (Same.refl _) (hr _ _ _)⟩
theorem i_fdiv (ha : PE X a (tP X.K B f)) (hb : PE X b (tP X.K B g)) : PE X (.BinOp a .FloorDiv b pos) (tI X.K B (e2 dFdiv f g)) :=
 i_op op_fdiv (sem_rI (g := fun i j => .int (i / j)) (fun _ _ _ => rep_int.mpr rfl) fun x y d e => by
  unfold dFdiv at e
  split at e
  ·obtain ⟨c, e⟩ := guardR_of e; cases e; exact ⟨_, _, rfl, rfl, c, rfl⟩
  ·cases e) ha hb
theorem i_mod (ha : PE X a (tP X.K B f)) (hb : PE X b (tP X.K B g)) : PE X (.BinOp a .Mod b pos) (tI X.K B (e2 dMod f g)) :=
 i_op op_mod (sem_rI (g := fun i j => .int (i % j)) (fun _ _ _ => rep_int.mpr rfl) fun x y d e => by
  unfold dMod at e
  split at e
  ·obtain ⟨c, e⟩ := guardR_of e; cases e; exact ⟨_, _, rfl, rfl, c, rfl⟩
  ·cases e) ha hb
def rCatL (K : PySem.W.Frag) : R2 := fun x y H Q => ∃ l b xs zs, x = .ref l /\ y = .ref b /\ SqL K H l xs /\ SqL K H b zs /\ xs.length + zs.length <= sizeLine /\ ∀ p, H p = none -> Q (.ref p) (upd H p (.lst (xs ++ zs)))
theorem op_catL : OpR X (binaryOp .Add) (rCatL X.K) := by
 intro pins s σ H x y v u Q I rx ry h
 obtain ⟨l, b, xs, zs, rfl, rfl, hH, hB, hz, q⟩ := h
 cases rx
 cases ry
 obtain ⟨its, r, ⟨⟨cls, dd, data, sl⟩, n, ho, hc, _, hd⟩, z⟩ := I.list hH
 obtain ⟨its2, r2, ⟨⟨cls2, dd2, data2, sl2⟩, n2, ho2, hc2, _, hd2⟩, z2⟩ := I.list hB
 simp only at hc hd hc2 hd2
 subst hc hd hc2 hd2
 have l1 := r.length
 have l2 := r2.length
 refine concat_meets ⟨_, ho, rfl⟩ ⟨_, ho2, rfl⟩ noFill_list_add seq_list_add PySem.F.slot_list_add PySem.F.entry_list_add (PySem.F.args_list_add_2 _ _) (list_addW l b its.toArray its2.toArray n n2 dd dd2 sl sl2 (by simp only [List.size_toArray]; omega)) ⟨ho, ho2, ?_⟩
 have ea : its.toArray ++ its2.toArray = (its ++ its2).toArray := by simp
 rw [ea]
 exact ⟨.ref _, _, I.lnew (t' := s.toks) (r.append r2) (by rw [List.length_append]; omega), rfl, q _ I.fresh⟩
theorem str_app (x y : List Nat) : (⟨x.toArray⟩ : Str) ++ (⟨y.toArray⟩ : Str) = ⟨(x ++ y).toArray⟩ := by
 show Str.append _ _ = _
 unfold Str.append
 simp
theorem str_len (x : List Nat) : (⟨x.toArray⟩ : Str).length = x.length := by simp [Str.length]
theorem lim {n : Nat} (h : n <= big) : n <= sizeLine := Nat.le_trans (by rw [big_eq] at h; exact h : n <= 10000000) (by decide)
theorem i_add (ha : PE X a (tP X.K B f)) (hb : PE X b (tP X.K B g)) : PE X (.BinOp a .Add b pos) (tI X.K B (e2 dAdd f g)) := by
 refine i_op (op_add.or (op_add_str.or op_catL)) ?_ ha hb
 intro A H x y d v u Q w rx ry e q
 cases x <;> cases y <;> first | (cases e; done) | skip
 ·cases e
  exact .inl ⟨_, _, rx.int, ry.int, q _ H (Same.refl _) (rep_int.mpr rfl)⟩
 ·obtain ⟨c, e⟩ := guardR_of e
  cases e
  exact .inr (.inl ⟨_, _, rx.str, ry.str, by rw [str_len, str_len]; exact lim c, q _ H (Same.refl _) (rep_str.mpr (by rw [str_app]))⟩)
 ·obtain ⟨c, e⟩ := guardR_of e
  cases e
  obtain ⟨l, xs, e1, h1, r1⟩ := rx.lst
  obtain ⟨m, ys, e2, h2, r2⟩ := ry.lst
  have l1 := r1.length
  have l2 := r2.length
  refine .inr (.inr ⟨l, m, xs, ys, e1, e2, h1, h2, by rw [l1, l2]; exact lim c, fun p hp => q _ _ (same_upd hp) ?_⟩)
  exact rep_new_lst w hp (r1.append r2)
theorem RepP.ref {K : PySem.W.Frag} {A : List Addr} {H : Hp} {d : D} {v : V} (h : RepP K A H d v) (h1 : d ≠ .non) (h2 : ∀ b, d ≠ .bl b) (h3 : ∀ i, d ≠ .int i) (h4 : ∀ s, d ≠ .str s) : ∃ a, v = V.ref a := by
 rcases h with h | ⟨a, _, _, _, _, _, e, _⟩
 ·cases d with
  | non => exact (h1 rfl).elim
  | bl b => exact (h2 b rfl).elim
  | int i => exact (h3 i rfl).elim
  | str s => exact (h4 s rfl).elim
  | tup _ => obtain ⟨a, _, e, _⟩ := rep_tup_mp h; exact ⟨a, e⟩
  | lst _ => obtain ⟨a, _, e, _⟩ := rep_lst.mp h; exact ⟨a, e⟩
  | dct _ _ _ => obtain ⟨a, _, e, _⟩ := rep_dct.mp h; exact ⟨a, e⟩
  | ins _ _ _ => obtain ⟨a, _, _, _, _, e, _⟩ := rep_ins.mp h; exact ⟨a, e⟩
  | exn _ _ _ => obtain ⟨a, _, _, e, _⟩ := rep_exn.mp h; exact ⟨a, e⟩
 ·exact ⟨a, e⟩
theorem ixN_same (n : Nat) (i : Int) : L2.ixN n i = Pu.ixN n i := rfl
theorem Reps.atI {K : PySem.W.Frag} {H : Hp} {ds : List D} {vs : List V} {i : Int} {d : D} (r : Reps K H ds vs) (e : Pu.atI ds i = some d) : ∃ v, L2.atI vs i = some v /\ Rep K H d v := by
 unfold Pu.atI at e
 unfold L2.atI
 rw [r.length, ixN_same]
 cases h : Pu.ixN ds.length i with
 | none => rw [h] at e; cases e
 | some j =>
  rw [h] at e
  exact r.get e
theorem ofO_of {α : Type} {o : Option α} {a : α} (h : ofO o = .ok a) : o = some a := by
 cases o with
 | none => cases h
 | some b => cases h; rfl
theorem sem_ix {K : PySem.W.Frag} {x : D} (hd : isDc x = false) (A : List Addr) (H : Hp) (x' y d : D) (v u : V) (Q : VK) (w : Own A H) (rx : RepP K A H x v) (ry : RepP K A H y u) (e : dIx x y = .ok d) (q : ∀ w H', Same H H' -> Rep K (hide A H') d w -> Q w H') : rIx K v u H Q := by
 cases x <;> first | (cases hd; done) | skip
 all_goals cases y
 all_goals first | (cases e; done) | skip
 ·rename_i s i
  obtain ⟨hz, e⟩ := guardR_of e
  have e := ofO_of e
  cases h : Pu.atI s i with
  | none => rw [h] at e; cases e
  | some c =>
   rw [h] at e
   cases e
   refine .inr (.inr ⟨_, i, c, rx.str, ry.int, by rw [str_len]; exact lim hz, ?_, q _ H (Same.refl _) (rep_str.mpr rfl)⟩)
   show L2.atI s.toArray.toList i = some c
   rw [List.toList_toArray]
   exact h
 ·rename_i ds i
  have h := ofO_of (show ofO (Pu.atI ds i) = .ok d from e)
  obtain ⟨l, xs, e1, h1, r1⟩ := rx.tup
  obtain ⟨z, h2, r2⟩ := r1.atI h
  exact .inr (.inl ⟨l, xs, i, z, e1, ry.int, h1, h2, q _ H (Same.refl _) r2⟩)
 ·rename_i ds i
  have h := ofO_of (show ofO (Pu.atI ds i) = .ok d from e)
  obtain ⟨l, xs, e1, h1, r1⟩ := rx.lst
  obtain ⟨z, h2, r2⟩ := r1.atI h
  exact .inl ⟨l, xs, i, z, e1, ry.int, h1, h2, q _ H (Same.refl _) r2⟩
theorem t_or1 (h : PT X a (tT X.K B f)) : PW X (.BoolOp .Or [a] pos) (tT X.K B f) := pw_or1 h
theorem t_or {rest : List Expr} (ha : PT X a (tT X.K B f)) (hb : PW X (.BoolOp .Or (b :: rest) pos) (tT X.K B g)) : PW X (.BoolOp .Or (a :: b :: rest) pos) (tT X.K B (eOr f g)) := by
 refine pw_imp (pw_or ha hb) ?_
 rintro σ H Q ⟨A, st, d, rs, hd, q⟩
 obtain ⟨x, hx, h2⟩ := R.ok_of hd
 obtain ⟨k, rfl, h3⟩ := onB_of h2
 refine ⟨A, st, k, rs, hx, fun H1 s1 => ?_⟩
 cases k with
 | true => cases h3; exact q H1 s1
 | false => exact ⟨A, st, d, rs.mono s1, h3, fun H' s' => q H' (s1.trans s')⟩
theorem t_not (ha : PT X a (tT X.K B f)) : PT X (.UnaryOp .Not a pos) (tT X.K B (eNot f)) := by
 refine pt_imp (pt_not ha) ?_
 rintro σ H Q ⟨A, st, d, rs, hd, q⟩
 obtain ⟨x, hx, h2⟩ := R.ok_of hd
 obtain ⟨k, rfl, h3⟩ := onB_of h2
 cases h3
 exact ⟨A, st, k, rs, hx, fun H1 s1 => q H1 s1⟩
theorem a_nil : PA X [] (tA X.K B aNil) := pa_imp pa_nil (by
 rintro σ H Q ⟨A, st, d, rs, hd, q⟩
 cases hd
 exact q [] H (Same.refl _) .nil)
theorem a_cons {es : List Expr} {r : Exs} (ha : PE X e (tI X.K B f)) (hr : PA X es (tA X.K B r)) (hs : starEach (e :: es) X.env = (false, eval e X.env) :: starEach es X.env := by rfl) : PA X (e :: es) (tA X.K B (aCons f r)) := by
 refine pa_imp (pa_cons ha hr hs) ?_
 rintro σ H Q ⟨A, st, ds, rs, hd, q⟩
 obtain ⟨x, hx, h2⟩ := R.ok_of hd
 obtain ⟨xs, hxs, h3⟩ := R.ok_of h2
 cases h3
 refine ⟨A, st, x, rs, hx, fun v H1 s1 r1 => ⟨A, st, xs, rs.mono s1, hxs, fun vs H2 s2 r2 => ?_⟩⟩
 exact q _ H2 (s1.trans s2) (.cons (r1.mono (Same.hide s2)) r2)
theorem i_tup {es : List Expr} {r : Exs} {x1 : Nat} (h : PA X es (tA X.K B r)) : PE X (.Tuple es x1 pos) (tI X.K B (eTup r)) := by
 refine pe_imp (pe_tup h) ?_
 rintro σ H Q ⟨A, st, d, rs, hd, q⟩
 obtain ⟨xs, hx, h2⟩ := R.ok_of hd
 obtain ⟨c, h3⟩ := guardR_of h2
 cases h3
 refine ⟨A, st, xs, rs, hx, fun vs H1 s1 r1 => ⟨by rw [r1.length]; exact lim c, fun p hp => q _ _ (s1.trans (same_upd hp)) ?_⟩⟩
 exact rep_new_tup (rs.own.mono s1) hp r1
theorem i_lst {es : List Expr} {r : Exs} (h : PA X es (tA X.K B r)) : PE X (.List es pos) (tI X.K B (eLst r)) := by
 refine pe_imp (pe_lst h) ?_
 rintro σ H Q ⟨A, st, d, rs, hd, q⟩
 obtain ⟨xs, hx, h2⟩ := R.ok_of hd
 obtain ⟨c, h3⟩ := guardR_of h2
 cases h3
 refine ⟨A, st, xs, rs, hx, fun vs H1 s1 r1 => ⟨by rw [r1.length]; exact lim c, fun p hp => q _ _ (s1.trans (same_upd hp)) ?_⟩⟩
 exact rep_new_lst (rs.own.mono s1) hp r1
def spI (K : PySem.W.Frag) (np : Nat) (p : List D -> R D) : Sp := fun vs H Q _ => ∃ A ds d, Own A H /\ Reps K (hide A H) ds vs /\ ds.length = np /\ p ds = .ok d /\ ∀ v H', Same H H' -> Rep K (hide A H') d v -> Q v H'
theorem i_call {k : Nat} {fa : Addr} {fd : FuncData} {ps : List Str} {x : Str} {p0 : Pos} {es : List Expr} {r : Exs} {np : Nat} {p : List D -> R D} (F : FnOk X.prog X.w X.K X.mg X.base CX0 k fa fd ps (spI X.K np p)) (hr : Room k X.A) (hm : X.mg x = some (.ref fa))
  (hk : PySem.W.keepIn X.K (.ref fa) = true) (hb : Binds X.K fd ps []) (hl : ∀ ds d, p ds = .ok d -> ds.length = np) (ha : PA X (e :: es) (tA X.K B r)) (hg : Gl X x := by rfl) (hdb : (x == ("__debug__" : Str)) = false := by decide)
  (he : starEach (e :: es) X.env = (false, eval e X.env) :: starEach es X.env := by rfl) (hpl : (backTo pos (starEach es X.env)).any (·.1) = false := by rfl) :
  PE X (.Call (.Name x p0) (e :: es) [] pos) (tI X.K B (eCall p r)) := by
 refine pe_imp (pe_call F hr hg hm hk hb .nil pass0 ha hdb he hpl) ?_
 rintro σ H Q ⟨A, st, d, rs, hd, q⟩
 obtain ⟨xs, hx, h2⟩ := R.ok_of hd
 refine ⟨A, st, xs, rs, hx, fun vs H1 s1 r1 => ?_⟩
 show spI X.K np p (vs ++ []) H1 Q E0
 rw [List.append_nil]
 exact ⟨A ++ B, xs, d, rs.own.mono s1, r1, hl _ _ h2, h2, fun w H' s' r' => q w H' (s1.trans s') r'⟩
end
end Pu
namespace Pu
open PySem PySem.Spec PyProof.Rows L2
theorem eqK_key (a b : Key) : eqK (keyD a) (keyD b) = decide (a = b) := by
 cases a with
 | inl i =>
  cases b with
  | inl j => unfold keyD eqK; rw [key_ll]
  | inr y => unfold keyD eqK; rw [key_lr]
 | inr x =>
  cases b with
  | inl j => unfold keyD eqK; rw [key_rl]
  | inr y =>
   unfold keyD eqK
   rw [key_rr, Bool.eq_iff_iff, beq_iff_eq, decide_eq_true_eq]
   constructor
   ·intro h
    cases x; cases y
    congr 1
    exact Array.ext' h
   ·rintro rfl; rfl
theorem eqKs_key : ∀ (a b : List Key), eqKs (a.map keyD) (b.map keyD) = decide (a = b)
 | [], [] => by unfold eqKs; simp
 | [], _ :: _ => by unfold eqKs; simp
 | _ :: _, [] => by unfold eqKs; simp
 | x :: a, y :: b => by
  have ih := eqKs_key a b
  rw [List.map_cons, List.map_cons]
  unfold eqKs
  rw [eqK_key, ih, Bool.eq_iff_iff, Bool.and_eq_true, decide_eq_true_eq, decide_eq_true_eq, decide_eq_true_eq, List.cons.injEq]
theorem eqK_keys (a b : List Key) : eqK (.tup (a.map keyD)) (.tup (b.map keyD)) = decide (a = b) := by
 rw [<- eqKs_key]
 conv => lhs; unfold eqK
section
variable {κ : Type} [DecidableEq κ] {E : κ -> D} (hE : ∀ a b, eqK (E a) (E b) = decide (a = b)) {K : PySem.W.Frag} {H : Hp}
include hE
theorem getK_of (k : κ) : ∀ (kvs : List (κ × V)) (ds : List D), Reps K H ds (kvs.map (·.2)) -> (∀ d, getK (kvs.map fun p => E p.1) ds (E k) = some d -> ∃ v, valV kvs k = some v /\ Rep K H d v) /\ (valV kvs k).isSome = hasK (kvs.map fun p => E p.1) (E k)
 | [], ds, r => ⟨fun d h => by cases ds <;> simp [getK] at h, rfl⟩
 | (a, v) :: kvs, ds, r => by
  cases ds with
  | nil => have := reps_nil.mp r; simp at this
  | cons d ds =>
   obtain ⟨v', r', e, h1, h2⟩ := reps_cons.mp r
   rw [List.map_cons] at e
   injection e with e1 e2
   subst e1 e2
   obtain ⟨i1, i2⟩ := getK_of k kvs ds h2
   by_cases ha : a = k
   ·have hk : eqK (E a) (E k) = true := by rw [hE, decide_eq_true_eq]; exact ha
    refine ⟨fun d' h => ?_, ?_⟩
    ·unfold getK at h
     rw [List.map_cons, List.zip_cons_cons, List.find?_cons_of_pos (by simpa using hk)] at h
     cases h
     exact ⟨v, valV_pos ha, h1⟩
    ·rw [valV_pos ha]
     unfold hasK
     rw [List.map_cons, List.any_cons, hk]
     rfl
   ·have hk : eqK (E a) (E k) = false := by rw [hE, decide_eq_false_iff_not]; exact ha
    refine ⟨fun d' h => ?_, ?_⟩
    ·rw [valV_neg ha]
     refine i1 d' ?_
     unfold getK at h ⊢
     rw [List.map_cons, List.zip_cons_cons, List.find?_cons_of_neg (by simpa using hk)] at h
     exact h
    ·rw [valV_neg ha, i2]
     unfold hasK
     rw [List.map_cons, List.any_cons, hk]
     rfl
end
theorem key_of_rep {K : PySem.W.Frag} {H : Hp} {d : D} {v : V} (r : Rep K H d v) (h : keyOk false d = true) : ∃ k : Key, d = keyD k /\ v = kV k := by
 cases d <;> first | (cases h; done) | skip
 ·exact ⟨.inl _, rfl, rep_int.mp r⟩
 ·exact ⟨.inr _, rfl, rep_str.mp r⟩
theorem keys_of_reps {K : PySem.W.Frag} {H : Hp} : ∀ {ds : List D} {vs : List V}, Reps K H ds vs -> ds.all keyS = true -> ∃ ks : List Key, ds = ks.map keyD /\ vs = ks.map kV
 | [], vs, r, _ => ⟨[], rfl, reps_nil.mp r⟩
 | d :: ds, vs, r, h => by
  obtain ⟨v, r', rfl, h1, h2⟩ := reps_cons.mp r
  rw [List.all_cons, Bool.and_eq_true] at h
  obtain ⟨ks, e1, e2⟩ := keys_of_reps h2 h.2
  obtain ⟨k, e3, e4⟩ := key_of_rep h1 (by cases d <;> first | (cases h.1; done) | rfl)
  exact ⟨k :: ks, by rw [e1, e3]; rfl, by rw [e2, e4]; rfl⟩
theorem tkey_of_rep {K : PySem.W.Frag} {H : Hp} {d : D} {v : V} (r : Rep K H d v) (h : keyOk true d = true) : ∃ (ks : List Key) (b : Addr), d = .tup (ks.map keyD) /\ v = .ref b /\ H b = some (.tup (ks.map kV)) := by
 cases d <;> first | (cases h; done) | skip
 rename_i xs
 obtain ⟨b, vs, e, hb, rs⟩ := rep_tupD.mp r
 have h' : xs.all keyS = true := by
  unfold keyOk at h
  simpa using h
 obtain ⟨ks, e1, e2⟩ := keys_of_reps rs h'
 exact ⟨ks, b, by rw [e1], e, by rw [<- e2]; exact hb⟩
theorem dget_of {K : PySem.W.Frag} {A : List Addr} {H : Hp} {t : Bool} {ks ds : List D} {k : D} {v u : V} (rx : RepP K A H (.dct t ks ds) v) (ry : Rep K H k u) (hk : keyOk t k = true) :
  ∃ a o, v = .ref a /\ DGet H a u o /\ o.isSome = hasK ks k /\ ∀ d, getK ks ds k = some d -> ∃ w, o = some w /\ Rep K (hide A H) d w := by
 have key : ∃ a vs, v = V.ref a /\ ((t = false /\ ∃ kvs : List (Key × V), H a = some (.dK kvs) /\ kvs.map (fun p => keyD p.1) = ks /\ vs = kvs.map (·.2)) \/ (t = true /\ ∃ kvs : List (List Key × V), H a = some (.dT kvs) /\ kvs.map (fun p => D.tup (p.1.map keyD)) = ks /\ vs = kvs.map (·.2))) /\ Reps K (hide A H) ds vs := by
  rcases rx with h | ⟨a, kk, o, ds', vs, e, e2, h, ko, r⟩
  ·obtain ⟨a, vs, e, q, r⟩ := rep_dct.mp h
   refine ⟨a, vs, e, ?_, r⟩
   rcases q with ⟨q0, kvs, q1, q2⟩ | ⟨q0, kvs, q1, q2⟩
   ·exact .inl ⟨q0, kvs, hide_sub _ _ _ _ q1, q2⟩
   ·exact .inr ⟨q0, kvs, hide_sub _ _ _ _ q1, q2⟩
  ·cases kk <;> cases e
   refine ⟨a, vs, e2, ?_, r⟩
   rcases ko with ⟨q0, kvs, q1, q2⟩ | ⟨q0, kvs, q1, q2⟩
   ·subst q1; exact .inl ⟨q0, kvs, h, q2⟩
   ·subst q1; exact .inr ⟨q0, kvs, h, q2⟩
 obtain ⟨a, vs, e, q, r⟩ := key
 rcases q with ⟨rfl, kvs, q1, rfl, rfl⟩ | ⟨rfl, kvs, q1, rfl, rfl⟩
 ·obtain ⟨k', e1, e2⟩ := key_of_rep ry hk
  subst e1 e2
  obtain ⟨i1, i2⟩ := getK_of eqK_key k' kvs ds r
  exact ⟨a, _, e, DGet.k q1, i2, fun d hd => let ⟨w, h1, h2⟩ := i1 d hd; ⟨w, h1, h2⟩⟩
 ·obtain ⟨k', b, e1, e2, e3⟩ := tkey_of_rep ry hk
  subst e1 e2
  obtain ⟨i1, i2⟩ := getK_of eqK_keys k' kvs ds r
  exact ⟨a, _, e, DGet.t q1 e3, i2, fun d hd => let ⟨w, h1, h2⟩ := i1 d hd; ⟨w, h1, h2⟩⟩
section
variable {X : Cx} {B : List Addr} {a b e : Expr} {f g : Ex} {pos : Pos}
def rIxD : R2 := fun x y H Q => ∃ p v, x = .ref p /\ DGet H p y (some v) /\ Q v H
theorem ix_dict (hu : X.A.units + 64 < cLine) : IxR X rIxD := by
 intro value slice pins s σ H x y v u Q I rx ry h hs
 obtain ⟨p, z, rfl, g, q⟩ := h
 cases rx
 have hT := dict_typeIs I g
 unfold subscriptTail
 refine wpAny_bind ?_
 rw [getitemInPython_of_ne hT.not_modules]
 refine wpAny_bind (wpAny_specialOf hT PySem.F.slot_dict_getitem.lookup ?_)
 have h2 : wpAny (model X.prog X.w) X.A (getItem (.ref p) u) (EP X pins σ Q) X.xe s := d_getItem (by omega) I g ry fun w' s3 I3 rw' => ⟨z, H, I3, rw', q⟩
 have fin : wpAny (model X.prog X.w) X.A (subscripted slice false (.ref p) u) (fun r s3 => wpAny (model X.prog X.w) X.A (letTemporaryGo value (.ref p) r >>= fun _ => pure r) (EP X pins σ Q) X.xe s3) X.xe s := by
  rw [hs]
  exact wpAny_operating (wpAny_mono h2 (fun r s3 h3 => wpAny_bind (wpAny_letTemporaryGo (wpAny_pure h3))) fun _ _ x => x)
 first
  | exact wpAny_pure (wpAny_bind fin)
  | exact wpAny_bind (wpAny_pure (wpAny_bind fin))
  | exact wpAny_bind fin
theorem sem_ixA {K : PySem.W.Frag} : Sem2 K (fun x y H Q => rIx K x y H Q \/ rIxD x y H Q) dIx := by
 intro A H x y d v u Q w rx ry e q
 by_cases hx : isDc x = true
 ·cases x <;> first | (cases hx; done) | skip
  rename_i t ks vs
  have e' : guardR (keyOk t y = true) (ofO (getK ks vs y)) = .ok d := by cases y <;> exact e
  obtain ⟨hk, e2⟩ := guardR_of e'
  have ryr : Rep K H y u := by
   rcases ry with h | ⟨a, kk, o, ds, vs', e1, _⟩
   ·exact h.mono (hide_sub _ _)
   ·subst e1; cases kk <;> cases t <;> cases hk
  obtain ⟨a, o, e3, g, _, g2⟩ := dget_of rx ryr hk
  obtain ⟨z, e4, rz⟩ := g2 d (ofO_of e2)
  subst e4
  exact .inr ⟨a, z, e3, g, q _ H (Same.refl _) rz⟩
 ·exact .inl (sem_ix (by simpa using hx) A H x y d v u Q w rx ry e q)
theorem i_ix (hu : X.A.units + 64 < cLine) (ha : PE X a (tP X.K B f)) (hb : PE X b (tP X.K B g)) (hs : PlainIx b := by intro _ _; rfl) : PE X (.Subscript a b pos) (tI X.K B (e2 dIx f g)) :=
 pe_imp (pe_ix (ix_seq.or (ix_dict hu)) ha hb hs) fun _ _ _ h => tOp_of sem_ixA h
end
end Pu
namespace Pu
open PySem PySem.Spec PyProof.Rows L2
section
variable {K : PySem.W.Frag} {B A : List Addr} {H : Hp} {st : PSt} {σ : LSt}
theorem set_get_v {i j : Nat} {d : D} {k : OK} {xs : List D} (h : (st.set i (some (.v d)))[j]? = some (some (.o k xs))) : j ≠ i /\ st[j]? = some (some (.o k xs)) := by
 rw [List.getElem?_set] at h
 by_cases e : i = j
 ·subst e
  rw [if_pos rfl] at h
  split at h <;> simp at h
 ·rw [if_neg e] at h
  exact ⟨fun z => e z.symm, h⟩
theorem Le.app {A' : List Addr} {H' : Hp} (l : Le A H A' H') : Same (hide (A ++ B) H) (hide (A' ++ B) H') := fun b u q => by
 have q1 := hide_sub _ _ _ _ q
 have hb : b ∉ A ++ B := fun z => by rw [hide_in z] at q; cases q
 have q2 : hide A H b = some u := by rw [hide_out fun z => hb (List.mem_append_left _ z)]; exact q1
 have q3 := l b u q2
 have hb' : b ∉ A' := fun z => by rw [hide_in z] at q3; cases q3
 rw [hide_out fun z => (List.mem_append.mp z).elim hb' fun z => hb (List.mem_append_right _ z)]
 exact hide_sub _ _ _ _ q3
theorem RS.set (r : RS K B A H st σ) {d : D} {v : V} (i : Nat) (h : Rep K (hide (A ++ B) H) d v) : RS K B A H (st.set i (some (.v d))) (σ.set i (some v)) where
 len := by rw [List.length_set, List.length_set, r.len]
 own := r.own
 dis := r.dis
 val := fun j d' e => by
  rw [List.getElem?_set] at e
  by_cases hij : i = j
  ·subst hij
   rw [if_pos rfl] at e
   split at e
   ·rename_i hl
    simp at e
    subst e
    exact ⟨v, by rw [List.getElem?_set, if_pos rfl, if_pos (by rw [<- r.len]; exact hl)], h⟩
   ·cases e
  ·rw [if_neg hij] at e
   obtain ⟨u, e1, q⟩ := r.val j d' e
   exact ⟨u, by rw [List.getElem?_set, if_neg hij]; exact e1, q⟩
 lst := fun j kk xs e => by
  obtain ⟨hj, e'⟩ := set_get_v e
  obtain ⟨a, o, vs, e1, m, h1, ko, q, u⟩ := r.lst j kk xs e'
  refine ⟨a, o, vs, by rw [List.getElem?_set, if_neg fun z => hj z.symm]; exact e1, m, h1, ko, q, fun k k' ys ek ek2 => ?_⟩
  obtain ⟨hk, ek'⟩ := set_get_v ek
  rw [List.getElem?_set, if_neg fun z => hk z.symm] at ek2
  exact u k k' ys ek' ek2
theorem own_new {p : Addr} {o : HO} (w : Own (A ++ B) H) : Own ((p :: A) ++ B) (upd H p o) := fun a ha => by
 by_cases e : a = p
 ·subst e; rw [upd_same]; rfl
 ·rw [upd_ne e]
  exact w a ((List.mem_cons.mp ha).resolve_left e)
theorem same_new {p : Addr} {o : HO} (hp : H p = none) : Same (hide (A ++ B) H) (hide ((p :: A) ++ B) (upd H p o)) := fun b u q => by
 have q1 := hide_sub _ _ _ _ q
 have hb : b ∉ A ++ B := fun z => by rw [hide_in z] at q; cases q
 have ne : b ≠ p := ne_of_none q1 hp
 rw [hide_out (show b ∉ (p :: A) ++ B from fun z => (List.mem_cons.mp z).elim ne hb), upd_ne ne]
 exact q1
theorem le_new {p : Addr} {o : HO} (hp : H p = none) : Le A H (p :: A) (upd H p o) := fun b u q => by
 have q1 := hide_sub _ _ _ _ q
 have hb : b ∉ A := fun z => by rw [hide_in z] at q; cases q
 have ne : b ≠ p := ne_of_none q1 hp
 rw [hide_out fun z => (List.mem_cons.mp z).elim ne hb, upd_ne ne]
 exact q1
theorem RS.setO (r : RS K B A H st σ) {p : Addr} {kk : OK} {o : HO} {ds : List D} {vs : List V} (i : Nat) (hp : H p = none) (ko : KOk K kk p o vs) (h : Reps K (hide (A ++ B) H) ds vs) :
  RS K B (p :: A) (upd H p o) (st.set i (some (.o kk ds))) (σ.set i (some (.ref p))) where
 len := by rw [List.length_set, List.length_set, r.len]
 own := own_new r.own
 dis := fun a ha hb => by
  rcases List.mem_cons.mp ha with rfl | ha
  ·exact r.own.free hp (List.mem_append_right _ hb)
  ·exact r.dis a ha hb
 val := fun j d' e => by
  rw [List.getElem?_set] at e
  by_cases hij : i = j
  ·subst hij
   rw [if_pos rfl] at e
   split at e <;> simp at e
  ·rw [if_neg hij] at e
   obtain ⟨u, e1, q⟩ := r.val j d' e
   exact ⟨u, by rw [List.getElem?_set, if_neg hij]; exact e1, q.mono (same_new hp)⟩
 lst := fun j k0 xs e => by
  rw [List.getElem?_set] at e
  by_cases hij : i = j
  ·subst hij
   rw [if_pos rfl] at e
   split at e
   ·rename_i hl
    simp at e
    obtain ⟨e0, e⟩ := e
    subst e0 e
    refine ⟨p, o, vs, by rw [List.getElem?_set, if_pos rfl, if_pos (by rw [<- r.len]; exact hl)], List.mem_cons_self, upd_same, ko, h.mono (same_new hp), fun k k' ys ek ek2 => ?_⟩
    by_cases hk : i = k
    ·exact hk.symm
    ·rw [List.getElem?_set, if_neg hk] at ek ek2
     obtain ⟨a, o', vs', e1, m, h1, _⟩ := r.lst k k' ys ek
     rw [e1] at ek2
     cases ek2
     rw [hp] at h1; cases h1
   ·cases e
  ·rw [if_neg hij] at e
   obtain ⟨a, o', vs', e1, m, h1, ko', q, u⟩ := r.lst j k0 xs e
   have ne : a ≠ p := ne_of_none h1 hp
   refine ⟨a, o', vs', by rw [List.getElem?_set, if_neg hij]; exact e1, List.mem_cons_of_mem _ m, by rw [upd_ne ne]; exact h1, ko', q.mono (same_new hp), fun k k' ys ek ek2 => ?_⟩
   by_cases hk : i = k
   ·subst hk
    rw [List.getElem?_set, if_pos rfl] at ek2
    split at ek2
    ·simp at ek2; exact absurd ek2.symm ne
    ·cases ek2
   ·rw [List.getElem?_set, if_neg hk] at ek ek2
    exact u k k' ys ek ek2
theorem RS.write (r : RS K B A H st σ) {a : Addr} {i : Nat} {k0 k1 : OK} {o' : HO} {xs ds : List D} {vs' : List V} (hi : st[i]? = some (some (.o k0 xs))) (hs : σ[i]? = some (some (.ref a))) (ko : KOk K k1 a o' vs') (h : Reps K (hide (A ++ B) H) ds vs') :
  RS K B A (upd H a o') (st.set i (some (.o k1 ds))) σ /\ Le A H A (upd H a o') := by
 obtain ⟨a', o, vs, e1, m, h1, _, q, u⟩ := r.lst i k0 xs hi
 rw [hs] at e1
 cases e1
 have hh : hide (A ++ B) (upd H a o') = hide (A ++ B) H := hide_upd (List.mem_append_left _ m)
 refine ⟨⟨by rw [List.length_set, r.len], fun b hb => ?_, r.dis, fun j d e => ?_, fun j kj ys e => ?_⟩, ?_⟩
 ·by_cases e : b = a
  ·subst e; rw [upd_same]; rfl
  ·rw [upd_ne e]; exact r.own b hb
 ·rw [hh]
  rw [List.getElem?_set] at e
  by_cases hij : i = j
  ·subst hij
   rw [if_pos rfl] at e
   split at e <;> simp at e
  ·rw [if_neg hij] at e
   exact r.val j d e
 ·rw [hh]
  have ne : ∀ {k : Nat} {kz : OK} {zs : List D}, (st.set i (some (.o k1 ds)))[k]? = some (some (.o kz zs)) -> ∃ kw ws, st[k]? = some (some (.o kw ws)) := fun {k kz zs} ek => by
   rw [List.getElem?_set] at ek
   by_cases hk : i = k
   ·subst hk; exact ⟨_, _, hi⟩
   ·rw [if_neg hk] at ek; exact ⟨_, _, ek⟩
  rw [List.getElem?_set] at e
  by_cases hij : i = j
  ·subst hij
   rw [if_pos rfl] at e
   split at e
   ·simp at e
    obtain ⟨e0, e⟩ := e
    subst e0 e
    exact ⟨a, o', vs', hs, m, upd_same, ko, h, fun k kz zs ek ek2 => let ⟨kw, ws, ew⟩ := ne ek; u k kw ws ew ek2⟩
   ·cases e
  ·rw [if_neg hij] at e
   obtain ⟨c, oc, ws, c1, cm, ch, kc, cq, cu⟩ := r.lst j kj ys e
   have hca : c ≠ a := fun z => by subst z; exact hij (u j kj ys e c1).symm
   exact ⟨c, oc, ws, c1, cm, by rw [upd_ne hca]; exact ch, kc, cq, fun k kz zs ek ek2 => let ⟨kw, ws, ew⟩ := ne ek; cu k kw ws ew ek2⟩
 ·unfold Le
  rw [hide_upd m]
  exact Same.refl _
theorem RS.fz1 (r : RS K B A H st σ) (i : Nat) : ∃ A', RS K B A' H (Pu.fz1 st i) σ /\ Le A H A' H := by
 unfold Pu.fz1
 split
 ·rename_i kk xs e
  obtain ⟨a, o, vs, e1, m, h1, ko, q, u⟩ := r.lst i kk xs e
  have hsub : ∀ b ∈ A.filter (fun c => decide (c ≠ a)), b ∈ A := fun b hb => (List.mem_filter.mp hb).1
  have hsub2 : ∀ b ∈ A.filter (fun c => decide (c ≠ a)) ++ B, b ∈ A ++ B := fun b hb => (List.mem_append.mp hb).elim (fun z => List.mem_append_left _ (hsub b z)) (List.mem_append_right _)
  have sm : Same (hide (A ++ B) H) (hide (A.filter (fun c => decide (c ≠ a)) ++ B) H) := hide_more hsub2
  have hout : a ∉ A.filter (fun c => decide (c ≠ a)) ++ B := fun z => (List.mem_append.mp z).elim (fun z => of_decide_eq_true (List.mem_filter.mp z).2 rfl) (r.dis a m)
  refine ⟨A.filter fun c => decide (c ≠ a), ⟨by rw [List.length_set, r.len], fun b hb => r.own b (hsub2 b hb), fun b hb => r.dis b (hsub b hb), fun j d ej => ?_, fun j kj ys ej => ?_⟩, hide_more hsub⟩
  ·rw [List.getElem?_set] at ej
   by_cases hij : i = j
   ·subst hij
    rw [if_pos rfl] at ej
    split at ej
    ·simp at ej
     subst ej
     exact ⟨_, e1, ko.rep (by rw [hide_out hout]; exact h1) (q.mono sm)⟩
    ·cases ej
   ·rw [if_neg hij] at ej
    obtain ⟨v, e2, q2⟩ := r.val j d ej
    exact ⟨v, e2, q2.mono sm⟩
  ·obtain ⟨hj, ej'⟩ := set_get_v ej
   obtain ⟨c, oc, ws, c1, cm, ch, kc, cq, cu⟩ := r.lst j kj ys ej'
   have hca : c ≠ a := fun z => by subst z; exact hj (u j kj ys ej' c1)
   exact ⟨c, oc, ws, c1, List.mem_filter.mpr ⟨cm, decide_eq_true hca⟩, ch, kc, cq.mono sm, fun k kz zs ek ek2 => cu k kz zs (set_get_v ek).2 ek2⟩
 ·exact ⟨A, r, Le.refl⟩
theorem RS.fz (is : List Nat) : ∀ {A : List Addr} {st : PSt}, RS K B A H st σ -> ∃ A', RS K B A' H (is.foldl Pu.fz1 st) σ /\ Le A H A' H := by
 induction is with
 | nil => exact fun r => ⟨_, r, Le.refl⟩
 | cons i is ih =>
  intro A st r
  obtain ⟨A1, r1, l1⟩ := r.fz1 i
  obtain ⟨A2, r2, l2⟩ := ih r1
  exact ⟨A2, r2, l1.trans l2⟩
end
section
variable {X : Cx} {B : List Addr} {a b e : Expr} {f g : Ex} {pos : Pos} {bd bd' : Bd} {sm : Stmt} {rest : List Stmt}
theorem s_nil : PSs X [] (tS X.K B sNext) := pss_imp pss_nil (by
 rintro Dn σ H ⟨A, st, r, rs, hr, p⟩
 cases hr
 exact p A σ H Le.refl rs)
theorem s_cons (h1 : PS X sm (tS X.K B bd)) (h2 : PSs X rest (tS X.K B bd')) : PSs X (sm :: rest) (tS X.K B (sSeq bd bd')) := by
 refine pss_imp (pss_cons h1 h2) ?_
 rintro Dn σ H ⟨A, st, r, rs, hr, p⟩
 obtain ⟨x, hx, h3⟩ := R.ok_of hr
 refine ⟨A, st, x, rs, hx, ?_⟩
 cases x with
 | nx s1 => exact fun A' σ' H' l rs' => ⟨A', s1, r, rs', h3, p.mono l⟩
 | rt d => cases h3; exact p
 | bk s1 => cases h3; exact p
 | ct s1 => cases h3; exact p
theorem s_one (h1 : PS X sm (tS X.K B bd)) : PSs X [sm] (tS X.K B bd) := pss_one h1
theorem s_fz (is : List Nat) (h : PS X sm (tS X.K B bd)) : PS X sm (tS X.K B (sFz is bd)) := ps_imp h (by
 rintro Dn σ H ⟨A, st, r, rs, hr, p⟩
 obtain ⟨A', rs', l⟩ := RS.fz is rs
 exact ⟨A', _, r, rs', hr, p.mono l⟩)
theorem s_ret (h : PE X e (tI X.K B f)) : PS X (.Return (some e) pos) (tS X.K B (sRet f)) := ps_imp (ps_ret h) (by
 rintro Dn σ H ⟨A, st, r, rs, hr, p⟩
 obtain ⟨d, hd, h3⟩ := R.ok_of hr
 cases h3
 exact ⟨A, st, d, rs, hd, fun v H' s q => p A v H' (Le.of s) q⟩)
theorem s_set (i : Nat) {x : Str} {pos' : Pos} (he : PE X e (tI X.K B f)) (hN : X.N.Nodup) (hi : X.N[i]? = some x := by rfl) (hx : Loc X.env.scope x := by first | exact Or.inl rfl | exact Or.inr rfl) (hs : swapsWith e (some (.Name x pos')) pos.line X.env = pure false := by rfl)
  (hf : X.fn x = true \/ X.env.scope.names.lookup x = some .local := by first | exact .inl rfl | exact .inr rfl | assumption) : PS X (.Assign [.Name x pos'] e pos) (tS X.K B (sSet i f)) := ps_imp (ps_set hN hi hx he hs hf) (by
 rintro Dn σ H ⟨A, st, r, rs, hr, p⟩
 obtain ⟨d, hd, h3⟩ := R.ok_of hr
 cases h3
 exact ⟨A, st, d, rs, hd, fun v H' s q => p A _ H' (Le.of s) ((rs.mono s).set i q)⟩)
def tF (K : PySem.W.Frag) (B : List Addr) (f : Ex) : TE := fun σ H Q => ∃ A st ds, RS K B A H st σ /\ f st = .ok (.lst ds) /\ ∀ p vs H', Same H H' -> H' p = none -> Reps K (hide (A ++ B) H') ds vs -> Q (.ref p) (upd H' p (.lst vs))
theorem f_lst {es : List Expr} {r : Exs} (h : PA X es (tA X.K B r)) : PE X (.List es pos) (tF X.K B (eLst r)) := by
 refine pe_imp (pe_lst h) ?_
 rintro σ H Q ⟨A, st, d, rs, hd, q⟩
 obtain ⟨xs, hx, h2⟩ := R.ok_of hd
 obtain ⟨c, h3⟩ := guardR_of h2
 cases h3
 exact ⟨A, st, _, rs, hx, fun vs H1 s1 r1 => ⟨by rw [r1.length]; exact lim c, fun p hp => q p vs H1 s1 hp r1⟩⟩
theorem s_setO (i : Nat) {x : Str} {pos' : Pos} (he : PE X e (tF X.K B f)) (hN : X.N.Nodup) (hi : X.N[i]? = some x := by rfl) (hx : Loc X.env.scope x := by first | exact Or.inl rfl | exact Or.inr rfl) (hs : swapsWith e (some (.Name x pos')) pos.line X.env = pure false := by rfl)
  (hf : X.fn x = true \/ X.env.scope.names.lookup x = some .local := by first | exact .inl rfl | exact .inr rfl | assumption) : PS X (.Assign [.Name x pos'] e pos) (tS X.K B (sSetO i f)) := ps_imp (ps_set hN hi hx he hs hf) (by
 rintro Dn σ H ⟨A, st, r, rs, hr, p⟩
 obtain ⟨d, hd, h3⟩ := R.ok_of hr
 cases d <;> first | (cases h3; done) | skip
 cases h3
 exact ⟨A, st, _, rs, hd, fun a vs H' s hn q => p (a :: A) _ _ ((Le.of s).trans (le_new hn)) ((rs.mono s).setO (kk := .l) i hn rfl q)⟩)
theorem s_if {c : Expr} {t : Ex} {x y : List Stmt} (hc : PT X c (tT X.K B t)) (ha : PSs X x (tS X.K B bd)) (hb : PSs X y (tS X.K B bd')) : PS X (.If c x y pos) (tS X.K B (sIf t bd bd')) := ps_imp (ps_if hc ha hb) (by
 rintro Dn σ H ⟨A, st, r, rs, hr, p⟩
 obtain ⟨d, hd, h3⟩ := R.ok_of hr
 obtain ⟨k, rfl, h4⟩ := onB_of h3
 refine ⟨A, st, k, rs, hd, fun H1 s1 => ?_⟩
 cases k with
 | true => exact ⟨A, st, r, rs.mono s1, h4, p.mono (Le.of s1)⟩
 | false => exact ⟨A, st, r, rs.mono s1, h4, p.mono (Le.of s1)⟩)
theorem g_name (i : Nat) {x : Str} (hN : X.N.Nodup) (hi : X.N[i]? = some x := by rfl) (hx : Loc X.env.scope x := by first | exact Or.inl rfl | exact Or.inr rfl)
  (hf : X.fn x = true \/ X.env.scope.names.lookup x = some .local := by first | exact .inl rfl | exact .inr rfl | assumption) : PG X (.Name x pos) (tG X.K B (tgN i)) := pg_imp (pg_name hN hi hx hf) (by
 rintro v σ H Q ⟨A, st, d, s1, rs, hr, hg, q⟩
 cases hg
 exact q _ (rs.set i hr))
def tGs (K : PySem.W.Frag) (B : List Addr) (is : List Nat) : TGs := fun vs σ H Q => ∃ A st ds s1, RS K B A H st σ /\ Reps K (hide (A ++ B) H) ds vs /\ setAll is ds st = .ok s1 /\ ∀ σ', RS K B A H s1 σ' -> Q σ' H
theorem pgs_imp {es : List Expr} {t t' : TGs} (h : PGs X es t) (m : ∀ v σ H Q, t' v σ H Q -> t v σ H Q) : PGs X es t' := fun pins s σ H v u Q I r q => h pins s σ H v u Q I r (m v σ H Q q)
theorem gs_nil : PGs X [] (tGs X.K B []) := pgs_imp pgs_nil (by
 rintro v σ H Q ⟨A, st, ds, s1, rs, hr, hg, q⟩
 cases ds with
 | nil => cases hg; exact ⟨reps_nil.mp hr, q σ rs⟩
 | cons _ _ => exact nomatch hg)
theorem gs_cons (i : Nat) {is : List Nat} {x : Str} {es : List Expr} (h2 : PGs X es (tGs X.K B is)) (hN : X.N.Nodup) (hi : X.N[i]? = some x := by rfl) (hx : Loc X.env.scope x := by first | exact Or.inl rfl | exact Or.inr rfl)
  (hf : X.fn x = true \/ X.env.scope.names.lookup x = some .local := by first | exact .inl rfl | exact .inr rfl | assumption)
  (hs : (assignEach (.Name x pos :: es) X.env).map (·.2) = assign (.Name x pos) X.env :: (assignEach es X.env).map (·.2) := by rfl) : PGs X (.Name x pos :: es) (tGs X.K B (i :: is)) := pgs_imp (pgs_cons (g_name i (pos := pos) hN hi hx hf) h2 hs) (by
 rintro v σ H Q ⟨A, st, ds, s1, rs, hr, hg, q⟩
 cases ds with
 | nil => exact nomatch hg
 | cons d ds =>
  obtain ⟨u, r, e, r1, r2⟩ := reps_cons.mp hr
  exact ⟨u, r, e, A, st, d, st.set i (some (.v d)), rs, r1, rfl, fun σ' rs' => ⟨A, _, ds, s1, rs', r2, hg, q⟩⟩)
theorem isList_but {h h' : Heap} {l it : Addr} {items : Array Value} (hl : h.IsList l items) (s : Heap.SameBut it h h') (hne : l ≠ it) : h'.IsList l items := by
 obtain ⟨o, e, r⟩ := hl
 exact ⟨o, (s.2 l hne).trans e, r⟩
theorem draw_list {M : Program} {w : World} {A : Around} {E : Value -> Shared -> Prop} {it t : Addr} {items : Array Value} (hne : t ≠ it) : ∀ (n i : Nat) (s : Shared) (Q : List Value -> Shared -> Prop), s.heap.IsListIter it t i -> s.heap.IsList t items -> i + n <= items.size ->
  (∀ h', h'.IsListIter it t (i + n) -> Heap.SameBut it s.heap h' -> Q ((items.toList.drop i).take n) { s with heap := h' }) -> wpAny (model M w) A (draw (.ref it) n) Q E s
 | 0, i, s, Q, hit, _, _, hQ => by
  show wpAny _ _ (pure []) Q E s
  exact wpAny_pure (by simpa using hQ s.heap hit (Heap.SameBut.refl ..))
 | n + 1, i, s, Q, hit, ht, hle, hQ => by
  have hlt : i < items.size := by omega
  show wpAny _ _ (pyNext (.ref it) >>= _) Q E s
  refine wpAny_bind (wpAny_pyNext_list_item hit ht (x := items[i]) (by simp [hlt]) fun h1 hit1 hs1 => ?_)
  refine wpAny_bind (wpAny_holding (draw_list hne n (i + 1) _ _ hit1 (isList_but ht hs1 hne) (by omega) fun h2 hit2 hs2 => wpAny_pure ?_))
  have hd : items.toList.drop i = items[i] :: items.toList.drop (i + 1) := by simp [List.drop_eq_getElem_cons, hlt]
  have := hQ h2 (by rw [show i + (n + 1) = i + 1 + n by omega]; exact hit2) (hs1.trans hs2)
  rw [hd, List.take_succ_cons] at this
  exact this
theorem assign_Tuple_list {M : Program} {w : World} {A : Around} {E : Value -> Shared -> Prop} {s : Shared} {env : Env} {elts : List Expr} {x1 : Nat} {pos : Pos} {t : Addr} {items : Array Value} {Q : Unit -> Shared -> Prop} (hh : A.handled = none) (ht : s.heap.IsList t items)
  (hn : (assignEach elts env).length = items.size) (hstar : (assignEach elts env).findIdx? (·.1) = none)
  (h : ∀ h', Heap.ExtBut s.heap.objs.size s.heap h' -> wpAny (model M w) A (assignInOrder ((assignEach elts env).map (·.2)) items.toList) Q E { s with heap := h' }) :
  wpAny (model M w) A (assign (.Tuple elts x1 pos) env (.ref t)) Q E s := by
 have hlt : t ≠ s.heap.objs.size := by obtain ⟨o, ho, _⟩ := ht; exact Nat.ne_of_lt (Heap.lt_size ho)
 rw [assign_Tuple]
 refine wpAny_bind (wpAny_standAt ?_)
 unfold unpack
 rw [hn, hstar]
 refine wpAny_bind (wpAny_holding ?_)
 unfold unpackItems
 refine wpAny_bind ?_
 unfold notIterableAtAll
 refine wpAny_bind (wpAny_specialOf ht.typeIs PySem.F.slot_list_iter.lookup ?_)
 refine wpAny_pure ?_
 simp only [Bool.false_eq_true, if_false]
 refine wpAny_bind (wpAny_holding (wpAny_pyIter_list ht ?_))
 have ht0 : (s.heap.push { cls := .type "list_iterator", data := .fields #[.ref t, rawInt 0] }).IsList t items := by
  obtain ⟨o, ho, r⟩ := ht
  exact ⟨o, Heap.get?_push_of_some _ ho, r⟩
 refine wpAny_bind (wpAny_holding (draw_list hlt items.size 0 _ _ ⟨_, Heap.get?_push_size _ rfl, rfl, rfl⟩ ht0 (by omega) fun h1 hit1 hs1 => ?_))
 have hall : List.take items.size (List.drop 0 items.toList) = items.toList := by
  rw [List.drop_zero]; exact List.take_of_length_le (by simp)
 rw [hall]
 rw [if_neg (by simp)]
 refine wpAny_bind (wpAny_holding (wpAny_pyNext_list_end hh hit1 (isList_but ht0 hs1 hlt) (by simp) fun h2 he2 => ?_))
 simp only [Option.isSome_none, Bool.false_eq_true, if_false]
 refine wpAny_pure (h h2 fun b o hb e => he2 b o hb (hs1.extBut b o hb (Heap.get?_push_of_some _ e)))
def gSeq (K : PySem.W.Frag) (n : Nat) (t : TGs) : TG := fun v σ H Q => ∃ a xs, v = .ref a /\ (SqT K H a xs \/ SqL K H a xs) /\ xs.length = n /\ t xs σ H Q
theorem pg_seq {es : List Expr} {k : Nat} {t : TGs} {n : Nat} (hc : X.calm = true) (h : PGs X es t)
  (hn : (assignEach es X.env).length = n := by rfl) (hst : (assignEach es X.env).findIdx? (·.1) = none := by rfl) : PG X (.Tuple es k pos) (gSeq X.K n t) := by
 intro pins s σ H v u Q I r hw
 obtain ⟨a, xs, e1, hq, hl, hw⟩ := hw
 rcases hq with hq | hq
 ·exact pg_tup hc h hn hst pins s σ H v u Q I r ⟨a, xs, e1, hq, hl, hw⟩
 ·subst e1
  cases r
  obtain ⟨its, rv, ht, hz⟩ := I.list hq
  refine assign_Tuple_list (I.ok.hd hc) ht.isList (by simp [hn, <- hl, rv.length]) hst fun h' hx => ?_
  have I1 : Inv X pins σ H { s with heap := h' } := I.kept (t' := s.toks) fun b o e => hx b o (Nat.ne_of_lt (Heap.lt_size e)) e
  exact h pins _ σ H xs _ Q I1 (by simpa using rv) hw
theorem setAll_len {s1 : PSt} : ∀ (is : List Nat) (ds : List D) (st : PSt), setAll is ds st = .ok s1 -> ds.length = is.length := by
 intro is
 induction is with
 | nil => intro ds st h; cases ds with | nil => rfl | cons _ _ => exact nomatch h
 | cons i is ih => intro ds st h; cases ds with | nil => exact nomatch h | cons _ ds => exact congrArg (· + 1) (ih ds _ h)
theorem g_tup {is : List Nat} {es : List Expr} {k : Nat} (hc : X.calm = true) (h : PGs X es (tGs X.K B is)) (hn : (assignEach es X.env).length = is.length := by rfl) (hst : (assignEach es X.env).findIdx? (·.1) = none := by rfl) : PG X (.Tuple es k pos) (tG X.K B (tgT is)) := pg_imp (pg_seq hc h hn hst) (by
 rintro v σ H Q ⟨A, st, d, s1, rs, hr, hg, q⟩
 cases d <;> first | (cases hg; done) | skip
 ·rename_i ds
  obtain ⟨a, vs, e, h1, h2⟩ := rep_tup_mp hr
  exact ⟨a, vs, e, .inl (sqT_mono (hide_sub _ _) h1), by rw [h2.length]; exact setAll_len is ds st hg, A, st, ds, s1, rs, h2, hg, q⟩
 ·rename_i ds
  obtain ⟨a, vs, e, h1, h2⟩ := rep_lst.mp hr
  exact ⟨a, vs, e, .inr ((hide_sub _ _).seq h1), by rw [h2.length]; exact setAll_len is ds st hg, A, st, ds, s1, rs, h2, hg, q⟩)
theorem s_for {tg iter : Expr} {body : List Stmt} {t : Tg} {it : ItE} (hi : L2.PI X tg iter (tIt X.K B it)) (hg : PG X tg (tG X.K B t)) (hb : PSs X body (tS X.K B bd)) (hp : PassesOwn (model X.prog X.w) X.A X.env X.xe) (hc : X.calm = true)
  (hs : ∀ x, foldedSetIterable iter X.env x = pure x := by intro _; rfl) : PS X (.For tg iter body [] pos) (tS X.K B (sFor t it bd)) := ps_imp (ps_for hp hc hi hg hb hs) (by
 rintro Dn σ H ⟨A, st, r, rs, hr, p⟩
 obtain ⟨ds, hd, h3⟩ := R.ok_of hr
 refine ⟨A, st, ds, rs, hd, fun J H1 s1 ito => ?_⟩
 refine ⟨fun i m σ' H' => ∃ A' st', m = ds.length - i /\ i <= ds.length /\ RS X.K B A' H' st' σ' /\ forR t bd (ds.drop i) st' = .ok r /\ Le A H1 A' H', ⟨ds.length, A, st, by simp, Nat.zero_le _, rs.mono s1, by rw [List.drop_zero]; exact h3, Le.refl⟩, ?_⟩
 rintro i m σ' H' ⟨A', st', rfl, hle, rs', hf, l⟩
 obtain ⟨i1, i2⟩ := ito A' H' l rs'.own i
 by_cases hlt : i < ds.length
 ·have hd' : ds[i]? = some ds[i] := List.getElem?_eq_getElem hlt
  obtain ⟨go, yl⟩ := i1 _ hd'
  rw [List.drop_eq_getElem_cons hlt] at hf
  obtain ⟨s2, hs2, h5⟩ := R.ok_of hf
  obtain ⟨fl, hfl, h6⟩ := R.ok_of h5
  refine .inr ⟨go, fun σ2 H2 => ∃ A2 st2, i + 1 <= ds.length /\ RS X.K B A2 H2 st2 σ2 /\ forR t bd (ds.drop (i + 1)) st2 = .ok r /\ Le A H1 A2 H2, ?_, fun x H2 y => ?_⟩
  ·rintro σ2 H2 ⟨A2, st2, hle2, rs2, hf2, l2⟩
   exact ⟨ds.length - (i + 1), by omega, A2, st2, rfl, hle2, rs2, hf2, l2⟩
  ·obtain ⟨sm, rx⟩ := yl x H2 y
   have l5 : Le A H1 A' H2 := l.trans (Le.of sm)
   refine ⟨A', st', ds[i], s2, rs'.mono sm, rx, hs2, fun σ3 rs3 => ⟨A', s2, fl, rs3, hfl, ?_⟩⟩
   cases fl with
   | nx s4 => exact fun A4 σ4 H4 l4 rs4 => ⟨A4, s4, hlt, rs4, h6, l5.trans l4⟩
   | ct s4 => exact fun A4 σ4 H4 l4 rs4 => ⟨A4, s4, hlt, rs4, h6, l5.trans l4⟩
   | bk s4 => cases h6; exact p.mono ((Le.of s1).trans l5)
   | rt d => cases h6; exact p.mono ((Le.of s1).trans l5)
 ·have e : i = ds.length := by omega
  subst e
  rw [List.drop_length] at hf
  cases hf
  exact .inl ⟨i2 (Nat.le_refl _), p A' σ' H' ((Le.of s1).trans l) rs'⟩)
theorem itl_of {K : PySem.W.Frag} {A : List Addr} {H : Hp} {ds : List D} {vs : List V} {l : Addr} (hq : SqL K (hide (A ++ B) H) l vs) (r : Reps K (hide (A ++ B) H) ds vs) : ItOf K B A H (Itl K l) ds := by
 intro A' H' le own i
 have hq' : SqL K H' l vs := (hide_sub _ _).seq ((Le.app le).seq hq)
 refine ⟨fun d hd => ?_, fun hl => ⟨vs, hq', by rw [r.length]; exact hl⟩⟩
 obtain ⟨v, hv, rv⟩ := r.get hd
 refine ⟨⟨vs, v, hq', hv⟩, fun x H3 y => ⟨by rw [y.1]; exact Same.refl _, ?_⟩⟩
 have hx := y.2 vs hq'
 rw [y.1]
 rw [hv] at hx
 cases hx
 exact rv.mono (Le.app le)
theorem itt_of {K : PySem.W.Frag} {A : List Addr} {H : Hp} {ds : List D} {vs : List V} {l : Addr} (hq : SqT K (hide (A ++ B) H) l vs) (r : Reps K (hide (A ++ B) H) ds vs) : ItOf K B A H (Itt K l) ds := by
 intro A' H' le own i
 have hq' : SqT K H' l vs := sqT_mono (hide_sub _ _) (sqT_mono (Le.app le) hq)
 refine ⟨fun d hd => ?_, fun hl => ⟨vs, hq', by rw [r.length]; exact hl⟩⟩
 obtain ⟨v, hv, rv⟩ := r.get hd
 refine ⟨⟨vs, v, hq', hv⟩, fun x H3 y => ⟨by rw [y.1]; exact Same.refl _, ?_⟩⟩
 have hx := y.2 vs hq'
 rw [y.1]
 rw [hv] at hx
 cases hx
 exact rv.mono (Le.app le)
theorem itr_of {K : PySem.W.Frag} {A : List Addr} {H : Hp} {lo : Int} {n : Nat} : ItOf K B A H (Itr lo n) (rangeD lo n) := by
 intro A' H' le own i
 have hl : (rangeD lo n).length = n := by simp [rangeD]
 refine ⟨fun d hd => ?_, fun h => by rw [hl] at h; exact h⟩
 have hi : i < n := by
  have := (List.getElem?_eq_some_iff.mp hd).1
  rw [hl] at this; exact this
 have e : d = .int (lo + (i : Int)) := by
  unfold rangeD at hd
  rw [List.getElem?_map, List.getElem?_range hi] at hd
  exact (Option.some.inj hd).symm
 subst e
 exact ⟨hi, fun x H3 y => ⟨by rw [y.1]; exact Same.refl _, rep_int.mpr y.2⟩⟩
def Its (z : List Nat) : It := ⟨fun i _ => i < z.length, fun i H x H' => H' = H /\ ∃ c, z[i]? = some c /\ x = .str ⟨#[c]⟩, fun i _ => z.length <= i⟩
theorem turn_str {P : Program} {w : World} {K : PySem.W.Frag} {tg : Expr} {z : List Nat} {it : Addr} {n : String} {t : Tok} (hn : n = "str_ascii_iterator" \/ n = "str_iterator") : Turn P w K tg (Its z) [it] it (fun i h => h.IsStrIter it n ⟨z.toArray⟩ t i) where
 mem := by simp
 obj := fun i h st b hb => by
  have e : b = it := by simpa using hb
  subst e
  obtain ⟨o, e, c, d⟩ := st
  exact ⟨o, e, fun v z => by rw [d] at z; cases z⟩
 keep := fun i h h' st k => let ⟨o, e, r⟩ := st; ⟨o, k it (by simp) o e, r⟩
 item := by
  intro X hP hw hK hc i pins s σ H E I hf st hg
  subst hP hw hK
  obtain ⟨f0, f1, f2, f3, f4, f5⟩ := hf it (by simp)
  have fin : ∀ v h' tk, SignAt ⟨z.toArray⟩ i v -> Heap.IsStrIter h' it n ⟨z.toArray⟩ t (i + 1) -> (∀ b o, b ∉ [it] -> s.heap.get? b = some o -> h'.get? b = some o) ->
    ∃ u, some v = some u /\ wpAny (model X.prog X.w) X.A (letOwnedTupleGo tg (.ref it) u) (fun _ s2 => ∃ x H', Inv X pins σ H' s2 /\ RelV x u /\ (Its z).yld i H x H' /\ Heap.IsStrIter s2.heap it n ⟨z.toArray⟩ t (i + 1) /\ ∀ b ∈ [it], H' b = none) E { s with heap := h', toks := tk } := by
   intro v h' tk hv st' kk
   obtain ⟨c, u, hcu, rfl⟩ := hv
   have I1 : Inv X pins σ H { s with heap := h', toks := tk } := I.turned (fun b o hb e => kk b o (by simpa using hb) e) f0 f1 f3 f4 f5
   obtain ⟨o, e, c', d⟩ := id st'
   refine ⟨_, rfl, go_of (s := { s with heap := h', toks := tk }) e c' d (by rcases hn with rfl | rfl <;> decide) ⟨.str ⟨#[c]⟩, H, I1, ⟨u, rfl⟩, ⟨rfl, c, ?_, rfl⟩, st', fun b hb => (hf b hb).1⟩⟩
   simpa using hcu
  have hg2 : i < z.length := hg
  have hg' : i < (⟨z.toArray⟩ : Str).cps.size := by simpa using hg2
  rcases hn with rfl | rfl
  ·exact (Walks.strAscii (prog := X.prog) (w := X.w) (I.ok.hd hc) it ⟨z.toArray⟩ t).item i s _ _ hg' st fun v h' tk hv st' kk => fin v h' tk hv st' kk
  ·exact (Walks.strWide (prog := X.prog) (w := X.w) (I.ok.hd hc) it ⟨z.toArray⟩ t).item i s _ _ hg' st fun v h' tk hv st' kk => fin v h' tk hv st' kk
 done := by
  intro X hP hw hK hc i pins s σ H E I hf st hg
  subst hP hw hK
  obtain ⟨f0, f1, f2, f3, f4, f5⟩ := hf it (by simp)
  have hg2 : z.length <= i := hg
  rcases hn with rfl | rfl
  ·exact wpAny_pyNext_ascii_end (I.ok.hd hc) st (by simpa using hg2) fun h' eb => ⟨rfl, I.turned (t' := s.toks) (fun b o hb e => eb b o hb e) f0 f1 f3 f4 f5⟩
  ·exact wpAny_pyNext_wide_end (I.ok.hd hc) st (by simpa using hg2) fun h' eb => ⟨rfl, I.turned (t' := s.toks) (fun b o hb e => eb b o hb e) f0 f1 f3 f4 f5⟩
 self := fun _ _ _ _ _ st h => by
  rcases hn with rfl | rfl
  ·exact wpAny_pyIter_striter_ascii st h
  ·exact wpAny_pyIter_striter_wide st h
theorem its_of {K : PySem.W.Frag} {A : List Addr} {H : Hp} {z : List Nat} : ItOf K B A H (Its z) (z.map fun c => .str [c]) := by
 intro A' H' le own i
 refine ⟨fun d hd => ?_, fun h => (by simpa using h : z.length <= i)⟩
 rw [List.getElem?_map] at hd
 cases hz : z[i]? with
 | none => rw [hz] at hd; cases hd
 | some c =>
  rw [hz] at hd
  cases hd
  refine ⟨(List.getElem?_eq_some_iff.mp hz).1, fun x H3 y => ⟨by rw [y.1]; exact Same.refl _, ?_⟩⟩
  obtain ⟨c', hc', rfl⟩ := y.2
  rw [hz] at hc'
  cases hc'
  exact rep_str.mpr rfl
def iSeq (K : PySem.W.Frag) (tl : TE) : TI := fun σ H R => tl σ H fun x H1 => (∃ a, x = .ref a /\ (((∃ xs, SqL K H1 a xs) /\ R (Itl K a) H1) \/ ((∃ xs, SqT K H1 a xs) /\ R (Itt K a) H1))) \/ ∃ z : List Nat, x = .str ⟨z.toArray⟩ /\ R (Its z) H1
theorem pi_seq {tg l : Expr} {tl : TE} (hl : PE X l tl) : L2.PI X tg l (iSeq X.K tl) := by
 intro pins s σ H R I h
 refine thn (hl pins s σ H _ I h) fun v s1 ⟨x, H1, I1, r1, q1⟩ => ?_
 rcases q1 with ⟨a, e, q⟩ | ⟨z, rfl, q⟩
 rotate_left
 ·obtain ⟨t, rfl⟩ := r1
  refine wpAny_pyIter_strU ?_
  refine ⟨s1.heap.objs.size, [s1.heap.objs.size], _, _, H1, rfl, I1.kept (t' := s1.toks) fun b o e => Heap.get?_push_of_some _ e, turn_str (z := z) (n := strIterType ⟨z.toArray⟩) (t := t) (by unfold strIterType; split <;> simp), ⟨_, Heap.get?_push_size _ rfl, rfl, rfl⟩, fun b hb => ?_, q⟩
  have e : b = s1.heap.objs.size := by simpa using hb
  subst e
  exact I1.fpOk (Nat.le_refl _) (I1.hok.fresh (Nat.le_refl _))
 subst e
 cases r1
 rcases q with ⟨⟨xs, hq⟩, q⟩ | ⟨⟨xs, hq⟩, q⟩
 ·obtain ⟨its, rv, p, hz⟩ := I1.list hq
  refine wpAny_pyIter_list p.isList ?_
  refine ⟨s1.heap.objs.size, [s1.heap.objs.size], _, _, H1, rfl, I1.kept (t' := s1.toks) fun b o e => Heap.get?_push_of_some _ e, turn_list a _, ⟨_, Heap.get?_push_size _ rfl, rfl, rfl⟩, fun b hb => ?_, q⟩
  have e : b = s1.heap.objs.size := by simpa using hb
  subst e
  exact I1.fpOk (Nat.le_refl _) (I1.hok.fresh (Nat.le_refl _))
 ·obtain ⟨its, rv, p, hz⟩ := I1.tuple hq
  refine wpAny_pyIter_tuple (show s1.heap.IsTuple a its.toArray from p) ?_
  refine ⟨s1.heap.objs.size, [s1.heap.objs.size], _, _, H1, rfl, I1.kept (t' := s1.toks) fun b o e => Heap.get?_push_of_some _ e, turn_tuple a _, ⟨_, Heap.get?_push_size _ rfl, rfl, rfl⟩, fun b hb => ?_, q⟩
  have e : b = s1.heap.objs.size := by simpa using hb
  subst e
  exact I1.fpOk (Nat.le_refl _) (I1.hok.fresh (Nat.le_refl _))
theorem it_e {tg l : Expr} (hl : PE X l (tI X.K B f)) : L2.PI X tg l (tIt X.K B (itE f)) := pi_imp (pi_seq hl) (by
 rintro σ H Rq ⟨A, st, ds, rs, hd, q⟩
 obtain ⟨x, hx, h2⟩ := R.ok_of hd
 refine ⟨A, st, x, rs, hx, fun v H1 s1 r1 => ?_⟩
 cases x <;> first | (cases h2; done) | skip
 ·obtain ⟨_, h2⟩ := guardR_of h2
  cases h2
  exact .inr ⟨_, rep_str.mp r1, q _ H1 s1 its_of⟩
 ·cases h2
  obtain ⟨a, vs, e, h3, r3⟩ := rep_tup_mp r1
  exact .inl ⟨a, e, .inr ⟨⟨vs, sqT_mono (hide_sub _ _) h3⟩, q _ H1 s1 (itt_of h3 r3)⟩⟩
 ·cases h2
  obtain ⟨a, vs, e, h3, r3⟩ := rep_lst.mp r1
  exact .inl ⟨a, e, .inl ⟨⟨vs, (hide_sub _ _).seq h3⟩, q _ H1 s1 (itl_of h3 r3)⟩⟩)
theorem it_r1 {tg : Expr} {p : Pos} (hm : X.mg "range" = none) (ha : PE X a (tP X.K B f)) (hg : Gl X "range" := by rfl) (hs : starEach [a] X.env = [(false, eval a X.env)] := by rfl) : L2.PI X tg (.Call (.Name "range" p) [a] [] pos) (tIt X.K B (itR1 f)) := pi_imp (pi_range1 hg hm (pa_cons ha pa_nil hs) hs) (by
 rintro σ H Rq ⟨A, st, ds, rs, hd, q⟩
 obtain ⟨x, hx, h2⟩ := R.ok_of hd
 obtain ⟨j, rfl, h3⟩ := inI_of h2
 obtain ⟨c, h4⟩ := guardR_of h3
 rw [big_eq] at c
 cases h4
 exact ⟨A, st, _, rs, hx, fun v H1 s1 r1 => ⟨j, by rw [r1.int], by omega, by omega, q _ H1 s1 itr_of⟩⟩)
end
theorem start_rs {K : PySem.W.Frag} {B : List Addr} {H : Hp} {N : List Str} {ds : List D} {vs : List V} (w : Own B H) (r : Reps K (hide B H) ds vs) : RS K B [] H (ds.map (fun d => some (Sl.v d)) ++ List.replicate (N.length - ds.length) none) (L2.start N vs) := by
 have hl := r.length
 have nov : ∀ (i : Nat) (s : Sl), (ds.map (fun d => some (Sl.v d)) ++ List.replicate (N.length - ds.length) none)[i]? = some (some s) -> ∃ d, ds[i]? = some d /\ s = .v d := fun i s e => by
  by_cases hi : i < ds.length
  ·rw [List.getElem?_append_left (by simpa using hi), List.getElem?_map, List.getElem?_eq_getElem hi] at e
   simp at e
   exact ⟨ds[i], List.getElem?_eq_getElem hi, e.symm⟩
  ·rw [List.getElem?_append_right (by simpa using hi), List.getElem?_replicate] at e
   split at e <;> simp at e
 refine ⟨by unfold L2.start; simp [hl], by rw [List.nil_append]; exact w, fun a ha => absurd ha (by simp), fun i d e => ?_, fun i kk xs e => ?_⟩
 ·obtain ⟨d', e1, e2⟩ := nov i _ e
  cases e2
  obtain ⟨v, hv, rv⟩ := r.get e1
  refine ⟨v, ?_, by rw [List.nil_append]; exact rv⟩
  unfold L2.start
  have hi : i < vs.length := (List.getElem?_eq_some_iff.mp hv).1
  rw [List.getElem?_append_left (by simpa using hi), List.getElem?_map, hv]
  rfl
 ·obtain ⟨d', e1, e2⟩ := nov i _ e
  cases e2
theorem runD_len {np n : Nat} {bd : Bd} (ds : List D) (d : D) (h : runD np n bd ds = .ok d) : ds.length = np := (guardR_of h).1
end Pu
namespace Pu
open PySem PySem.Spec PyProof.Rows L2
structure DefOk (P : Program) (w : World) (K : PySem.W.Frag) (mg : Str -> Option Value) (base : Heap) (x : Str) (k np : Nat) (p : List D -> R D) : Prop where
 ex : ∃ (fa : Addr) (fd : FuncData) (ps : List Str), FnOk P w K mg base CX0 k fa fd ps (spI K np p) /\ mg x = some (.ref fa) /\ PySem.W.keepIn K (.ref fa) = true /\ Binds K fd ps []
 len : ∀ ds d, p ds = .ok d -> ds.length = np
theorem DefOk.of {P : Program} {w : World} {K : PySem.W.Frag} {mg : Str -> Option Value} {base : Heap} {x : Str} {k np : Nat} {p : List D -> R D} {fa : Addr} {fd : FuncData} {ps : List Str} (h : FnOk P w K mg base CX0 k fa fd ps (spI K np p)) (m : mg x = some (.ref fa))
  (kp : PySem.W.keepIn K (.ref fa) = true) (b : Binds K fd ps []) (l : ∀ ds d, p ds = .ok d -> ds.length = np) : DefOk P w K mg base x k np p := ⟨⟨fa, fd, ps, h, m, kp, b⟩, l⟩
section
variable {X : Cx} {B : List Addr} {a b e : Expr} {f g : Ex} {pos : Pos}
theorem i_callD {x : Str} {k j np : Nat} {p : List D -> R D} {es : List Expr} {r : Exs} {p0 : Pos} (h : DefOk X.prog X.w X.K X.mg X.base x k np p) (hr : Room j X.A) (hk : k <= j) (ha : PA X (e :: es) (tA X.K B r)) (hg : Gl X x := by rfl) (hdb : (x == ("__debug__" : Str)) = false := by decide)
  (he : starEach (e :: es) X.env = (false, eval e X.env) :: starEach es X.env := by rfl) (hpl : (backTo pos (starEach es X.env)).any (·.1) = false := by rfl) : PE X (.Call (.Name x p0) (e :: es) [] pos) (tI X.K B (eCall p r)) := by
 obtain ⟨fa, fd, ps, F, m, kp, bd⟩ := h.ex
 exact i_call F (hr.mono hk) m kp bd h.len ha hg hdb he hpl
theorem law_sp {K : PySem.W.Frag} {H : Hp} {a : Addr} {ns : List Int} {p : List D -> R D} {E : XK} (hS : SqL K H a (ns.map V.int)) (h : p [.lst (ns.map D.int)] = .ok (.bl true)) : spI K 1 p [.ref a] H (fun v _ => v = .bl true) E := by
 refine ⟨[], [.lst (ns.map D.int)], .bl true, fun b hb => absurd hb (by simp), ?_, rfl, h, fun v H' _ r => rep_bl.mp r⟩
 rw [hide_nil]
 refine .cons (rep_lst.mpr ⟨a, _, rfl, hS, ?_⟩) .nil
 clear hS h
 induction ns with
 | nil => exact .nil
 | cons n ns ih => exact .cons (rep_int.mpr rfl) ih
theorem o_none : PO X none (tO X.K B oNone) := po_imp po_none (by
 rintro σ H Q ⟨A, st, o, rs, ho, q⟩
 cases ho
 exact q H (Same.refl _))
theorem o_some (h : PE X e (tP X.K B f)) : PO X (some e) (tO X.K B (oSome f)) := po_imp (po_some h) (by
 rintro σ H Q ⟨A, st, o, rs, ho, q⟩
 obtain ⟨x, hx, h2⟩ := R.ok_of ho
 obtain ⟨i, rfl, h3⟩ := inI_of h2
 cases h3
 exact ⟨A, st, _, rs, hx, fun v H1 s1 r1 => ⟨i, r1.int, q H1 s1⟩⟩)
theorem fm_range {α : Type} (x : List α) : ∀ (k a : Nat), ((List.range k).map (a + ·)).filterMap (x[·]?) = (x.drop a).take k
 | 0, a => by simp
 | k + 1, a => by
  rw [List.range_succ_eq_map, List.map_cons, List.filterMap_cons, List.map_map]
  have e : ((fun b => a + b) ∘ Nat.succ) = fun b => (a + 1) + b := by funext b; simp only [Function.comp_apply]; omega
  rw [e]
  have ih := fm_range x k (a + 1)
  rw [ih]
  by_cases h : a < x.length
  ·rw [Nat.add_zero, List.getElem?_eq_getElem h]
   simp only [List.drop_eq_getElem_cons h, List.take_succ_cons]
  ·rw [Nat.add_zero, List.getElem?_eq_none (by omega)]
   simp only [List.drop_eq_nil_of_le (by omega : x.length <= a), List.drop_eq_nil_of_le (by omega : x.length <= a + 1), List.take_nil]
theorem clip_lo (n d : Nat) (o : Option Int) : (match o with | none => (d : Int) | some i => if (1 : Int) > 0 then max 0 (min (if i < 0 then i + (n : Int) else i) (n : Int)) else max (-1) (min (if i < 0 then i + (n : Int) else i) ((n : Int) - 1))) = ((sIx n d o : Nat) : Int) := by
 cases o with
 | none => rfl
 | some i =>
  show (if (1 : Int) > 0 then _ else _) = (((if i < 0 then (i + (n : Int)).toNat else min i.toNat n) : Nat) : Int)
  rw [if_pos (by decide)]
  by_cases h : i < 0
  ·rw [if_pos h, if_pos h]; omega
  ·rw [if_neg h, if_neg h]; omega
theorem slice_ix (lo hi : Option Int) (n : Nat) : Builtin.Str.strSliceIndices lo hi 1 n = (List.range (sIx n n hi - sIx n 0 lo)).map (sIx n 0 lo + ·) := by
 unfold Builtin.Str.strSliceIndices
 simp only [show (1 : Int) > 0 by decide, if_true]
 have e1 := clip_lo n 0 lo
 have e2 := clip_lo n n hi
 simp only [show (1 : Int) > 0 by decide, if_true] at e1 e2
 rw [show ((0 : Nat) : Int) = 0 from rfl] at e1
 refine Eq.trans (congrArg (fun z => sliceRange z _ 1) (show _ = ((sIx n 0 lo : Nat) : Int) from e1)) (Eq.trans (congrArg (fun z => sliceRange _ z 1) (show _ = ((sIx n n hi : Nat) : Int) from e2)) ?_)
 unfold sliceRange
 simp only [show (1 : Int) > 0 by decide, if_true]
 have hc : (if ((sIx n 0 lo : Nat) : Int) < ((sIx n n hi : Nat) : Int) then (((sIx n n hi : Nat) : Int) - ((sIx n 0 lo : Nat) : Int) + 1 - 1) / 1 else 0).toNat = sIx n n hi - sIx n 0 lo := by
  by_cases h : ((sIx n 0 lo : Nat) : Int) < ((sIx n n hi : Nat) : Int)
  ·rw [if_pos h, Int.ediv_one]; omega
  ·rw [if_neg h]; omega
 rw [hc]
 refine List.map_congr_left fun k _ => ?_
 omega
theorem sIx_le' (n d : Nat) (hd : d <= n) (o : Option Int) : sIx n d o <= n := by
 cases o with
 | none => exact hd
 | some v =>
  show (if v < 0 then (v + (n : Int)).toNat else min v.toNat n) <= n
  by_cases hv : v < 0
  ·rw [if_pos hv]; omega
  ·rw [if_neg hv]; omega
theorem cut_slice (x : List Nat) (lo hi : Option Int) : Txt.slice ⟨x.toArray⟩ lo hi = ⟨(cut x lo hi).toArray⟩ := by
 unfold Txt.slice cut
 rw [str_len, slice_ix, List.length_map, List.length_range]
 have h1 := sIx_le' x.length x.length (Nat.le_refl _) hi
 by_cases h : sIx x.length x.length hi - sIx x.length 0 lo = x.length
 ·have e0 : sIx x.length 0 lo = 0 \/ x.length = 0 := by omega
  rw [if_pos (by simp [h]), h]
  rcases e0 with e0 | e0
  ·rw [e0, List.drop_zero, List.take_length]
  ·rw [List.length_eq_zero_iff.mp e0]; simp
 ·rw [if_neg (by simp [h])]
  have e : (fun (i : Nat) => (⟨x.toArray⟩ : Str).cps[i]?) = fun i => x[i]? := by funext i; simp
  rw [e, fm_range]
def rSlS : V -> Option Int -> Option Int -> Hp -> VK -> Prop := fun x lo hi H Q => ∃ z : List Nat, x = .str ⟨z.toArray⟩ /\ z.length <= sizeLine /\ Q (.str ⟨(cut z lo hi).toArray⟩) H
theorem sl_str : SlR X rSlS := by
 intro pins s σ H x v vl vu lo hi sl Q I rx hs pl pu h
 obtain ⟨z, rfl, hz, q⟩ := h
 obtain ⟨t, rfl⟩ := rx
 refine ⟨"str", _, PySem.F.slot_str_getitem.lookup, typeIs_str _ _ _, ?_⟩
 have hl : (Txt.slice ⟨z.toArray⟩ lo hi).length <= sizeLine := Nat.le_trans (Txt.slice_le _ _ _) (by rw [str_len]; exact hz)
 have fin : ∀ t' k, EP X pins σ Q (.str (Txt.slice ⟨z.toArray⟩ lo hi) t') { s with toks := k } := fun t' k => ⟨.str ⟨(cut z lo hi).toArray⟩, H, I.tok k, ⟨t', by rw [cut_slice]⟩, q⟩
 cases pl with
 | none =>
  cases pu with
  | none => exact wpAny_getItem_str_slice (l := none) (u := none) (st := none) hs rfl (post_val_or_str ⟨hl, fin⟩)
  | int j uj => exact wpAny_getItem_str_slice (l := none) (u := some (j, uj)) (st := none) hs rfl (post_val_or_str ⟨hl, fin⟩)
 | int i ui =>
  cases pu with
  | none => exact wpAny_getItem_str_slice (l := some (i, ui)) (u := none) (st := none) hs rfl (post_val_or_str ⟨hl, fin⟩)
  | int j uj => exact wpAny_getItem_str_slice (l := some (i, ui)) (u := some (j, uj)) (st := none) hs rfl (post_val_or_str ⟨hl, fin⟩)
theorem cutV_cut {K : PySem.W.Frag} {H : Hp} {ds : List D} {vs : List V} (lo hi : Option Int) (r : Reps K H ds vs) : Reps K H (cut ds lo hi) (cutV vs lo hi) := by
 unfold cut cutV
 rw [r.length]
 exact (r.drop _).take _
theorem i_sl {lo hi : Option Expr} {l u : ExO} {p2 : Pos} (ha : PE X a (tP X.K B f)) (hl : PO X lo (tO X.K B l)) (hu : PO X hi (tO X.K B u)) : PE X (.Subscript a (.Slice lo hi none p2) pos) (tI X.K B (eSl f l u)) := by
 refine pe_imp (pe_slice (sl_list.or sl_str) ha hl hu) ?_
 rintro σ H Q ⟨A, st, d, rs, hd, q⟩
 obtain ⟨x, hx, h2⟩ := R.ok_of hd
 obtain ⟨l', hl', h3⟩ := R.ok_of h2
 obtain ⟨u', hu', h4⟩ := R.ok_of h3
 refine ⟨A, st, x, rs, hx, fun v H1 s1 r1 => ⟨A, st, l', rs.mono s1, hl', fun H2 s2 => ⟨A, st, u', rs.mono (s1.trans s2), hu', fun H3 s3 => ?_⟩⟩⟩
 have r3 := r1.mono (s2.trans s3)
 cases x <;> first | (cases h4; done) | skip
 ·obtain ⟨c, h5⟩ := guardR_of h4
  cases h5
  exact .inr ⟨_, r3.str, lim c, q _ H3 (s1.trans (s2.trans s3)) (rep_str.mpr rfl)⟩
 ·cases h4
  obtain ⟨p, vs, e, h6, r6⟩ := r3.lst
  refine .inl ⟨p, vs, e, h6, fun n hn => q _ _ (s1.trans (s2.trans (s3.trans (same_upd hn)))) ?_⟩
  exact rep_new_lst (rs.own.mono (s1.trans (s2.trans s3))) hn (cutV_cut _ _ r6)
end
end Pu
namespace Pu
open PySem PySem.Spec PyProof.Rows L2
def clo (cells : List (Str × Addr)) : List (Str × NameKind) -> List (Str × Addr) -> List (Str × Addr)
 | [], acc => acc
 | (n, k) :: r, acc => if k == .free then clo cells r ((n, (cells.lookup n).getD 0) :: acc) else clo cells r acc
theorem closure_eq {env : Env} : ∀ (names : List (Str × NameKind)) (acc : List (Str × Addr)), (∀ y ∈ names, y.2 = .free -> ∃ c, env.cells.lookup y.1 = some c) ->
  (forIn names acc fun x cs => if x.2 == .free then (do let c <- cellOf env x.1; pure (ForInStep.yield ((x.1, c) :: cs))) else pure (ForInStep.yield cs) : Sem (List (Str × Addr))) = pure (clo env.cells names acc)
 | [], acc, _ => by rw [List.forIn_nil]; rfl
 | (n, k) :: r, acc, h => by
  rw [List.forIn_cons]
  unfold clo
  by_cases hk : k = .free
  ·subst hk
   obtain ⟨c, e⟩ := h (n, .free) List.mem_cons_self rfl
   have e2 : cellOf env n = pure c := by unfold cellOf; rw [e]
   simp only [beq_self_eq_true, if_true, e2, e, Option.getD_some]
   show (forIn r ((n, c) :: acc) _ : Sem (List (Str × Addr))) = _
   exact closure_eq r _ fun y hy => h y (List.mem_cons_of_mem _ hy)
  ·have hb : (k == NameKind.free) = false := by simpa using hk
   simp only [hb, Bool.false_eq_true, if_false]
   show (forIn r acc _ : Sem (List (Str × Addr))) = _
   exact closure_eq r _ fun y hy => h y (List.mem_cons_of_mem _ hy)
theorem closureFor_eq {scope : Scope} {env : Env} (h : ∀ y ∈ scope.names, y.2 = .free -> ∃ c, env.cells.lookup y.1 = some c) : closureFor scope env = pure (clo env.cells scope.names []) := by
 have q := closure_eq (env := env) scope.names [] h
 unfold closureFor
 rw [<- q]
 simp only [pure_bind, bind_pure]
theorem clo_mem {cells : List (Str × Addr)} : ∀ (names : List (Str × NameKind)) (acc : List (Str × Addr)) (x : Str) (c : Addr), (∀ y ∈ names, y.2 = .free -> ∃ c, cells.lookup y.1 = some c) -> (x, c) ∈ clo cells names acc -> ((x, NameKind.free) ∈ names /\ cells.lookup x = some c) \/ (x, c) ∈ acc
 | [], acc, x, c, _, h => .inr h
 | (n, k) :: r, acc, x, c, hn, h => by
  unfold clo at h
  have hr : ∀ y ∈ r, y.2 = .free -> ∃ c, cells.lookup y.1 = some c := fun y hy => hn y (List.mem_cons_of_mem _ hy)
  by_cases hk : k = .free
  ·subst hk
   rw [if_pos (by simp)] at h
   obtain ⟨c', e⟩ := hn (n, .free) List.mem_cons_self rfl
   rcases clo_mem r _ x c hr h with ⟨h1, h2⟩ | h1
   ·exact .inl ⟨List.mem_cons_of_mem _ h1, h2⟩
   ·rcases List.mem_cons.mp h1 with h1 | h1
    ·cases h1
     refine .inl ⟨List.mem_cons_self, ?_⟩
     have e' : cells.lookup n = some c' := e
     rw [e']; rfl
    ·exact .inr h1
  ·rw [if_neg (by simpa using hk)] at h
   rcases clo_mem r _ x c hr h with ⟨h1, h2⟩ | h1
   ·exact .inl ⟨List.mem_cons_of_mem _ h1, h2⟩
   ·exact .inr h1
theorem clo_has {cells : List (Str × Addr)} : ∀ (names : List (Str × NameKind)) (acc : List (Str × Addr)) (x : Str), ((x, NameKind.free) ∈ names \/ ∃ c, (x, c) ∈ acc) -> ∃ c, (x, c) ∈ clo cells names acc
 | [], acc, x, h => by
  rcases h with h | h
  ·cases h
  ·exact h
 | (n, k) :: r, acc, x, h => by
  unfold clo
  by_cases hk : k = .free
  ·subst hk
   rw [if_pos (by simp)]
   refine clo_has r _ x ?_
   rcases h with h | ⟨c, h⟩
   ·rcases List.mem_cons.mp h with h | h
    ·cases h; exact .inr ⟨_, List.mem_cons_self⟩
    ·exact .inl h
   ·exact .inr ⟨c, List.mem_cons_of_mem _ h⟩
  ·rw [if_neg (by simpa using hk)]
   refine clo_has r _ x ?_
   rcases h with h | h
   ·rcases List.mem_cons.mp h with h | h
    ·cases h; exact absurd rfl hk
    ·exact .inl h
   ·exact .inr h
theorem lookup_of_mem {α : Type} : ∀ {l : List (Str × α)} {x : Str} {c : α}, (x, c) ∈ l -> ∃ c', l.lookup x = some c'
 | (n, v) :: r, x, c, h => by
  rw [List.lookup_cons]
  cases hb : x == n with
  | true => exact ⟨v, rfl⟩
  | false =>
   rcases List.mem_cons.mp h with h | h
   ·cases h; simp at hb
   ·exact lookup_of_mem h
theorem relabel_lookup {env : Env} : ∀ (names : List (Str × NameKind)) (x : Str), (names.map fun (n, k) => if (k == NameKind.free && env.scope.kind == .function && env.kindOf n == some .cell) then (n, NameKind.cell) else (n, k)).lookup x =
  (names.lookup x).map fun k => if (k == NameKind.free && env.scope.kind == .function && env.kindOf x == some .cell) then NameKind.cell else k
 | [], _ => rfl
 | (n, k) :: r, x => by
  have ih := @relabel_lookup env r x
  rw [List.map_cons, List.lookup_cons]
  show List.lookup x ((if (k == NameKind.free && env.scope.kind == .function && env.kindOf n == some .cell) = true then (n, NameKind.cell) else (n, k)) :: _) = _
  cases hx : x == n with
  | true =>
   have e : x = n := beq_iff_eq.mp hx
   subst e
   by_cases hc : (k == NameKind.free && env.scope.kind == .function && env.kindOf x == some .cell) = true
   ·rw [if_pos hc, List.lookup_cons, List.lookup_cons, hx]; simp only [Option.map_some]; rw [if_pos hc]
   ·rw [if_neg hc, List.lookup_cons, List.lookup_cons, hx]; simp only [Option.map_some]; rw [if_neg hc]
  | false =>
   by_cases hc : (k == NameKind.free && env.scope.kind == .function && env.kindOf n == some .cell) = true
   ·rw [if_pos hc, List.lookup_cons, List.lookup_cons, hx]; exact ih
   ·rw [if_neg hc, List.lookup_cons, List.lookup_cons, hx]; exact ih
theorem cellsFrom_app : ∀ (names : List (Str × NameKind)) (n : Nat) (acc : List (Str × Addr)), cellsFrom n names acc = cellsFrom n names [] ++ acc
 | [], _, _ => rfl
 | (x, k) :: r, n, acc => by
  unfold cellsFrom
  split
  ·rw [cellsFrom_app r (n + 1) ((x, n) :: acc), cellsFrom_app r (n + 1) [(x, n)], List.append_assoc]; rfl
  ·exact cellsFrom_app r n acc
theorem cellsFrom_in : ∀ (names : List (Str × NameKind)) (n : Nat) (acc : List (Str × Addr)) (x : Str) (c : Addr), (x, c) ∈ cellsFrom n names acc -> (x, c) ∈ acc \/ (x, NameKind.cell) ∈ names
 | [], _, _, _, _, h => .inl h
 | (y, k) :: r, n, acc, x, c, h => by
  unfold cellsFrom at h
  split at h
  ·rename_i hk
   rcases cellsFrom_in r _ _ x c h with z | z
   ·rcases List.mem_cons.mp z with z | z
    ·cases z; exact .inr (by rw [show k = NameKind.cell from by simpa using hk]; exact List.mem_cons_self)
    ·exact .inl z
   ·exact .inr (List.mem_cons_of_mem _ z)
  ·rcases cellsFrom_in r _ _ x c h with z | z
   ·exact .inl z
   ·exact .inr (List.mem_cons_of_mem _ z)
theorem cellsFrom_has : ∀ (names : List (Str × NameKind)) (n : Nat) (acc : List (Str × Addr)) (x : Str), ((x, NameKind.cell) ∈ names \/ ∃ c, (x, c) ∈ acc) -> ∃ c, (x, c) ∈ cellsFrom n names acc
 | [], _, _, x, h => h.elim (fun z => nomatch z) id
 | (y, k) :: r, n, acc, x, h => by
  unfold cellsFrom
  split
  ·refine cellsFrom_has r _ _ x ?_
   rcases h with h | ⟨c, h⟩
   ·rcases List.mem_cons.mp h with h | h
    ·cases h; exact .inr ⟨n, List.mem_cons_self⟩
    ·exact .inl h
   ·exact .inr ⟨c, List.mem_cons_of_mem _ h⟩
  ·rename_i hk
   refine cellsFrom_has r _ _ x ?_
   rcases h with h | h
   ·rcases List.mem_cons.mp h with h | h
    ·cases h; exact absurd rfl hk
    ·exact .inl h
   ·exact .inr h
theorem lookup_app {α : Type} (x : Str) : ∀ (l r : List (Str × α)), (l ++ r).lookup x = (l.lookup x).or (r.lookup x)
 | [], r => by simp
 | (y, v) :: l, r => by
  rw [List.cons_append, List.lookup_cons, List.lookup_cons]
  cases hb : x == y with
  | true => rfl
  | false => exact lookup_app x l r
theorem mem_lookup_nd {α : Type} : ∀ {l : List (Str × α)} {x : Str} {v : α}, (l.map (·.1)).Nodup -> (x, v) ∈ l -> l.lookup x = some v
 | (y, w) :: l, x, v, nd, h => by
  rw [List.map_cons, List.nodup_cons] at nd
  rw [List.lookup_cons]
  rcases List.mem_cons.mp h with h | h
  ·cases h; simp
  ·have hne : (x == y) = false := by
    rw [beq_eq_false_iff_ne]
    intro z
    exact nd.1 (List.mem_map.mpr ⟨(x, v), h, z⟩)
   rw [hne]
   exact mem_lookup_nd nd.2 h
theorem wp_newEnv {M : Model} {A : Around} {E : Value -> Shared -> Prop} {s : Shared} {scope : Scope} {gl : Addr} {cl : List (Str × Addr)} {qual : Str} {env : Env} {Q : Env -> Shared -> Prop}
  (hQ : ∀ h', h'.Ns s.heap.objs.size (fun _ => none) -> (∀ b o, s.heap.get? b = some o -> h'.get? b = some o) -> CellsOk h' (s.heap.objs.size + 1) (cellsFrom (s.heap.objs.size + 1) scope.names []) ->
   Q { scope := scope, locals := s.heap.objs.size, globals := gl, cells := cellsFrom (s.heap.objs.size + 1) scope.names cl, qual := qual, func := none, code := env.code, frame := env.frame, builtins := env.builtins } { s with heap := h' }) :
  wpAny M A (newFunctionEnv scope gl cl [] qual none .none (some env)) Q E s := by
 simp only [newFunctionEnv, Option.isSome_some, if_true]
 refine wpAny_bind (wpAny_alloc (wpAny_bind (wpAny_layCells _ (fun name kind cells => by cases hkc : kind == NameKind.cell <;> simp [hkc]) _ _ _ _ ?_)))
 rw [List.forIn_nil]
 refine wpAny_bind (wpAny_pure (wpAny_pure ?_))
 have ok := cellsFrom_ok scope.names (s.heap.push { cls := .type "dict", data := .dict #[] }) (s.heap.objs.size + 1) [] ⟨fun _ _ hm => (nomatch hm), List.Pairwise.nil⟩ (by rw [Heap.size_push]; exact Nat.le_refl _)
 rw [Heap.size_push] at ok
 have e : ({ s with heap := s.heap.push { cls := .type "dict", data := .dict #[] } } : Shared).heap.objs.size = s.heap.objs.size + 1 := Heap.size_push ..
 rw [e]
 exact hQ _ ((Heap.Ns.new s.heap (.type "dict")).keeps (pushCells_keeps _ _)) (fun b o q => pushCells_keeps _ _ b o (Heap.get?_push_of_some _ q)) ok
structure CScope (X : Cx) (scope : Scope) (is : List Nat) : Prop where
 kind : scope.kind = .function
 nd : (scope.names.map (·.1)).Nodup
 free : ∀ x ∈ scope.names, x.2 = .free -> X.env.kindOf x.1 = some .cell \/ X.env.kindOf x.1 = some .free
 own : ∀ (i : Nat) x, X.N[i]? = some x -> (scope.names.lookup x = some .local \/ scope.names.lookup x = some .cell) -> i ∈ is
section
variable {X : Cx} {scope : Scope} {is : List Nat}
theorem CScope.names (S : CScope X scope is) : ∀ x ∈ scope.names, x.2 = .local -> scope.names.lookup x.1 = some .local := fun x hx e => mem_lookup_nd S.nd (by rw [<- e]; exact hx)
def compCx (X : Cx) (scope : Scope) (C : Addr) (s₀ : Shared) (H₀ : Hp) (fp : List Addr) : Cx :=
 { X with s₀ := s₀, H₀ := H₀, env := compEnvC scope (cellsFrom (C + 1) scope.names (clo X.env.cells scope.names [])) C X.env, outer := X.stack, stack := X.stack, ex := fp, fn := fun x => scope.names.lookup x == some .cell, pn := [], xe := fun _ _ => False, calm := true }
theorem CScope.cells (S : CScope X scope is) (ok : X.Ok) : ∀ y ∈ scope.names, y.2 = .free -> ∃ c, X.env.cells.lookup y.1 = some c := fun y hy hf => ok.has y.1 (S.free y hy hf)
theorem CScope.lk (S : CScope X scope is) (ok : X.Ok) {n : Nat} {x : Str} {c : Addr} (h : (cellsFrom n scope.names (clo X.env.cells scope.names [])).lookup x = some c) :
  ((cellsFrom n scope.names []).lookup x = some c /\ scope.names.lookup x = some .cell) \/ (scope.names.lookup x = some .free /\ X.env.cells.lookup x = some c) := by
 rw [cellsFrom_app, lookup_app] at h
 cases e : (cellsFrom n scope.names []).lookup x with
 | some c' =>
  rw [e] at h
  cases h
  rcases cellsFrom_in _ _ _ _ _ (PySem.mem_of_lookup e) with z | z
  ·cases z
  ·exact .inl ⟨rfl, mem_lookup_nd S.nd z⟩
 | none =>
  rw [e] at h
  have h : (clo X.env.cells scope.names []).lookup x = some c := h
  rcases clo_mem scope.names [] x c (S.cells ok) (PySem.mem_of_lookup h) with ⟨h1, h2⟩ | h2
  ·exact .inr ⟨mem_lookup_nd S.nd h1, h2⟩
  ·cases h2
def clrS (is : List Nat) (σ : LSt) : LSt := is.foldl (fun τ i => τ.set i none) σ
theorem clrS_len (is : List Nat) : ∀ σ : LSt, (clrS is σ).length = σ.length := by
 induction is with
 | nil => exact fun _ => rfl
 | cons i is ih => intro σ; show (clrS is (σ.set i none)).length = _; rw [ih, List.length_set]
theorem clrS_get (is : List Nat) : ∀ (σ : LSt) (j : Nat) (v : V), (clrS is σ)[j]? = some (some v) -> σ[j]? = some (some v) /\ j ∉ is := by
 induction is with
 | nil => exact fun σ j v h => ⟨h, by simp⟩
 | cons i is ih =>
  intro σ j v h
  obtain ⟨h1, h2⟩ := ih (σ.set i none) j v h
  rw [List.getElem?_set] at h1
  by_cases e : i = j
  ·subst e
   rw [if_pos rfl] at h1
   split at h1 <;> cases h1
  ·rw [if_neg e] at h1
   exact ⟨h1, fun z => (List.mem_cons.mp z).elim (fun z => e z.symm) h2⟩
theorem comp_start {pins : List (Addr × Obj)} {σ : LSt} {H : Hp} {s : Shared} {fp : List Addr} {h' : Heap} {t' : Nat} (S : CScope X scope is) (hc : X.calm = true) (I : Inv X pins σ H s) (hf : ∀ b ∈ fp, FpOk X pins H b) (hlt : ∀ b ∈ fp, b < s.heap.objs.size)
  (hn : h'.Ns s.heap.objs.size fun _ => none) (hk : ∀ b o, s.heap.get? b = some o -> h'.get? b = some o) (hcl : CellsOk h' (s.heap.objs.size + 1) (cellsFrom (s.heap.objs.size + 1) scope.names [])) :
  Inv (compCx X scope s.heap.objs.size s H fp) [] (clrS is σ) H { s with heap := h', toks := t' } := by
 have lk := @CScope.lk X scope is S I.ok (s.heap.objs.size + 1)
 have nf : ∀ b ∈ fp, b ≠ s.heap.objs.size := fun b hb => Nat.ne_of_lt (hlt b hb)
 have cellLt : ∀ x c, X.env.cells.lookup x = some c -> c < s.heap.objs.size := fun x c e => by
  obtain ⟨v, q⟩ := I.cell x c e
  exact q.lt
 have ownGe : ∀ x c, (cellsFrom (s.heap.objs.size + 1) scope.names []).lookup x = some c -> s.heap.objs.size + 1 <= c := fun x c e => (hcl.empty x c (PySem.mem_of_lookup e)).2
 have has : ∀ x k, (k = .cell \/ k = .free) -> scope.names.lookup x = some k -> ∃ c, (cellsFrom (s.heap.objs.size + 1) scope.names (clo X.env.cells scope.names [])).lookup x = some c := fun x k hk e => by
  have hm := PySem.mem_of_lookup e
  rcases hk with rfl | rfl
  ·obtain ⟨c, q⟩ := cellsFrom_has scope.names (s.heap.objs.size + 1) (clo X.env.cells scope.names []) x (.inl hm)
   exact lookup_of_mem q
  ·obtain ⟨c, q⟩ := cellsFrom_has scope.names (s.heap.objs.size + 1) (clo X.env.cells scope.names []) x (.inr (clo_has (cells := X.env.cells) scope.names [] x (.inl hm)))
   exact lookup_of_mem q
 have knd : ∀ x, (relabel scope X.env).names.lookup x = some .cell \/ (relabel scope X.env).names.lookup x = some .free -> scope.names.lookup x = some .cell \/ scope.names.lookup x = some .free := fun x hx => by
  unfold relabel at hx
  rw [relabel_lookup] at hx
  cases e : scope.names.lookup x with
  | none => rw [e] at hx; rcases hx with hx | hx <;> cases hx
  | some k =>
   rw [e] at hx
   simp only [Option.map_some] at hx
   by_cases hc : (k == NameKind.free && X.env.scope.kind == .function && X.env.kindOf x == some .cell) = true
   ·simp only [Bool.and_eq_true, beq_iff_eq] at hc
    exact .inr (by rw [hc.1.1])
   ·rw [if_neg hc] at hx; exact hx
 refine ⟨⟨I.ok.mod, ?_, I.ok.glob, I.ok.blt, Nat.le_refl _, fun x y c h1 h2 => ?_, fun x hx => ?_, fun x c hfn e => ?_, fun _ => I.ok.hd hc, I.ok.frames, .inl rfl, fun b hb => ⟨nf b hb, fun x c e z => ?_⟩, I.bs, ?_, fun b o e hb => ?_, fun b hb z => ?_, I.stack, I.stkFree⟩,
  rfl, I.bare, Un.kept hk, ⟨_, hn, fun i x v e1 e2 e3 => ?_⟩, fun x c e => ?_, I.hok.fresh (Nat.le_refl _), fun x c e => ?_, (fun p hp => absurd (show p ∈ ([] : List (Addr × Obj)) from hp) (by simp)), I.hok.kept hk, by rw [clrS_len]; exact I.len⟩
 ·show (relabel scope X.env).kind = .function
  exact S.kind
 ·rcases lk h1 with ⟨a1, _⟩ | ⟨_, a1⟩ <;> rcases lk h2 with ⟨a2, _⟩ | ⟨_, a2⟩
  ·exact name_of_addr hcl.apart (PySem.mem_of_lookup a1) (PySem.mem_of_lookup a2)
  ·exact absurd (Nat.lt_of_lt_of_le (cellLt y c a2) (Nat.le_of_succ_le (ownGe x c a1))) (Nat.lt_irrefl _)
  ·exact absurd (Nat.lt_of_lt_of_le (cellLt x c a1) (Nat.le_of_succ_le (ownGe y c a2))) (Nat.lt_irrefl _)
  ·exact I.ok.inj x y c a1 a2
 ·rcases knd x hx with e | e
  ·exact has x _ (.inl rfl) e
  ·exact has x _ (.inr rfl) e
 ·have hfn : scope.names.lookup x = some .cell := beq_iff_eq.mp hfn
  rcases lk e with ⟨a1, _⟩ | ⟨a1, _⟩
  ·have := ownGe x c a1
   show s.heap.objs.size <= c
   omega
  ·rw [hfn] at a1; cases a1
 ·rcases lk e with ⟨a1, _⟩ | ⟨_, a1⟩
  ·have h2 := hlt b hb
   rw [<- z] at h2
   exact absurd (Nat.lt_of_lt_of_le h2 (Nat.le_of_succ_le (ownGe x c a1))) (Nat.lt_irrefl _)
  ·exact (hf b hb).2.2.2.2.1 x c a1 z
 ·exact Nat.le_trans I.ok.bsz I.sz
 ·rcases (hf b hb).2.2.2.1 with z | z
  ·exact I.ok.noex b o e z
  ·exact absurd (Nat.lt_of_lt_of_le (Heap.lt_size e) (Nat.le_trans I.ok.bsz z)) (Nat.lt_irrefl _)
 ·rcases List.mem_cons.mp (I.stkSub b z) with z | z
  ·exact (hf b hb).2.1 z
  ·exact (hf b hb).2.2.1 z
 ·obtain ⟨e2, hni⟩ := clrS_get is σ i v e2
  have e3 : (relabel scope X.env).names.lookup x = some .local \/ (relabel scope X.env).names.lookup x = some .cell \/ (relabel scope X.env).names.lookup x = some .free := e3
  have hfr : scope.names.lookup x = some .free := by
   have e4 := e3
   unfold relabel at e4
   rw [relabel_lookup] at e4
   cases e : scope.names.lookup x with
   | none => rw [e] at e4; rcases e4 with e4 | e4 | e4 <;> cases e4
   | some k =>
    rw [e] at e4
    simp only [Option.map_some] at e4
    by_cases hc : (k == NameKind.free && X.env.scope.kind == .function && X.env.kindOf x == some .cell) = true
    ·simp only [Bool.and_eq_true, beq_iff_eq] at hc
     rw [hc.1.1]
    ·rw [if_neg hc] at e4
     rcases e4 with e4 | e4 | e4
     ·exact absurd (S.own i x e1 (.inl (by rw [e, e4]))) hni
     ·exact absurd (S.own i x e1 (.inr (by rw [e, e4]))) hni
     ·exact e4
  have hrel : (relabel scope X.env).names.lookup x = some .cell \/ (relabel scope X.env).names.lookup x = some .free := by
   rcases e3 with e3 | e3 | e3
   ·unfold relabel at e3
    rw [relabel_lookup, hfr] at e3
    simp only [Option.map_some] at e3
    split at e3 <;> cases e3
   ·exact .inl e3
   ·exact .inr e3
  have hvis := S.free _ (PySem.mem_of_lookup hfr) rfl
  obtain ⟨m, hm, hl⟩ := I.loc
  obtain ⟨u, ru, lu⟩ := hl i x v e1 e2 (.inr hvis)
  refine ⟨u, ru, .inr ⟨hrel, ?_⟩⟩
  rcases lu with ⟨k1, _⟩ | ⟨_, c, ec, zc⟩
  ·have k1 : X.env.kindOf x = some .local := k1
   rcases hvis with q | q <;> rw [k1] at q <;> cases q
  ·obtain ⟨c2, e5⟩ := has x _ (.inr rfl) hfr
   rcases lk e5 with ⟨_, a1⟩ | ⟨_, a1⟩
   ·rw [hfr] at a1; cases a1
   ·rw [ec] at a1
    cases a1
    exact ⟨c, e5, zc.keeps hk⟩
 ·rcases lk e with ⟨a1, _⟩ | ⟨_, a1⟩
  ·exact ⟨_, (hcl.empty x c (PySem.mem_of_lookup a1)).1⟩
  ·obtain ⟨v, q⟩ := I.cell x c a1
   exact ⟨v, q.keeps hk⟩
 ·rcases lk e with ⟨a1, _⟩ | ⟨_, a1⟩
  ·exact I.hok.fresh (by have := ownGe x c a1; omega)
  ·exact I.freeC x c a1
end
end Pu
namespace Pu
open PySem PySem.Spec PyProof.Rows L2
theorem compTurn_list1' (elt target iter : Expr) (scope : Scope) (pos : Pos) (it acc : Value) (env : Env) :
  compTurn (.ListComp elt [⟨target, iter, [], 0⟩] scope pos) 0 it acc env = (standAt iter.pos >>= fun _ => pyNext it >>= fun r => match r with
   | none => pure (.done .next)
   | some v => letOwnedTupleGo target it v >>= fun _ => assign target env v >>= fun _ =>
    (eval elt env >>= fun x => call (.builtin "list.append") [acc, x] >>= fun _ => again (.compLoop (.ListComp elt [⟨target, iter, [], 0⟩] scope pos) 0 it acc env))) := by
 unfold compTurn
 simp [List.forIn_nil]
 rfl
section
variable {X : Cx} {scope : Scope} {is : List Nat} {elt tg iter : Expr} {pos : Pos} {wi : TI} {g : TG} {te : TE} {tt : TT}
def tLC (is : List Nat) (wi : TI) (g : TG) (tt : TT) (te : TE) : TE := fun σ H Q => wi σ H fun J H1 => ∀ p, H1 p = none -> ∃ W : Nat -> Nat -> LSt -> List V -> Hp -> Prop, (∃ m, W 0 m (clrS is σ) [] (upd H1 p (.lst []))) /\
 ∀ i m τ vs H, W i m τ vs H -> H p = some (.lst vs) /\ ((J.stop i H /\ Q (.ref p) H) \/ (J.go i H /\ ∀ x H', J.yld i H x H' -> g x τ H' fun τ2 H2 => tt τ2 H2 fun k H3 =>
  if k = true then te τ2 H3 fun y H4 => H4 p = some (.lst vs) /\ vs.length < sizeLine /\ ∃ m', m' < m /\ W (i + 1) m' τ2 (vs ++ [y]) (upd H4 p (.lst (vs ++ [y]))) else ∃ m', m' < m /\ W (i + 1) m' τ2 vs H3))
theorem inv_end {pins : List (Addr × Obj)} {σ σ5 : LSt} {H H5 : Hp} {s s5 : Shared} {fp : List Addr} {C : Addr} {h' : Heap} (I : Inv X pins σ H s) (hf : ∀ b ∈ fp, FpOk X pins H b) (hC : s.heap.objs.size <= C) (J : Inv (compCx X scope C s H fp) [] σ5 H5 s5)
  (hs : Heap.SameBut C s5.heap h') : Inv X pins σ H5 { s5 with heap := h' } := by
 have hfree : H5 C = none := J.free
 have ne : ∀ b o, s.heap.get? b = some o -> b ≠ C := fun b o e z => by
  have := Heap.lt_size e
  subst z
  exact absurd (Nat.lt_of_lt_of_le this hC) (Nat.lt_irrefl _)
 have u : Un (frs X.stack) fp H H5 s.heap h' := ⟨fun b o e n hb hx => hs.extBut b o (ne b o e) (J.base.keep b o e n hb hx), fun b o e n hb hx => by
   obtain ⟨sl, q⟩ := J.base.slot b o e n hb hx
   exact ⟨sl, hs.extBut b _ (ne b o e) q⟩, J.base.free, fun b o e hx => by
   obtain ⟨o', q⟩ := J.base.there b o e hx
   exact ⟨o', hs.extBut b _ (ne b o e) q⟩, J.base.tups, J.base.frzs, J.base.tbls⟩
 have hok : HOk X.prog X.w H5 h' := fun b o e => by
  refine (J.hok b o e).stay (fun c v hc q => hs.extBut c v ?_ q) (fun _ q => q) fun _ _ q => q
  rintro rfl
  rcases hc with z | z
  ·subst z; rw [hfree] at e; cases e
  ·rw [hfree] at z; cases z
 obtain ⟨hh, gg, dd, tt, os⟩ := s5
 have hos : os = s.os := J.os
 subst hos
 have fin := I.call (h' := h') (g' := gg) (d' := dd) (t' := tt) (ch := fp) u hok J.bare fun b hb => ⟨(hf b hb).2.2.2.1, (hf b hb).2.1, (hf b hb).2.2.2.2.1, (hf b hb).2.2.2.2.2⟩
 exact fin
theorem comp_emit {Y : Cx} {pins : List (Addr × Obj)} {τ : LSt} {H : Hp} {s : Shared} {p : Addr} {vs : List V} {α : Type} {k : Sem α} {Q : α -> Shared -> Prop} {E : Value -> Shared -> Prop} (he : PE Y elt te) (hx : ∀ e s', Y.xe e s' -> E e s') (I : Inv Y pins τ H s) (hw : te τ H fun y H4 => H4 p = some (.lst vs) /\ vs.length < sizeLine /\ ∀ s', Inv Y pins τ (upd H4 p (.lst (vs ++ [y]))) s' -> wpAny (model Y.prog Y.w) Y.A k Q E s') :
  wpAny (model Y.prog Y.w) Y.A (eval elt Y.env >>= fun x => call (.builtin "list.append") [.ref p, x] >>= fun _ => k) Q E s := by
 refine wpAny_bind (wpAny_mono (he pins s τ H _ I hw) (fun u s1 ⟨y, H4, I4, r4, hp, hz, q⟩ => ?_) hx)
 obtain ⟨z, its, n, r, hl, e⟩ := I4.lstM hp
 refine wpAny_bind (call_meets PySem.F.slot_list_append ⟨_, e, rfl⟩ PySem.F.entry_list_append (PySem.F.args_list_append_2 _ _) (PySem.list_append p its.toArray n u (by rw [List.size_toArray]; omega)) ⟨e, ?_⟩)
 refine q _ (I4.lset (its' := its ++ [u]) (t' := s1.toks) hp e (by simp) (r.append (.cons r4 .nil)) ?_)
 rw [List.length_append, List.length_singleton]
 omega
end
theorem comp_loop {Y : Cx} {e tg : Expr} {env : Env} {g : TG} {te : TE} {tt : TT} {it p : Addr} {fp : List Addr} {tn : Nat -> Heap -> Prop} {J : It} {R : Result -> Shared -> Prop} {iterPos : Pos} {rest : Sem Fin}
  (T : Turn Y.prog Y.w Y.K tg J fp it tn) (hc : Y.calm = true) (hE : Y.xe = fun _ _ => False) (hg : PG Y tg g) (hq : (Code.compLoop e 0 (.ref it) (.ref p) Y.env).quiet = true)
  (hden : ∀ (s : Shared) (Q : Fin -> Shared -> Prop), wpAny (model Y.prog Y.w) Y.A (pyNext (.ref it) >>= fun r => match r with
    | none => pure (.done .next)
    | some v => letOwnedTupleGo tg (.ref it) v >>= fun _ => assign tg Y.env v >>= fun _ => rest) Q (fun _ _ => False) s ->
   wpAny (model Y.prog Y.w) (Y.A.under (.compLoop e 0 (.ref it) (.ref p) Y.env)) ((model Y.prog Y.w).den (.compLoop e 0 (.ref it) (.ref p) Y.env)) Q (fun _ _ => False) s)
  (hrest : ∀ (τ : LSt) (H : Hp) (s : Shared) (pins : List (Addr × Obj)) (vs : List V) (N : Hp -> List V -> Prop) (Q : Fin -> Shared -> Prop), Inv Y pins τ H s ->
   (tt τ H fun k H3 => if k = true then te τ H3 fun y H4 => H4 p = some (.lst vs) /\ vs.length < sizeLine /\ N (upd H4 p (.lst (vs ++ [y]))) (vs ++ [y]) else N H3 vs) ->
   (∀ s' H' ws, Inv Y pins τ H' s' -> N H' ws -> Q (.again (.compLoop e 0 (.ref it) (.ref p) Y.env)) s') -> wpAny (model Y.prog Y.w) Y.A rest Q (fun _ _ => False) s)
  (W : Nat -> Nat -> LSt -> List V -> Hp -> Prop) {Qe : Hp -> Prop}
  (step : ∀ i m τ vs H, W i m τ vs H -> H p = some (.lst vs) /\ ((J.stop i H /\ Qe H) \/ (J.go i H /\ ∀ x H', J.yld i H x H' -> g x τ H' fun τ2 H2 => tt τ2 H2 fun k H3 =>
   if k = true then te τ2 H3 fun y H4 => H4 p = some (.lst vs) /\ vs.length < sizeLine /\ ∃ m', m' < m /\ W (i + 1) m' τ2 (vs ++ [y]) (upd H4 p (.lst (vs ++ [y]))) else ∃ m', m' < m /\ W (i + 1) m' τ2 vs H3)))
  (hR : ∀ τ H s, Inv Y [] τ H s -> Qe H -> R (.ok .next) s) {s : Shared} {τ : LSt} {H : Hp} {vs : List V} {i m : Nat} (I : Inv Y [] τ H s) (st : tn i s.heap) (fr : ∀ b ∈ fp, FpOk Y [] H b) (w : W i m τ vs H) :
  codeAny (model Y.prog Y.w) Y.A (.compLoop e 0 (.ref it) (.ref p) Y.env) R s := by
 have stat : ∀ {H' : Hp}, (∀ b ∈ fp, H' b = none) -> ∀ b ∈ fp, FpOk Y [] H' b := fun hn b hb => ⟨hn b hb, (fr b hb).2⟩
 refine codeAny_loop hq (fun n s' => ∃ i τ' vs' H', Inv Y [] τ' H' s' /\ tn i s'.heap /\ (∀ b ∈ fp, H' b = none) /\ W i n τ' vs' H') (fun n s3 hI => ?_) m ⟨i, τ, vs, H, I, st, fun b hb => (fr b hb).1, w⟩
 obtain ⟨i, τ3, vs3, H3, I3, st3, fr3, w3⟩ := hI
 refine wpAny_mono (hden s3 _ ?_) (fun _ _ q => q) (fun _ _ q => q.elim)
 obtain ⟨hp, hs⟩ := step i n τ3 vs3 H3 w3
 rcases hs with ⟨stop, qe⟩ | ⟨go, hs⟩
 ·refine wpAny_bind (thn (T.done Y rfl rfl rfl hc i [] s3 τ3 H3 (fun _ _ => False) I3 (stat fr3) st3 stop) fun r s4 ⟨hr, I4⟩ => ?_)
  subst hr
  exact wpAny_pure (hR τ3 H3 s4 I4 qe)
 ·refine wpAny_bind (thn (T.item Y rfl rfl rfl hc i [] s3 τ3 H3 (fun _ _ => False) I3 (stat fr3) st3 go) fun r s4 ⟨u, hr, h4⟩ => ?_)
  subst hr
  refine wpAny_bind (thn h4 fun _ s5 ⟨x, H5, I5, r5, y5, st5, fr5⟩ => ?_)
  have I5' := I5.pinned (stat fr5) (T.obj _ _ st5)
  have hg' := hg _ s5 τ3 H5 x u _ I5' r5 (hs x H5 y5)
  rw [hE] at hg'
  refine wpAny_bind (thn hg' fun _ s6 ⟨τ6, H6, I6, q6⟩ => ?_)
  refine hrest τ6 H6 s6 _ vs3 (fun H' ws => ∃ m', m' < n /\ W (i + 1) m' τ6 ws H') _ I6 q6 fun s7 H7 ws I7 ⟨m', hm, w7⟩ => ?_
  refine ⟨rfl, m', hm, i + 1, τ6, ws, H7, I7.unpinned, T.keep _ _ _ st5 fun b hb o e => (I7.pin (b, o) (List.mem_append_right _ (List.mem_append_right _ (mem_pinsAt hb e)))).1, fun b hb => ?_, w7⟩
  obtain ⟨o, e, d⟩ := T.obj _ _ st5 b hb
  exact (I7.pin (b, o) (List.mem_append_right _ (List.mem_append_right _ (mem_pinsAt hb e)))).2.1
end Pu
namespace Pu
open PySem PySem.Spec PyProof.Rows L2
section
variable {X : Cx} {scope : Scope} {is : List Nat} {elt tg iter c : Expr} {pos : Pos} {wi : TI} {g : TG} {te : TE} {tt : TT}
theorem comp_core {use : Option (Value -> Sem Unit)} {Qf : Value -> Shared -> Prop} {ppos : Pos} {pins : List (Addr × Obj)} {s : Shared} {σ : LSt} {H : Hp} {Q : VK} {ifs : List Expr} {rest : Env -> Value -> Value -> Sem Fin} (S : CScope X scope is) (hc : X.calm = true) (hi : L2.PI X tg iter wi) (hg : ∀ C s₀ H₀ fp, PG (compCx X scope C s₀ H₀ fp) tg g)
  (hquiet : ∀ it acc env, (Code.compLoop (.ListComp elt [⟨tg, iter, ifs, 0⟩] scope pos) 0 it acc env).quiet = true)
  (hden : ∀ C s₀ H₀ fp it p (s : Shared) (Q : Fin -> Shared -> Prop), wpAny (model X.prog X.w) X.A (pyNext (.ref it) >>= fun r => match r with
    | none => pure (.done .next)
    | some v => letOwnedTupleGo tg (.ref it) v >>= fun _ => assign tg (compCx X scope C s₀ H₀ fp).env v >>= fun _ => rest (compCx X scope C s₀ H₀ fp).env (.ref it) (.ref p)) Q (fun _ _ => False) s ->
   wpAny (model X.prog X.w) (X.A.under (.compLoop (.ListComp elt [⟨tg, iter, ifs, 0⟩] scope pos) 0 (.ref it) (.ref p) (compCx X scope C s₀ H₀ fp).env)) ((model X.prog X.w).den (.compLoop (.ListComp elt [⟨tg, iter, ifs, 0⟩] scope pos) 0 (.ref it) (.ref p) (compCx X scope C s₀ H₀ fp).env)) Q (fun _ _ => False) s)
  (hrest : ∀ C s₀ H₀ fp it p (τ : LSt) (H : Hp) (s : Shared) (pins : List (Addr × Obj)) (vs : List V) (N : Hp -> List V -> Prop) (Q : Fin -> Shared -> Prop), Inv (compCx X scope C s₀ H₀ fp) pins τ H s ->
   (tt τ H fun k H3 => if k = true then te τ H3 fun y H4 => H4 p = some (.lst vs) /\ vs.length < sizeLine /\ N (upd H4 p (.lst (vs ++ [y]))) (vs ++ [y]) else N H3 vs) ->
   (∀ s' H' ws, Inv (compCx X scope C s₀ H₀ fp) pins τ H' s' -> N H' ws -> Q (.again (.compLoop (.ListComp elt [⟨tg, iter, ifs, 0⟩] scope pos) 0 (.ref it) (.ref p) (compCx X scope C s₀ H₀ fp).env)) s') ->
   wpAny (model X.prog X.w) X.A (rest (compCx X scope C s₀ H₀ fp).env (.ref it) (.ref p)) Q (fun _ _ => False) s)
  (hs : ∀ x, foldedSetIterable iter X.env x = pure x) (I : Inv X pins σ H s) (h : tLC is wi g tt te σ H Q)
  (hfin : ∀ C p H5 s5 m5 s3 H3 fp τ, s3.heap.objs.size <= C -> Inv X pins σ H3 s3 -> (∀ b ∈ fp, FpOk X pins H3 b) -> Inv (compCx X scope C s3 H3 fp) [] τ H5 s5 -> s5.heap.Ns C m5 -> Q (.ref p) H5 -> compPost (model X.prog X.w) X.A X.xe use Qf (.ref p) C (.ok .next) s5) :
  wpAny (model X.prog X.w) X.A (comprehension (.ListComp elt [⟨tg, iter, ifs, 0⟩] scope pos) scope X.env ppos (newList []) false (eval iter X.env) use) Qf X.xe s := by
 refine wpAny_comprehension_free (use := use) rfl hs (closureFor_eq (S.cells I.ok)) S.kind S.names ?_
 refine thn (hi pins s σ H _ I h) fun v s1 h1 => thn h1 fun itv s2 h2 => ?_
 obtain ⟨it, fp, tn, J, H2, e, I2, T, st2, f2, hW⟩ := h2
 subst e
 refine wpAny_newObj_type (wp_newEnv fun h₁ hns₁ hkp hcl₁ => ?_)
 have I3 : Inv X pins σ (upd H2 s2.heap.objs.size (.lst [])) { s2 with heap := s2.heap.push { cls := .type "list", data := .seq ([] : List Value).toArray } } := I2.lnew (t' := s2.toks) .nil (Nat.zero_le _)
 obtain ⟨W, ⟨m, w0⟩, step⟩ := hW s2.heap.objs.size I2.fresh
 have hob : ∀ b ∈ fp, b < s2.heap.objs.size := fun b hb => let ⟨o, e, _⟩ := T.obj 0 _ st2 b hb; Heap.lt_size e
 have hfp : ∀ b ∈ fp, FpOk X pins (upd H2 s2.heap.objs.size (.lst [])) b := fun b hb => ⟨by rw [upd_ne (Nat.ne_of_lt (hob b hb))]; exact (f2 b hb).1, (f2 b hb).2⟩
 have hk : ∀ b o, (s2.heap.push { cls := .type "list", data := .seq ([] : List Value).toArray }).get? b = some o -> h₁.get? b = some o := hkp
 have Ic := comp_start (t' := s2.toks) S hc I3 hfp (fun b hb => Nat.lt_of_lt_of_le (hob b hb) (by rw [Heap.size_push]; exact Nat.le_succ _)) hns₁ hk hcl₁
 have st4 : tn 0 h₁ := T.keep 0 _ _ st2 fun b _ o e => hk b o (Heap.get?_push_of_some _ e)
 have fr4 : ∀ b ∈ fp, FpOk (compCx X scope _ _ _ fp) [] (upd H2 s2.heap.objs.size (.lst [])) b := fun b hb => ⟨(hfp b hb).1, (Ic.ok.exf b hb).1, Ic.ok.exfs b hb, .inl hb, fun x c e => (Ic.ok.exf b hb).2 x c e, fun p hp => absurd (show p ∈ ([] : List (Addr × Obj)) from hp) (by simp)⟩
 have loop := comp_loop (Y := compCx X scope _ _ _ fp) (e := .ListComp elt [⟨tg, iter, ifs, 0⟩] scope pos) (env := X.env) (iterPos := pos) T rfl rfl (hg _ _ _ fp) (hquiet _ _ _) (hden _ _ _ fp it s2.heap.objs.size) (hrest _ _ _ fp it s2.heap.objs.size) W step
  (R := compPost (model X.prog X.w) X.A X.xe use Qf (.ref s2.heap.objs.size) (s2.heap.push { cls := .type "list", data := .seq ([] : List Value).toArray }).objs.size) (fun τ H5 s5 I5 q5 => by
   obtain ⟨m5, hn5, _⟩ := I5.loc
   exact hfin _ _ H5 s5 m5 _ _ fp τ (Nat.le_refl _) I3 hfp I5 hn5 q5) Ic st4 fr4 w0
 exact codeAny_compStart_list loop (T.self _ 0 _ _ _ st4 loop)
theorem quiet_comp {e : Expr} {it acc : Value} {env : Env} : (Code.compLoop e 0 it acc env).quiet = true := rfl
theorem den0 {Y : Cx} {it p : Addr} {s : Shared} {Q : Fin -> Shared -> Prop} (h : wpAny (model X.prog X.w) X.A (pyNext (.ref it) >>= fun r => match r with
        | none => pure (.done .next)
        | some v => letOwnedTupleGo tg (.ref it) v >>= fun _ => assign tg Y.env v >>= fun _ => (eval elt Y.env >>= fun x => call (.builtin "list.append") [.ref p, x] >>= fun _ => again (.compLoop (.ListComp elt [⟨tg, iter, [], 0⟩] scope pos) 0 (.ref it) (.ref p) Y.env))) Q (fun _ _ => False) s) :
      wpAny (model X.prog X.w) (X.A.under (.compLoop (.ListComp elt [⟨tg, iter, [], 0⟩] scope pos) 0 (.ref it) (.ref p) Y.env)) ((model X.prog X.w).den (.compLoop (.ListComp elt [⟨tg, iter, [], 0⟩] scope pos) 0 (.ref it) (.ref p) Y.env)) Q (fun _ _ => False) s := by
 show wpAny _ _ ((compTurn (.ListComp elt [⟨tg, iter, [], 0⟩] scope pos) 0 (.ref it) (.ref p) Y.env).onRaise (fun x => do noteFrame x Y.env; theTreesLotGoes x)) _ _ s
 refine wpAny_noted ?_
 rw [compTurn_list1']
 exact wpAny_bind (wpAny_standAt (wpAny_mono h (fun _ _ q => q) fun _ _ q => q.elim))
def tAlways : TT := fun _ H Q => Q true H
theorem rest0 {Y : Cx} (hY : Y.xe = fun _ _ => False) (he : PE Y elt te) {it p : Addr} (τ : LSt) (H : Hp) (s : Shared) (pins : List (Addr × Obj)) (vs : List V) (N : Hp -> List V -> Prop) (Q : Fin -> Shared -> Prop) (I : Inv Y pins τ H s)
  (h : tAlways τ H fun k H3 => if k = true then te τ H3 fun y H4 => H4 p = some (.lst vs) /\ vs.length < sizeLine /\ N (upd H4 p (.lst (vs ++ [y]))) (vs ++ [y]) else N H3 vs)
  (mono : ∀ (Q Q' : VK), (∀ v H', Q v H' -> Q' v H') -> te τ H Q -> te τ H Q')
  (q : ∀ s' H' ws, Inv Y pins τ H' s' -> N H' ws -> Q (.again (.compLoop (.ListComp elt [⟨tg, iter, [], 0⟩] scope pos) 0 (.ref it) (.ref p) Y.env)) s') :
  wpAny (model Y.prog Y.w) Y.A (eval elt Y.env >>= fun x => call (.builtin "list.append") [.ref p, x] >>= fun _ => again (.compLoop (.ListComp elt [⟨tg, iter, [], 0⟩] scope pos) 0 (.ref it) (.ref p) Y.env)) Q (fun _ _ => False) s := by
 have h' : te τ H fun y H4 => H4 p = some (.lst vs) /\ vs.length < sizeLine /\ N (upd H4 p (.lst (vs ++ [y]))) (vs ++ [y]) := h
 exact comp_emit he (by rw [hY]; exact fun _ _ z => z) I (mono _ _ (fun y H4 ⟨a, b, n⟩ => ⟨a, b, fun s' I' => wpAny_pure (q s' _ _ I' n)⟩) h')
end
end Pu
namespace Pu
open PySem PySem.Spec PyProof.Rows L2
section
variable {K : PySem.W.Frag} {B A : List Addr} {H : Hp} {st st' : PSt} {σ : LSt}
theorem clr_len (is : List Nat) : ∀ st : PSt, (clr is st).length = st.length := by
 induction is with
 | nil => exact fun _ => rfl
 | cons i is ih => intro st; show (clr is (st.set i none)).length = _; rw [ih, List.length_set]
theorem clr_get (is : List Nat) : ∀ (st : PSt) (j : Nat) (x : Sl), (clr is st)[j]? = some (some x) -> st[j]? = some (some x) /\ j ∉ is := by
 induction is with
 | nil => exact fun σ j v h => ⟨h, by simp⟩
 | cons i is ih =>
  intro σ j v h
  obtain ⟨h1, h2⟩ := ih (σ.set i none) j v h
  rw [List.getElem?_set] at h1
  by_cases e : i = j
  ·subst e
   rw [if_pos rfl] at h1
   split at h1 <;> cases h1
  ·rw [if_neg e] at h1
   exact ⟨h1, fun z => (List.mem_cons.mp z).elim (fun z => e z.symm) h2⟩
theorem clrS_out (is : List Nat) : ∀ (σ : LSt) (j : Nat), j ∉ is -> (clrS is σ)[j]? = σ[j]? := by
 induction is with
 | nil => exact fun σ j _ => rfl
 | cons i is ih =>
  intro σ j h
  show (clrS is (σ.set i none))[j]? = _
  rw [ih _ j fun z => h (List.mem_cons_of_mem _ z), List.getElem?_set, if_neg (show ¬ i = j from fun z => h (z ▸ List.mem_cons_self))]
theorem RS.clr (is : List Nat) (r : RS K B A H st σ) : RS K B A H (Pu.clr is st) (clrS is σ) where
 len := by rw [clr_len, clrS_len, r.len]
 own := r.own
 dis := r.dis
 val := fun i d e => by
  obtain ⟨e1, h⟩ := clr_get is st i _ e
  rw [clrS_out is σ i h]
  exact r.val i d e1
 lst := fun i kk xs e => by
  obtain ⟨e1, h⟩ := clr_get is st i _ e
  obtain ⟨a, o, vs, e2, m, h1, ko, q, u⟩ := r.lst i kk xs e1
  refine ⟨a, o, vs, by rw [clrS_out is σ i h]; exact e2, m, h1, ko, q, fun j k' ys ej ej2 => ?_⟩
  obtain ⟨e3, h3⟩ := clr_get is st j _ ej
  rw [clrS_out is σ j h3] at ej2
  exact u j k' ys e3 ej2
theorem RS.weaken (r : RS K B A H st σ) (hl : st'.length = st.length) (h : ∀ (j : Nat) (x : Sl), st'[j]? = some (some x) -> st[j]? = some (some x)) : RS K B A H st' σ where
 len := hl.trans r.len
 own := r.own
 dis := r.dis
 val := fun i d e => r.val i d (h i _ e)
 lst := fun i kk xs e => by
  obtain ⟨a, o, vs, e2, m, h1, ko, q, u⟩ := r.lst i kk xs (h i _ e)
  exact ⟨a, o, vs, e2, m, h1, ko, q, fun j k' ys ej ej2 => u j k' ys (h j _ ej) ej2⟩
theorem mem_mid {A B : List Addr} {p b : Addr} : b ∈ A ++ p :: B ↔ b = p \/ b ∈ A ++ B := by
 simp only [List.mem_append, List.mem_cons]
 constructor
 ·rintro (h | h | h)
  ·exact .inr (.inl h)
  ·exact .inl h
  ·exact .inr (.inr h)
 ·rintro (h | h | h)
  ·exact .inr (.inl h)
  ·exact .inl h
  ·exact .inr (.inr h)
theorem same_mid {p : Addr} {o : HO} (hp : H p = none) : Same (hide (A ++ B) H) (hide (A ++ p :: B) (upd H p o)) := fun b u q => by
 have q1 := hide_sub _ _ _ _ q
 have hb : b ∉ A ++ B := fun z => by rw [hide_in z] at q; cases q
 have ne : b ≠ p := ne_of_none q1 hp
 rw [hide_out (show b ∉ A ++ p :: B from fun z => (mem_mid.mp z).elim ne hb), upd_ne ne]
 exact q1
theorem RS.grow (r : RS K B A H st σ) {p : Addr} {vs : List V} (hp : H p = none) : RS K (p :: B) A (upd H p (.lst vs)) st σ where
 len := r.len
 own := fun a ha => by
  by_cases e : a = p
  ·subst e; rw [upd_same]; rfl
  ·rw [upd_ne e]; exact r.own a ((mem_mid.mp ha).resolve_left e)
 dis := fun a ha hb => by
  rcases List.mem_cons.mp hb with rfl | hb
  ·exact r.own.free hp (List.mem_append_left _ ha)
  ·exact r.dis a ha hb
 val := fun j d' e => let ⟨u, e1, q⟩ := r.val j d' e; ⟨u, e1, q.mono (same_mid hp)⟩
 lst := fun j kk xs e => by
  obtain ⟨a, o, vs', e1, m, h1, ko, q, u⟩ := r.lst j kk xs e
  exact ⟨a, o, vs', e1, m, by rw [upd_ne (ne_of_none h1 hp)]; exact h1, ko, q.mono (same_mid hp), u⟩
theorem RS.put {p : Addr} (r : RS K (p :: B) A H st σ) {vs : List V} : RS K (p :: B) A (upd H p (.lst vs)) st σ := by
 have hh : hide (A ++ p :: B) (upd H p (.lst vs)) = hide (A ++ p :: B) H := hide_upd (mem_mid.mpr (.inl rfl))
 refine ⟨r.len, fun b hb => ?_, r.dis, fun j d e => by rw [hh]; exact r.val j d e, fun j kk xs e => ?_⟩
 ·by_cases e : b = p
  ·subst e; rw [upd_same]; rfl
  ·rw [upd_ne e]; exact r.own b hb
 ·obtain ⟨a, o, vs', e1, m, h1, ko, q, u⟩ := r.lst j kk xs e
  refine ⟨a, o, vs', e1, m, ?_, ko, by rw [hh]; exact q, u⟩
  have : a ≠ p := fun z => r.dis a m (z ▸ List.mem_cons_self)
  rw [upd_ne this]; exact h1
end
def TgSub (is : List Nat) (t : Tg) : Prop := ∀ d st s2, t d st = .ok s2 -> s2.length = st.length /\ ∀ (j : Nat), j ∉ is -> s2[j]? = st[j]?
theorem sub_N {i : Nat} : TgSub [i] (tgN i) := fun d st s2 h => by
 cases h
 refine ⟨List.length_set, fun j hj => ?_⟩
 rw [List.getElem?_set, if_neg fun z => hj (by simp [z])]
def ndB : List Str -> Bool
 | [] => true
 | x :: r => !r.contains x && ndB r
theorem nd_of : ∀ {l : List Str}, ndB l = true -> l.Nodup
 | [], _ => .nil
 | x :: r, h => by
  unfold ndB at h
  simp only [Bool.and_eq_true, Bool.not_eq_true'] at h
  exact List.nodup_cons.mpr ⟨fun z => by rw [List.contains_iff_mem.mpr z] at h; exact Bool.noConfusion h.1, nd_of h.2⟩
def chkC (scope : Scope) (outer : List (Str × NameKind)) (N : List Str) (is : List Nat) : Bool :=
 scope.kind == .function && ndB (scope.names.map (·.1)) && scope.names.all (fun x => x.2 != .free || outer.lookup x.1 == some .cell || outer.lookup x.1 == some .free) &&
  (List.range N.length).all fun i => (scope.names.lookup (N.getD i "") != some .local && scope.names.lookup (N.getD i "") != some .cell) || is.contains i
theorem CScope.of {X : Cx} {scope : Scope} {is : List Nat} (h : chkC scope X.env.scope.names X.N is = true) : CScope X scope is := by
 unfold chkC at h
 simp only [Bool.and_eq_true, List.all_eq_true] at h
 obtain ⟨⟨⟨h1, h0⟩, h2⟩, h3⟩ := h
 refine ⟨by simpa using h1, nd_of h0, fun x hx hf => ?_, fun i x e hl => ?_⟩
 ·have := h2 x hx
  simp only [Bool.or_eq_true, bne_iff_ne, ne_eq, beq_iff_eq] at this
  rcases this with (z | z) | z
  ·exact absurd hf z
  ·exact .inl z
  ·exact .inr z
 ·have hi : i < X.N.length := (List.getElem?_eq_some_iff.mp e).1
  have := h3 i (List.mem_range.mpr hi)
  rw [List.getD_eq_getElem?_getD, e] at this
  simp only [Option.getD_some, Bool.or_eq_true, Bool.and_eq_true, bne_iff_ne, ne_eq] at this
  rcases this with ⟨z1, z2⟩ | z
  ·rcases hl with hl | hl
   ·exact absurd hl z1
   ·exact absurd hl z2
  ·simpa using z
theorem tI_mono {K : PySem.W.Frag} {B : List Addr} {f : Ex} {τ : LSt} {H : Hp} (Q Q' : VK) (m : ∀ v H', Q v H' -> Q' v H') (h : tI K B f τ H Q) : tI K B f τ H Q' :=
 let ⟨A, st, d, rs, hd, q⟩ := h; ⟨A, st, d, rs, hd, fun v H' s r => m v H' (q v H' s r)⟩
def tIx (K : PySem.W.Frag) (f : Ex) : TE := fun τ H Q => ∃ B, tI K B f τ H Q
def tTx (K : PySem.W.Frag) (f : Ex) : TT := fun τ H Q => ∃ B, tT K B f τ H Q
def tGx (K : PySem.W.Frag) (t : Tg) : TG := fun v τ H Q => ∃ B, tG K B t v τ H Q
theorem pe_x {X : Cx} {e : Expr} {f : Ex} (h : ∀ B, PE X e (tI X.K B f)) : PE X e (tIx X.K f) := fun pins s σ H Q I ⟨B, q⟩ => h B pins s σ H Q I q
theorem pg_x {X : Cx} {e : Expr} {t : Tg} (h : ∀ B, PG X e (tG X.K B t)) : PG X e (tGx X.K t) := fun pins s σ H v u Q I r ⟨B, q⟩ => h B pins s σ H v u Q I r q
theorem tIx_mono {K : PySem.W.Frag} {f : Ex} {τ : LSt} {H : Hp} (Q Q' : VK) (m : ∀ v H', Q v H' -> Q' v H') (h : tIx K f τ H Q) : tIx K f τ H Q' := let ⟨B, q⟩ := h; ⟨B, tI_mono Q Q' m q⟩
theorem lc_of {K : PySem.W.Frag} {B : List Addr} {is : List Nat} {t : Tg} {it : ItE} {c f : Ex} {tt : TT} {σ : LSt} {H : Hp} (hsub : TgSub is t)
  (htt : ∀ τ H Q, tTx K c τ H Q -> tt τ H Q) {A : List Addr} {st : PSt} {xs ys : List D} (rs : RS K B A H st σ) (hx : it st = .ok xs) (hl : xs.length <= big) (hy : compR t c f (clr is st) xs = .ok ys) {Q : VK}
  (q : ∀ p vs H1 H', Same H H1 -> H1 p = none -> Same H1 H' -> H' p = some (.lst vs) -> Reps K (hide (A ++ p :: B) H') ys vs -> Q (.ref p) H') : tLC is (tIt K B it) (tGx K t) tt (tIx K f) σ H Q := by
 refine ⟨A, st, xs, rs, hx, fun J H1 s1 ito p hp => ?_⟩
 have rs1 := rs.mono s1
 refine ⟨fun i m τ vs H' => m = xs.length - i /\ i <= xs.length /\ vs.length <= i /\ H' p = some (.lst vs) /\ Same H1 H' /\ RS K (p :: B) A H' (clr is st) τ /\
   ∃ ds rest, Reps K (hide (A ++ p :: B) H') ds vs /\ compR t c f (clr is st) (xs.drop i) = .ok rest /\ ds ++ rest = ys, ⟨xs.length, by simp, Nat.zero_le _, Nat.zero_le _, upd_same, same_upd hp, (rs1.clr is).grow hp, [], ys, .nil, by rw [List.drop_zero]; exact hy, rfl⟩, ?_⟩
 rintro i m τ vs H' ⟨rfl, hi, hvl, hpv, s2, rs2, ds, rest, rds, hr, hcat⟩
 refine ⟨hpv, ?_⟩
 have mv : ∀ a, a ∈ (p :: A) ++ B ↔ a ∈ A ++ p :: B := fun a => by
  rw [mem_mid]
  exact List.mem_cons
 have le : Le A H1 (p :: A) H' := fun b u z => by
  have z1 := hide_sub _ _ _ _ z
  have hb : b ∉ A := fun w => by rw [hide_in w] at z; cases z
  have ne : b ≠ p := ne_of_none z1 hp
  rw [hide_out (show b ∉ p :: A from fun w => (List.mem_cons.mp w).elim ne hb)]
  exact s2 b u z1
 obtain ⟨i1, i2⟩ := ito (p :: A) H' le (fun a ha => rs2.own a ((mv a).mp ha)) i
 by_cases hlt : i < xs.length
 ·have hd' : xs[i]? = some xs[i] := List.getElem?_eq_getElem hlt
  obtain ⟨go, yl⟩ := i1 _ hd'
  rw [List.drop_eq_getElem_cons hlt] at hr
  obtain ⟨st2, hst2, h5⟩ := R.ok_of hr
  obtain ⟨cb, hcb, h6⟩ := R.ok_of h5
  obtain ⟨k, rfl, h7⟩ := onB_of h6
  refine .inr ⟨go, fun x H2 y => ?_⟩
  obtain ⟨sm3, rx⟩ := yl x H2 y
  have hpv := sm3 _ _ hpv
  have s2 := s2.trans sm3
  have rs2 := rs2.mono sm3
  have rds := rds.mono (Same.hide sm3)
  have rx' : Rep K (hide (A ++ p :: B) H2) xs[i] x := rx.mono (hide_more fun a ha => (mv a).mpr ha)
  obtain ⟨sl, sg⟩ := hsub _ _ _ hst2
  have back : ∀ (j : Nat) (z : Sl), (clr is st)[j]? = some (some z) -> st2[j]? = some (some z) := fun j z ez => by rw [sg j (clr_get is st j z ez).2]; exact ez
  refine ⟨p :: B, A, clr is st, xs[i], st2, rs2, rx', hst2, fun τ2 rs3 => htt _ _ _ ⟨p :: B, A, st2, k, rs3, hcb, fun H3 s3 => ?_⟩⟩
  cases k with
  | true =>
   obtain ⟨y', hy', h8⟩ := R.ok_of h7
   obtain ⟨rest', hrest', h9⟩ := R.ok_of h8
   cases h9
   refine ⟨p :: B, A, st2, y', rs3.mono s3, hy', fun v H4 s4 r4 => ⟨s4 _ _ (s3 _ _ hpv), ?_, xs.length - (i + 1), by omega, rfl, hlt, by rw [List.length_append, List.length_singleton]; omega, upd_same, ?_, ?_, ds ++ [y'], rest', ?_, hrest', by rw [List.append_assoc]; exact hcat⟩⟩
   ·have : sizeLine = 16777216 := by decide
    have hbg := big_eq
    omega
   ·exact fun b u z => by rw [upd_ne (ne_of_none z hp)]; exact s4 _ _ (s3 _ _ (s2 b u z))
   ·exact (((rs3.mono s3).mono s4).weaken (by rw [sl]) back).put
   ·rw [hide_upd (mem_mid.mpr (.inl rfl))]
    exact (rds.mono (Same.hide (s3.trans s4))).append (.cons r4 .nil)
  | false => exact ⟨xs.length - (i + 1), by omega, rfl, hlt, by omega, s3 _ _ hpv, s2.trans s3, (rs3.mono s3).weaken (by rw [sl]) back, ds, rest, rds.mono (Same.hide s3), h7, hcat⟩
 ·have e : i = xs.length := by omega
  subst e
  rw [List.drop_length] at hr
  cases hr
  rw [List.append_nil] at hcat
  subst hcat
  exact .inl ⟨i2 (Nat.le_refl _), q p vs H1 H' s1 hp s2 hpv rds⟩
section
variable {X : Cx} {B : List Addr} {scope : Scope} {elt tg iter c : Expr} {pos : Pos} {t : Tg} {it : ItE} {f u : Ex}
theorem comp_e {σ : LSt} {H : Hp} {Q : VK} {st : PSt} {A : List Addr} {ys : List D} {p : Addr} {vs : List V} {H1 H' : Hp} (rs : RS X.K B A H st σ) (q : ∀ v H', Same H H' -> Rep X.K (hide (A ++ B) H') (.lst ys) v -> Q v H') (s1 : Same H H1) (hp : H1 p = none) (s2 : Same H1 H')
  (hv : H' p = some (.lst vs)) (r : Reps X.K (hide (A ++ p :: B) H') ys vs) : Q (.ref p) H' :=
 q _ H' (s1.trans s2) (rep_lst.mpr ⟨p, vs, rfl, SqL.of (by rw [hide_out ((rs.own.mono s1).free hp)]; exact hv), r.mono (hide_more fun a ha => mem_mid.mpr (.inr ha))⟩)
theorem i_comp (is : List Nat) (hsub : TgSub is t) (S : CScope X scope is) (hi : L2.PI X tg iter (tIt X.K B it)) (hg : ∀ (B : List Addr) (C : Addr) (s₀ : Shared) (H₀ : Hp) (fp : List Addr), PG (compCx X scope C s₀ H₀ fp) tg (tG X.K B t))
  (he : ∀ (B : List Addr) (C : Addr) (s₀ : Shared) (H₀ : Hp) (fp : List Addr), PE (compCx X scope C s₀ H₀ fp) elt (tI X.K B f)) (hc : X.calm = true) (hs : ∀ x, foldedSetIterable iter X.env x = pure x := by intro _; rfl) :
  PE X (.ListComp elt [⟨tg, iter, [], 0⟩] scope pos) (tI X.K B (eComp is t it eTrue f)) := by
 intro pins s σ H Q I h
 obtain ⟨A, st, d, rs, hd, q⟩ := h
 obtain ⟨xs, hx, h2⟩ := R.ok_of hd
 obtain ⟨hl, h3⟩ := guardR_of h2
 obtain ⟨ys, hy, h4⟩ := R.ok_of h3
 cases h4
 rw [eval_ListComp]
 refine comp_core (use := none) (Qf := EP X pins σ Q) (Q := Q) (tt := tAlways) (te := tIx X.K f) (rest := fun env it p => eval elt env >>= fun x => call (.builtin "list.append") [p, x] >>= fun _ => again (.compLoop (.ListComp elt [⟨tg, iter, [], 0⟩] scope pos) 0 it p env)) S hc hi (fun C s₀ H₀ fp => pg_x fun B => hg B C s₀ H₀ fp) (fun _ _ _ => quiet_comp)
  (fun C s₀ H₀ fp it p s Q h => den0 (Y := compCx X scope C s₀ H₀ fp) h) (fun C s₀ H₀ fp it p τ H s pins vs N Q I h q => rest0 (Y := compCx X scope C s₀ H₀ fp) rfl (pe_x fun B => he B C s₀ H₀ fp) τ H s pins vs N Q I h (fun Q Q' m h => tIx_mono Q Q' m h) q) hs I
  (lc_of hsub (fun τ H Q ⟨B, A, st, k, rs, hk, q⟩ => ?_) rs hx hl hy fun p vs H1 H' s1 hp s2 hv r => comp_e rs q s1 hp s2 hv r) fun C p H5 s5 m5 s3 H3 fp τ hC I3 hfp I5 hn5 q5 => ⟨m5, hn5, fun h' hs' => ⟨.ref p, H5, inv_end I3 hfp hC I5 hs', rfl, q5⟩⟩
 cases hk
 exact q H (Same.refl _)
end
end Pu
namespace Pu
open PySem PySem.Spec PyProof.Rows L2 PySem.SeqAt
section
variable {X : Cx} {pins : List (Addr × Obj)} {σ : LSt} {H : Hp} {s : Shared}
theorem no_both (I : Inv X pins σ H s) {a : Addr} {xs ys : List V} (h1 : SqL X.K H a xs) (h2 : SqT X.K H a ys) : False := by
 obtain ⟨its, _, ⟨o, n, e, hc, _⟩, _⟩ := I.list h1
 obtain ⟨its2, _, ⟨o2, e2, hc2, _⟩, _⟩ := I.tuple h2
 rw [e] at e2; cases e2
 rw [hc] at hc2; simp at hc2
mutual
theorem Rep.inj (I : Inv X pins σ H s) : ∀ {x y : D} {v : V}, plain x = true -> plain y = true -> Rep X.K H x v -> Rep X.K H y v -> x = y
 | .non, y, v, px, py, h, h' => by
  have e := rep_non.mp h; subst e
  cases y <;> first | (simp at py; done) | skip
  all_goals simp only [rep_non, rep_bl, rep_int, rep_str, rep_tupD, rep_lst] at h'
  all_goals first | rfl | (obtain ⟨_, _, h', _⟩ := h'; cases h'; done) | (cases h'; done)
 | .bl b, y, v, px, py, h, h' => by
  have e := rep_bl.mp h; subst e
  cases y <;> first | (simp at py; done) | skip
  all_goals simp only [rep_non, rep_bl, rep_int, rep_str, rep_tupD, rep_lst] at h'
  all_goals first | (obtain ⟨_, _, h', _⟩ := h'; cases h'; done) | (cases h'; first | rfl | done)
 | .int i, y, v, px, py, h, h' => by
  have e := rep_int.mp h; subst e
  cases y <;> first | (simp at py; done) | skip
  all_goals simp only [rep_non, rep_bl, rep_int, rep_str, rep_tupD, rep_lst] at h'
  all_goals first | (obtain ⟨_, _, h', _⟩ := h'; cases h'; done) | (cases h'; first | rfl | done)
 | .str x, y, v, px, py, h, h' => by
  have e := rep_str.mp h; subst e
  cases y with
  | dct _ _ _ => simp at py
  | ins _ _ _ => simp at py
  | exn _ _ _ => simp at py
  | str z =>
   have e2 := rep_str.mp h'
   injection e2 with e2
   injection e2 with e2
   have : x = z := by simpa using congrArg Array.toList e2
   rw [this]
  | non => exact nomatch rep_non.mp h'
  | bl _ => exact nomatch rep_bl.mp h'
  | int _ => exact nomatch rep_int.mp h'
  | tup _ => obtain ⟨_, _, h', _⟩ := rep_tup_mp h'; cases h'
  | lst _ => obtain ⟨_, _, h', _⟩ := rep_lst.mp h'; cases h'
 | .tup ds, y, v, px, py, h, h' => by
  obtain ⟨a, vs, e, hq, hr⟩ := rep_tup_mp h
  subst e
  cases y with
  | dct _ _ _ => simp at py
  | ins _ _ _ => simp at py
  | exn _ _ _ => simp at py
  | tup es =>
   obtain ⟨a', vs', e', hq', hr'⟩ := rep_tup_mp h'
   cases e'
   have := I.tuple_inj hq hq'
   subst this
   rw [Reps.inj I (by simpa using px) (by simpa using py) hr hr']
  | lst es =>
   obtain ⟨a', vs', e', hq', hr'⟩ := rep_lst.mp h'
   cases e'
   exact (no_both I hq' hq).elim
  | non => exact nomatch rep_non.mp h'
  | bl _ => exact nomatch rep_bl.mp h'
  | int _ => exact nomatch rep_int.mp h'
  | str _ => exact nomatch rep_str.mp h'
 | .lst ds, y, v, px, py, h, h' => by
  obtain ⟨a, vs, e, hq, hr⟩ := rep_lst.mp h
  subst e
  cases y with
  | dct _ _ _ => simp at py
  | ins _ _ _ => simp at py
  | exn _ _ _ => simp at py
  | lst es =>
   obtain ⟨a', vs', e', hq', hr'⟩ := rep_lst.mp h'
   cases e'
   have := I.list_inj hq hq'
   subst this
   rw [Reps.inj I (by simpa using px) (by simpa using py) hr hr']
  | tup es =>
   obtain ⟨a', vs', e', hq', hr'⟩ := rep_tup_mp h'
   cases e'
   exact (no_both I hq hq').elim
  | non => exact nomatch rep_non.mp h'
  | bl _ => exact nomatch rep_bl.mp h'
  | int _ => exact nomatch rep_int.mp h'
  | str _ => exact nomatch rep_str.mp h'
 | .dct _ _ _, y, v, px, py, h, h' => by simp at px
 | .ins _ _ _, y, v, px, py, h, h' => by simp at px
 | .exn _ _ _, y, v, px, py, h, h' => by simp at px
theorem Reps.inj (I : Inv X pins σ H s) : ∀ {xs ys : List D} {vs : List V}, plains xs = true -> plains ys = true -> Reps X.K H xs vs -> Reps X.K H ys vs -> xs = ys
 | [], ys, vs, px, py, h, h' => by
  have e := reps_nil.mp h; subst e
  cases ys with
  | nil => rfl
  | cons y ys => obtain ⟨_, _, h', _⟩ := reps_cons.mp h'; cases h'
 | x :: xs, ys, vs, px, py, h, h' => by
  obtain ⟨v, r, e, h1, h2⟩ := reps_cons.mp h
  subst e
  cases ys with
  | nil => exact nomatch reps_nil.mp h'
  | cons y ys =>
   obtain ⟨v', r', e', h1', h2'⟩ := reps_cons.mp h'
   cases e'
   simp only [plains_cons, Bool.and_eq_true] at px py
   rw [Rep.inj I px.1 py.1 h1 h1', Reps.inj I px.2 py.2 h2 h2']
end
mutual
theorem eqD_refl : ∀ x : D, plain x = true -> eqD x x = true
 | .non, _ => by unfold eqD; rfl
 | .bl b, _ => by unfold eqD; simp
 | .int i, _ => by unfold eqD; simp
 | .str x, _ => by unfold eqD; simp
 | .tup x, h => by unfold eqD; exact eqDs_refl x (by simpa using h)
 | .lst x, h => by unfold eqD; exact eqDs_refl x (by simpa using h)
 | .dct _ _ _, h => by simp at h
 | .ins _ _ _, h => by simp at h
 | .exn _ _ _, h => by simp at h
theorem eqDs_refl : ∀ x : List D, plains x = true -> eqDs x x = true
 | [], _ => by unfold eqDs; rfl
 | a :: x, h => by
  simp only [plains_cons, Bool.and_eq_true] at h
  unfold eqDs; rw [eqD_refl a h.1, eqDs_refl x h.2]; rfl
end
def pairE (xs ys : List D) (j : Nat) : Bool := eqD (xs.getD j .non) (ys.getD j .non)
theorem eqDs_all : ∀ xs ys : List D, ((List.range (min xs.length ys.length)).all (pairE xs ys) && xs.length == ys.length) = eqDs xs ys
 | [], [] => by unfold eqDs; rfl
 | [], _ :: _ => by unfold eqDs; simp
 | _ :: _, [] => by unfold eqDs; simp
 | x :: xs, y :: ys => by
  have ih := eqDs_all xs ys
  have e : eqDs (x :: xs) (y :: ys) = (eqD x y && eqDs xs ys) := by conv => lhs; unfold eqDs
  rw [e, <- ih]
  have hm : min (x :: xs).length (y :: ys).length = min xs.length ys.length + 1 := by simp only [List.length_cons]; omega
  rw [hm, List.range_succ_eq_map, List.all_cons, List.all_map]
  have e1 : pairE (x :: xs) (y :: ys) 0 = eqD x y := rfl
  have e2 : (pairE (x :: xs) (y :: ys) ∘ Nat.succ) = pairE xs ys := rfl
  rw [e1, e2, Bool.and_assoc]
  congr 1
  simp
theorem eqDs_other {xs ys : List D} (h : xs.length ≠ ys.length) : eqDs xs ys = false := by
 rw [<- eqDs_all]; simp [h]
mutual
theorem eqAt_rep (I : Inv X pins σ H s) : ∀ (x y : D) (A : Around) (v u : V) (a b : Value), Rep X.K H x v -> Rep X.K H y u -> RelV v a -> RelV u b -> A.units + dep x < cLine -> plain x = true -> plain y = true -> EqAt A s a b (eqD x y)
 | .non, y, A, v, u, a, b, ra, rb, va, vb, hu, px, py => by
  have zv := rep_non.mp ra; subst zv; have za : a = Value.none := va; subst za
  cases y with
  | dct _ _ _ => simp at py
  | ins _ _ _ => simp at py
  | exn _ _ _ => simp at py
  | non =>
   have zu := rep_non.mp rb; subst zu; have zb : b = Value.none := vb; subst zb
   have e : eqD (.non) (.non) = eqD _ _ := rfl
   unfold eqD
   exact EqAt.same _
  | bl y =>
   have zu := rep_bl.mp rb; subst zu; have zb : b = Value.bool y := vb; subst zb
   have e : eqD (.non) (.bl y) = eqD _ _ := rfl
   unfold eqD
   exact EqAt.none_bool y
  | int y =>
   have zu := rep_int.mp rb; subst zu; obtain ⟨tb, zb⟩ : ∃ t, b = Value.int y t := vb; subst zb
   have e : eqD (.non) (.int y) = eqD _ _ := rfl
   unfold eqD
   exact EqAt.none_int y tb
  | str y =>
   have zu := rep_str.mp rb; subst zu; obtain ⟨tb, zb⟩ : ∃ t, b = Value.str ⟨y.toArray⟩ t := vb; subst zb
   have e : eqD (.non) (.str y) = eqD _ _ := rfl
   unfold eqD
   exact EqAt.none_str _ tb
  | tup y =>
   obtain ⟨lb, wsb, zu, hqb, hrb⟩ := rep_tup_mp rb; subst zu; have zb : b = Value.ref lb := vb; subst zb; obtain ⟨itsb, rvb, plb, _⟩ := I.tuple hqb; have ilb : s.heap.IsTuple lb itsb.toArray := plb
   have e : eqD (.non) (.tup y) = eqD _ _ := rfl
   unfold eqD
   exact EqAt.none_tuple ilb (Nat.lt_of_le_of_lt (Nat.le_add_right _ _) hu)
  | lst y =>
   obtain ⟨lb, wsb, zu, hqb, hrb⟩ := rep_lst.mp rb; subst zu; have zb : b = Value.ref lb := vb; subst zb; obtain ⟨itsb, rvb, plb, _⟩ := I.list hqb; have ilb := plb.isList
   have e : eqD (.non) (.lst y) = eqD _ _ := rfl
   unfold eqD
   exact EqAt.none_list ilb (Nat.lt_of_le_of_lt (Nat.le_add_right _ _) hu)
 | .bl x, y, A, v, u, a, b, ra, rb, va, vb, hu, px, py => by
  have zv := rep_bl.mp ra; subst zv; have za : a = Value.bool x := va; subst za
  cases y with
  | dct _ _ _ => simp at py
  | ins _ _ _ => simp at py
  | exn _ _ _ => simp at py
  | non =>
   have zu := rep_non.mp rb; subst zu; have zb : b = Value.none := vb; subst zb
   have e : eqD (.bl x) (.non) = eqD _ _ := rfl
   unfold eqD
   exact EqAt.bool_none x
  | bl y =>
   have zu := rep_bl.mp rb; subst zu; have zb : b = Value.bool y := vb; subst zb
   have e : eqD (.bl x) (.bl y) = eqD _ _ := rfl
   unfold eqD
   exact EqAt.bool_bool x y
  | int y =>
   have zu := rep_int.mp rb; subst zu; obtain ⟨tb, zb⟩ : ∃ t, b = Value.int y t := vb; subst zb
   have e : eqD (.bl x) (.int y) = eqD _ _ := rfl
   unfold eqD
   exact EqAt.bool_int x y tb
  | str y =>
   have zu := rep_str.mp rb; subst zu; obtain ⟨tb, zb⟩ : ∃ t, b = Value.str ⟨y.toArray⟩ t := vb; subst zb
   have e : eqD (.bl x) (.str y) = eqD _ _ := rfl
   unfold eqD
   exact EqAt.bool_str x _ tb
  | tup y =>
   obtain ⟨lb, wsb, zu, hqb, hrb⟩ := rep_tup_mp rb; subst zu; have zb : b = Value.ref lb := vb; subst zb; obtain ⟨itsb, rvb, plb, _⟩ := I.tuple hqb; have ilb : s.heap.IsTuple lb itsb.toArray := plb
   have e : eqD (.bl x) (.tup y) = eqD _ _ := rfl
   unfold eqD
   exact EqAt.bool_tuple x ilb (Nat.lt_of_le_of_lt (Nat.le_add_right _ _) hu)
  | lst y =>
   obtain ⟨lb, wsb, zu, hqb, hrb⟩ := rep_lst.mp rb; subst zu; have zb : b = Value.ref lb := vb; subst zb; obtain ⟨itsb, rvb, plb, _⟩ := I.list hqb; have ilb := plb.isList
   have e : eqD (.bl x) (.lst y) = eqD _ _ := rfl
   unfold eqD
   exact EqAt.bool_list x ilb (Nat.lt_of_le_of_lt (Nat.le_add_right _ _) hu)
 | .int x, y, A, v, u, a, b, ra, rb, va, vb, hu, px, py => by
  have zv := rep_int.mp ra; subst zv; obtain ⟨ta, za⟩ : ∃ t, a = Value.int x t := va; subst za
  cases y with
  | dct _ _ _ => simp at py
  | ins _ _ _ => simp at py
  | exn _ _ _ => simp at py
  | non =>
   have zu := rep_non.mp rb; subst zu; have zb : b = Value.none := vb; subst zb
   have e : eqD (.int x) (.non) = eqD _ _ := rfl
   unfold eqD
   exact EqAt.int_none x ta
  | bl y =>
   have zu := rep_bl.mp rb; subst zu; have zb : b = Value.bool y := vb; subst zb
   have e : eqD (.int x) (.bl y) = eqD _ _ := rfl
   unfold eqD
   exact EqAt.int_bool x ta y
  | int y =>
   have zu := rep_int.mp rb; subst zu; obtain ⟨tb, zb⟩ : ∃ t, b = Value.int y t := vb; subst zb
   have e : eqD (.int x) (.int y) = eqD _ _ := rfl
   unfold eqD
   exact EqAt.int_int x ta y tb
  | str y =>
   have zu := rep_str.mp rb; subst zu; obtain ⟨tb, zb⟩ : ∃ t, b = Value.str ⟨y.toArray⟩ t := vb; subst zb
   have e : eqD (.int x) (.str y) = eqD _ _ := rfl
   unfold eqD
   exact EqAt.int_str x ta _ tb
  | tup y =>
   obtain ⟨lb, wsb, zu, hqb, hrb⟩ := rep_tup_mp rb; subst zu; have zb : b = Value.ref lb := vb; subst zb; obtain ⟨itsb, rvb, plb, _⟩ := I.tuple hqb; have ilb : s.heap.IsTuple lb itsb.toArray := plb
   have e : eqD (.int x) (.tup y) = eqD _ _ := rfl
   unfold eqD
   exact EqAt.int_tuple x ta ilb (Nat.lt_of_le_of_lt (Nat.le_add_right _ _) hu)
  | lst y =>
   obtain ⟨lb, wsb, zu, hqb, hrb⟩ := rep_lst.mp rb; subst zu; have zb : b = Value.ref lb := vb; subst zb; obtain ⟨itsb, rvb, plb, _⟩ := I.list hqb; have ilb := plb.isList
   have e : eqD (.int x) (.lst y) = eqD _ _ := rfl
   unfold eqD
   exact EqAt.int_list x ta ilb (Nat.lt_of_le_of_lt (Nat.le_add_right _ _) hu)
 | .str x, y, A, v, u, a, b, ra, rb, va, vb, hu, px, py => by
  have zv := rep_str.mp ra; subst zv; obtain ⟨ta, za⟩ : ∃ t, a = Value.str ⟨x.toArray⟩ t := va; subst za
  cases y with
  | dct _ _ _ => simp at py
  | ins _ _ _ => simp at py
  | exn _ _ _ => simp at py
  | non =>
   have zu := rep_non.mp rb; subst zu; have zb : b = Value.none := vb; subst zb
   have e : eqD (.str x) (.non) = eqD _ _ := rfl
   unfold eqD
   exact EqAt.str_none _ ta
  | bl y =>
   have zu := rep_bl.mp rb; subst zu; have zb : b = Value.bool y := vb; subst zb
   have e : eqD (.str x) (.bl y) = eqD _ _ := rfl
   unfold eqD
   exact EqAt.str_bool _ ta y
  | int y =>
   have zu := rep_int.mp rb; subst zu; obtain ⟨tb, zb⟩ : ∃ t, b = Value.int y t := vb; subst zb
   have e : eqD (.str x) (.int y) = eqD _ _ := rfl
   unfold eqD
   exact EqAt.str_int _ ta y tb
  | str y =>
   have zu := rep_str.mp rb; subst zu; obtain ⟨tb, zb⟩ : ∃ t, b = Value.str ⟨y.toArray⟩ t := vb; subst zb
   have e : eqD (.str x) (.str y) = ((⟨x.toArray⟩ : Str) == ⟨y.toArray⟩) := by rw [<- str_beq]; unfold eqD; simp
   rw [e]
   exact EqAt.str_str _ ta _ tb
  | tup y =>
   obtain ⟨lb, wsb, zu, hqb, hrb⟩ := rep_tup_mp rb; subst zu; have zb : b = Value.ref lb := vb; subst zb; obtain ⟨itsb, rvb, plb, _⟩ := I.tuple hqb; have ilb : s.heap.IsTuple lb itsb.toArray := plb
   have e : eqD (.str x) (.tup y) = eqD _ _ := rfl
   unfold eqD
   exact EqAt.str_tuple _ ta ilb (Nat.lt_of_le_of_lt (Nat.le_add_right _ _) hu)
  | lst y =>
   obtain ⟨lb, wsb, zu, hqb, hrb⟩ := rep_lst.mp rb; subst zu; have zb : b = Value.ref lb := vb; subst zb; obtain ⟨itsb, rvb, plb, _⟩ := I.list hqb; have ilb := plb.isList
   have e : eqD (.str x) (.lst y) = eqD _ _ := rfl
   unfold eqD
   exact EqAt.str_list _ ta ilb (Nat.lt_of_le_of_lt (Nat.le_add_right _ _) hu)
 | .tup x, y, A, v, u, a, b, ra, rb, va, vb, hu, px, py => by
  obtain ⟨la, wsa, zv, hqa, hra⟩ := rep_tup_mp ra; subst zv; have za : a = Value.ref la := va; subst za; obtain ⟨itsa, rva, pla, _⟩ := I.tuple hqa; have ila : s.heap.IsTuple la itsa.toArray := pla
  cases y with
  | dct _ _ _ => simp at py
  | ins _ _ _ => simp at py
  | exn _ _ _ => simp at py
  | non =>
   have zu := rep_non.mp rb; subst zu; have zb : b = Value.none := vb; subst zb
   have e : eqD (.tup x) (.non) = eqD _ _ := rfl
   unfold eqD
   exact EqAt.tuple_none ila (Nat.lt_of_le_of_lt (Nat.le_add_right _ _) hu)
  | bl y =>
   have zu := rep_bl.mp rb; subst zu; have zb : b = Value.bool y := vb; subst zb
   have e : eqD (.tup x) (.bl y) = eqD _ _ := rfl
   unfold eqD
   exact EqAt.tuple_bool y ila (Nat.lt_of_le_of_lt (Nat.le_add_right _ _) hu)
  | int y =>
   have zu := rep_int.mp rb; subst zu; obtain ⟨tb, zb⟩ : ∃ t, b = Value.int y t := vb; subst zb
   have e : eqD (.tup x) (.int y) = eqD _ _ := rfl
   unfold eqD
   exact EqAt.tuple_int y tb ila (Nat.lt_of_le_of_lt (Nat.le_add_right _ _) hu)
  | str y =>
   have zu := rep_str.mp rb; subst zu; obtain ⟨tb, zb⟩ : ∃ t, b = Value.str ⟨y.toArray⟩ t := vb; subst zb
   have e : eqD (.tup x) (.str y) = eqD _ _ := rfl
   unfold eqD
   exact EqAt.tuple_str _ tb ila (Nat.lt_of_le_of_lt (Nat.le_add_right _ _) hu)
  | tup y =>
   obtain ⟨lb, wsb, zu, hqb, hrb⟩ := rep_tup_mp rb; subst zu; have zb : b = Value.ref lb := vb; subst zb; obtain ⟨itsb, rvb, plb, _⟩ := I.tuple hqb; have ilb : s.heap.IsTuple lb itsb.toArray := plb
   have n1 : itsa.length = x.length := by rw [<- rva.length, hra.length]
   have n2 : itsb.length = y.length := by rw [<- rvb.length, hrb.length]
   have e : eqD (.tup x) (.tup y) = eqDs x y := by conv => lhs; unfold eqD
   have hd : dep (.tup x) = deps x + 1 := by conv => lhs; unfold dep
   rw [hd] at hu
   have hin : A.in1.units + deps x < cLine := by show A.units + 1 + deps x < cLine; omega
   by_cases hll : la = lb
   ·subst hll
    have := Rep.inj I px py ra rb
    rw [this, eqD_refl _ py]
    exact EqAt.same _
   ·rw [e]
    have e3 : eqDs x y = ((List.range (min itsa.toArray.size itsb.toArray.size)).all (pairE x y) && itsa.toArray.size == itsb.toArray.size) := by rw [<- eqDs_all, List.size_toArray, List.size_toArray, n1, n2]
    rw [e3]
    refine EqAt.of_refs hll (RcAt.tuples ila ilb (by omega) fun j j1 j2 => ?_)
    have := eqAt_reps I x y A.in1 wsa wsb itsa itsb hra hrb rva rvb hin (by simpa using px) (by simpa using py) j (by simpa using j1) (by simpa using j2)
    simpa using this
  | lst y =>
   obtain ⟨lb, wsb, zu, hqb, hrb⟩ := rep_lst.mp rb; subst zu; have zb : b = Value.ref lb := vb; subst zb; obtain ⟨itsb, rvb, plb, _⟩ := I.list hqb; have ilb := plb.isList
   have e : eqD (.tup x) (.lst y) = eqD _ _ := rfl
   unfold eqD
   exact EqAt.tuple_list ila ilb (Nat.lt_of_le_of_lt (Nat.le_add_right _ _) hu)
 | .lst x, y, A, v, u, a, b, ra, rb, va, vb, hu, px, py => by
  obtain ⟨la, wsa, zv, hqa, hra⟩ := rep_lst.mp ra; subst zv; have za : a = Value.ref la := va; subst za; obtain ⟨itsa, rva, pla, _⟩ := I.list hqa; have ila := pla.isList
  cases y with
  | dct _ _ _ => simp at py
  | ins _ _ _ => simp at py
  | exn _ _ _ => simp at py
  | non =>
   have zu := rep_non.mp rb; subst zu; have zb : b = Value.none := vb; subst zb
   have e : eqD (.lst x) (.non) = eqD _ _ := rfl
   unfold eqD
   exact EqAt.list_none ila (Nat.lt_of_le_of_lt (Nat.le_add_right _ _) hu)
  | bl y =>
   have zu := rep_bl.mp rb; subst zu; have zb : b = Value.bool y := vb; subst zb
   have e : eqD (.lst x) (.bl y) = eqD _ _ := rfl
   unfold eqD
   exact EqAt.list_bool y ila (Nat.lt_of_le_of_lt (Nat.le_add_right _ _) hu)
  | int y =>
   have zu := rep_int.mp rb; subst zu; obtain ⟨tb, zb⟩ : ∃ t, b = Value.int y t := vb; subst zb
   have e : eqD (.lst x) (.int y) = eqD _ _ := rfl
   unfold eqD
   exact EqAt.list_int y tb ila (Nat.lt_of_le_of_lt (Nat.le_add_right _ _) hu)
  | str y =>
   have zu := rep_str.mp rb; subst zu; obtain ⟨tb, zb⟩ : ∃ t, b = Value.str ⟨y.toArray⟩ t := vb; subst zb
   have e : eqD (.lst x) (.str y) = eqD _ _ := rfl
   unfold eqD
   exact EqAt.list_str _ tb ila (Nat.lt_of_le_of_lt (Nat.le_add_right _ _) hu)
  | tup y =>
   obtain ⟨lb, wsb, zu, hqb, hrb⟩ := rep_tup_mp rb; subst zu; have zb : b = Value.ref lb := vb; subst zb; obtain ⟨itsb, rvb, plb, _⟩ := I.tuple hqb; have ilb : s.heap.IsTuple lb itsb.toArray := plb
   have e : eqD (.lst x) (.tup y) = eqD _ _ := rfl
   unfold eqD
   exact EqAt.list_tuple ila ilb (Nat.lt_of_le_of_lt (Nat.le_add_right _ _) hu)
  | lst y =>
   obtain ⟨lb, wsb, zu, hqb, hrb⟩ := rep_lst.mp rb; subst zu; have zb : b = Value.ref lb := vb; subst zb; obtain ⟨itsb, rvb, plb, _⟩ := I.list hqb; have ilb := plb.isList
   have n1 : itsa.length = x.length := by rw [<- rva.length, hra.length]
   have n2 : itsb.length = y.length := by rw [<- rvb.length, hrb.length]
   have e : eqD (.lst x) (.lst y) = eqDs x y := by conv => lhs; unfold eqD
   have hd : dep (.lst x) = deps x + 1 := by conv => lhs; unfold dep
   rw [hd] at hu
   have hin : A.in1.units + deps x < cLine := by show A.units + 1 + deps x < cLine; omega
   by_cases hll : la = lb
   ·subst hll
    have := Rep.inj I px py ra rb
    rw [this, eqD_refl _ py]
    exact EqAt.same _
   ·rw [e]
    by_cases hsz : itsa.length = itsb.length
    ·have e3 : eqDs x y = (List.range itsa.toArray.size).all (pairE x y) := by rw [<- eqDs_all, List.size_toArray, n1]; simp [show x.length = y.length by omega]
     rw [e3]
     refine EqAt.of_refs hll (RcAt.lists ila ilb (by simpa using hsz) (by omega) fun j j1 j2 => ?_)
     have := eqAt_reps I x y A.in1 wsa wsb itsa itsb hra hrb rva rvb hin (by simpa using px) (by simpa using py) j (by simpa using j1) (by simpa using j2)
     simpa using this
    ·rw [eqDs_other (by omega)]
     exact EqAt.of_refs hll (RcAt.lists_lengths ila ilb (by simpa using hsz) (by omega))
 | .dct _ _ _, y, A, v, u, a, b, ra, rb, va, vb, hu, px, py => by simp at px
 | .ins _ _ _, y, A, v, u, a, b, ra, rb, va, vb, hu, px, py => by simp at px
 | .exn _ _ _, y, A, v, u, a, b, ra, rb, va, vb, hu, px, py => by simp at px
theorem eqAt_reps (I : Inv X pins σ H s) : ∀ (xs ys : List D) (A : Around) (vs us : List V) (as bs : List Value), Reps X.K H xs vs -> Reps X.K H ys us -> Vals vs as -> Vals us bs -> A.units + deps xs < cLine -> plains xs = true -> plains ys = true -> ∀ (j : Nat) (h1 : j < as.length) (h2 : j < bs.length), EqAt A s as[j] bs[j] (pairE xs ys j)
 | [], _, A, vs, us, as, bs, ra, rb, va, vb, hu, px, py, j, h1, h2 => by
  have e := reps_nil.mp ra; subst e; cases va; exact absurd h1 (Nat.not_lt_zero _)
 | x :: xs, [], A, vs, us, as, bs, ra, rb, va, vb, hu, px, py, j, h1, h2 => by
  have e := reps_nil.mp rb; subst e; cases vb; exact absurd h2 (Nat.not_lt_zero _)
 | x :: xs, y :: ys, A, vs, us, as, bs, ra, rb, va, vb, hu, px, py, j, h1, h2 => by
  obtain ⟨v, r, e, p1, p2⟩ := reps_cons.mp ra; subst e
  obtain ⟨u, r', e, q1, q2⟩ := reps_cons.mp rb; subst e
  have hd : deps (x :: xs) = max (dep x) (deps xs) := by conv => lhs; unfold deps
  rw [hd] at hu
  simp only [plains_cons, Bool.and_eq_true] at px py
  cases va with
  | cons va vas =>
   cases vb with
   | cons vb vbs =>
    cases j with
    | zero => exact eqAt_rep I x y A v u _ _ p1 q1 va vb (by omega) px.1 py.1
    | succ j => exact eqAt_reps I xs ys A r r' _ _ p2 q2 vas vbs (by omega) px.2 py.2 j (Nat.lt_of_succ_lt_succ h1) (Nat.lt_of_succ_lt_succ h2)
end
theorem rcAt_rep (I : Inv X pins σ H s) : ∀ (x y : D) (A : Around) (v u : V) (a b : Value), Rep X.K H x v -> Rep X.K H y u -> RelV v a -> RelV u b -> A.units + dep x < cLine -> plain x = true -> plain y = true -> RcAt A s a b (eqD x y)
 | .non, y, A, v, u, a, b, ra, rb, va, vb, hu, px, py => by
  have zv := rep_non.mp ra; subst zv; have za : a = Value.none := va; subst za
  cases y with
  | dct _ _ _ => simp at py
  | ins _ _ _ => simp at py
  | exn _ _ _ => simp at py
  | non =>
   have zu := rep_non.mp rb; subst zu; have zb : b = Value.none := vb; subst zb
   have e : eqD (.non) (.non) = eqD _ _ := rfl
   unfold eqD
   exact RcAt.none_none
  | bl y =>
   have zu := rep_bl.mp rb; subst zu; have zb : b = Value.bool y := vb; subst zb
   have e : eqD (.non) (.bl y) = eqD _ _ := rfl
   unfold eqD
   exact RcAt.none_bool y
  | int y =>
   have zu := rep_int.mp rb; subst zu; obtain ⟨tb, zb⟩ : ∃ t, b = Value.int y t := vb; subst zb
   have e : eqD (.non) (.int y) = eqD _ _ := rfl
   unfold eqD
   exact RcAt.none_int y tb
  | str y =>
   have zu := rep_str.mp rb; subst zu; obtain ⟨tb, zb⟩ : ∃ t, b = Value.str ⟨y.toArray⟩ t := vb; subst zb
   have e : eqD (.non) (.str y) = eqD _ _ := rfl
   unfold eqD
   exact RcAt.none_str _ tb
  | tup y =>
   obtain ⟨lb, wsb, zu, hqb, hrb⟩ := rep_tup_mp rb; subst zu; have zb : b = Value.ref lb := vb; subst zb; obtain ⟨itsb, rvb, plb, _⟩ := I.tuple hqb; have ilb : s.heap.IsTuple lb itsb.toArray := plb
   have e : eqD (.non) (.tup y) = eqD _ _ := rfl
   unfold eqD
   exact RcAt.none_tuple ilb (Nat.lt_of_le_of_lt (Nat.le_add_right _ _) hu)
  | lst y =>
   obtain ⟨lb, wsb, zu, hqb, hrb⟩ := rep_lst.mp rb; subst zu; have zb : b = Value.ref lb := vb; subst zb; obtain ⟨itsb, rvb, plb, _⟩ := I.list hqb; have ilb := plb.isList
   have e : eqD (.non) (.lst y) = eqD _ _ := rfl
   unfold eqD
   exact RcAt.none_list ilb (Nat.lt_of_le_of_lt (Nat.le_add_right _ _) hu)
 | .bl x, y, A, v, u, a, b, ra, rb, va, vb, hu, px, py => by
  have zv := rep_bl.mp ra; subst zv; have za : a = Value.bool x := va; subst za
  cases y with
  | dct _ _ _ => simp at py
  | ins _ _ _ => simp at py
  | exn _ _ _ => simp at py
  | non =>
   have zu := rep_non.mp rb; subst zu; have zb : b = Value.none := vb; subst zb
   have e : eqD (.bl x) (.non) = eqD _ _ := rfl
   unfold eqD
   exact RcAt.bool_none x
  | bl y =>
   have zu := rep_bl.mp rb; subst zu; have zb : b = Value.bool y := vb; subst zb
   have e : eqD (.bl x) (.bl y) = eqD _ _ := rfl
   unfold eqD
   exact RcAt.bool_bool x y
  | int y =>
   have zu := rep_int.mp rb; subst zu; obtain ⟨tb, zb⟩ : ∃ t, b = Value.int y t := vb; subst zb
   have e : eqD (.bl x) (.int y) = eqD _ _ := rfl
   unfold eqD
   exact RcAt.bool_int x y tb
  | str y =>
   have zu := rep_str.mp rb; subst zu; obtain ⟨tb, zb⟩ : ∃ t, b = Value.str ⟨y.toArray⟩ t := vb; subst zb
   have e : eqD (.bl x) (.str y) = eqD _ _ := rfl
   unfold eqD
   exact RcAt.bool_str x _ tb
  | tup y =>
   obtain ⟨lb, wsb, zu, hqb, hrb⟩ := rep_tup_mp rb; subst zu; have zb : b = Value.ref lb := vb; subst zb; obtain ⟨itsb, rvb, plb, _⟩ := I.tuple hqb; have ilb : s.heap.IsTuple lb itsb.toArray := plb
   have e : eqD (.bl x) (.tup y) = eqD _ _ := rfl
   unfold eqD
   exact RcAt.bool_tuple x ilb (Nat.lt_of_le_of_lt (Nat.le_add_right _ _) hu)
  | lst y =>
   obtain ⟨lb, wsb, zu, hqb, hrb⟩ := rep_lst.mp rb; subst zu; have zb : b = Value.ref lb := vb; subst zb; obtain ⟨itsb, rvb, plb, _⟩ := I.list hqb; have ilb := plb.isList
   have e : eqD (.bl x) (.lst y) = eqD _ _ := rfl
   unfold eqD
   exact RcAt.bool_list x ilb (Nat.lt_of_le_of_lt (Nat.le_add_right _ _) hu)
 | .int x, y, A, v, u, a, b, ra, rb, va, vb, hu, px, py => by
  have zv := rep_int.mp ra; subst zv; obtain ⟨ta, za⟩ : ∃ t, a = Value.int x t := va; subst za
  cases y with
  | dct _ _ _ => simp at py
  | ins _ _ _ => simp at py
  | exn _ _ _ => simp at py
  | non =>
   have zu := rep_non.mp rb; subst zu; have zb : b = Value.none := vb; subst zb
   have e : eqD (.int x) (.non) = eqD _ _ := rfl
   unfold eqD
   exact RcAt.int_none x ta
  | bl y =>
   have zu := rep_bl.mp rb; subst zu; have zb : b = Value.bool y := vb; subst zb
   have e : eqD (.int x) (.bl y) = eqD _ _ := rfl
   unfold eqD
   exact RcAt.int_bool x ta y
  | int y =>
   have zu := rep_int.mp rb; subst zu; obtain ⟨tb, zb⟩ : ∃ t, b = Value.int y t := vb; subst zb
   have e : eqD (.int x) (.int y) = eqD _ _ := rfl
   unfold eqD
   exact RcAt.int_int x ta y tb
  | str y =>
   have zu := rep_str.mp rb; subst zu; obtain ⟨tb, zb⟩ : ∃ t, b = Value.str ⟨y.toArray⟩ t := vb; subst zb
   have e : eqD (.int x) (.str y) = eqD _ _ := rfl
   unfold eqD
   exact RcAt.int_str x ta _ tb
  | tup y =>
   obtain ⟨lb, wsb, zu, hqb, hrb⟩ := rep_tup_mp rb; subst zu; have zb : b = Value.ref lb := vb; subst zb; obtain ⟨itsb, rvb, plb, _⟩ := I.tuple hqb; have ilb : s.heap.IsTuple lb itsb.toArray := plb
   have e : eqD (.int x) (.tup y) = eqD _ _ := rfl
   unfold eqD
   exact RcAt.int_tuple x ta ilb (Nat.lt_of_le_of_lt (Nat.le_add_right _ _) hu)
  | lst y =>
   obtain ⟨lb, wsb, zu, hqb, hrb⟩ := rep_lst.mp rb; subst zu; have zb : b = Value.ref lb := vb; subst zb; obtain ⟨itsb, rvb, plb, _⟩ := I.list hqb; have ilb := plb.isList
   have e : eqD (.int x) (.lst y) = eqD _ _ := rfl
   unfold eqD
   exact RcAt.int_list x ta ilb (Nat.lt_of_le_of_lt (Nat.le_add_right _ _) hu)
 | .str x, y, A, v, u, a, b, ra, rb, va, vb, hu, px, py => by
  have zv := rep_str.mp ra; subst zv; obtain ⟨ta, za⟩ : ∃ t, a = Value.str ⟨x.toArray⟩ t := va; subst za
  cases y with
  | dct _ _ _ => simp at py
  | ins _ _ _ => simp at py
  | exn _ _ _ => simp at py
  | non =>
   have zu := rep_non.mp rb; subst zu; have zb : b = Value.none := vb; subst zb
   have e : eqD (.str x) (.non) = eqD _ _ := rfl
   unfold eqD
   exact RcAt.str_none _ ta
  | bl y =>
   have zu := rep_bl.mp rb; subst zu; have zb : b = Value.bool y := vb; subst zb
   have e : eqD (.str x) (.bl y) = eqD _ _ := rfl
   unfold eqD
   exact RcAt.str_bool _ ta y
  | int y =>
   have zu := rep_int.mp rb; subst zu; obtain ⟨tb, zb⟩ : ∃ t, b = Value.int y t := vb; subst zb
   have e : eqD (.str x) (.int y) = eqD _ _ := rfl
   unfold eqD
   exact RcAt.str_int _ ta y tb
  | str y =>
   have zu := rep_str.mp rb; subst zu; obtain ⟨tb, zb⟩ : ∃ t, b = Value.str ⟨y.toArray⟩ t := vb; subst zb
   have e : eqD (.str x) (.str y) = ((⟨x.toArray⟩ : Str) == ⟨y.toArray⟩) := by rw [<- str_beq]; unfold eqD; simp
   rw [e]
   exact RcAt.str_str _ ta _ tb
  | tup y =>
   obtain ⟨lb, wsb, zu, hqb, hrb⟩ := rep_tup_mp rb; subst zu; have zb : b = Value.ref lb := vb; subst zb; obtain ⟨itsb, rvb, plb, _⟩ := I.tuple hqb; have ilb : s.heap.IsTuple lb itsb.toArray := plb
   have e : eqD (.str x) (.tup y) = eqD _ _ := rfl
   unfold eqD
   exact RcAt.str_tuple _ ta ilb (Nat.lt_of_le_of_lt (Nat.le_add_right _ _) hu)
  | lst y =>
   obtain ⟨lb, wsb, zu, hqb, hrb⟩ := rep_lst.mp rb; subst zu; have zb : b = Value.ref lb := vb; subst zb; obtain ⟨itsb, rvb, plb, _⟩ := I.list hqb; have ilb := plb.isList
   have e : eqD (.str x) (.lst y) = eqD _ _ := rfl
   unfold eqD
   exact RcAt.str_list _ ta ilb (Nat.lt_of_le_of_lt (Nat.le_add_right _ _) hu)
 | .tup x, y, A, v, u, a, b, ra, rb, va, vb, hu, px, py => by
  obtain ⟨la, wsa, zv, hqa, hra⟩ := rep_tup_mp ra; subst zv; have za : a = Value.ref la := va; subst za; obtain ⟨itsa, rva, pla, _⟩ := I.tuple hqa; have ila : s.heap.IsTuple la itsa.toArray := pla
  cases y with
  | dct _ _ _ => simp at py
  | ins _ _ _ => simp at py
  | exn _ _ _ => simp at py
  | non =>
   have zu := rep_non.mp rb; subst zu; have zb : b = Value.none := vb; subst zb
   have e : eqD (.tup x) (.non) = eqD _ _ := rfl
   unfold eqD
   exact RcAt.tuple_none ila (Nat.lt_of_le_of_lt (Nat.le_add_right _ _) hu)
  | bl y =>
   have zu := rep_bl.mp rb; subst zu; have zb : b = Value.bool y := vb; subst zb
   have e : eqD (.tup x) (.bl y) = eqD _ _ := rfl
   unfold eqD
   exact RcAt.tuple_bool y ila (Nat.lt_of_le_of_lt (Nat.le_add_right _ _) hu)
  | int y =>
   have zu := rep_int.mp rb; subst zu; obtain ⟨tb, zb⟩ : ∃ t, b = Value.int y t := vb; subst zb
   have e : eqD (.tup x) (.int y) = eqD _ _ := rfl
   unfold eqD
   exact RcAt.tuple_int y tb ila (Nat.lt_of_le_of_lt (Nat.le_add_right _ _) hu)
  | str y =>
   have zu := rep_str.mp rb; subst zu; obtain ⟨tb, zb⟩ : ∃ t, b = Value.str ⟨y.toArray⟩ t := vb; subst zb
   have e : eqD (.tup x) (.str y) = eqD _ _ := rfl
   unfold eqD
   exact RcAt.tuple_str _ tb ila (Nat.lt_of_le_of_lt (Nat.le_add_right _ _) hu)
  | tup y =>
   obtain ⟨lb, wsb, zu, hqb, hrb⟩ := rep_tup_mp rb; subst zu; have zb : b = Value.ref lb := vb; subst zb; obtain ⟨itsb, rvb, plb, _⟩ := I.tuple hqb; have ilb : s.heap.IsTuple lb itsb.toArray := plb
   have n1 : itsa.length = x.length := by rw [<- rva.length, hra.length]
   have n2 : itsb.length = y.length := by rw [<- rvb.length, hrb.length]
   have e : eqD (.tup x) (.tup y) = eqDs x y := by conv => lhs; unfold eqD
   have hd : dep (.tup x) = deps x + 1 := by conv => lhs; unfold dep
   rw [hd] at hu
   have hin : A.in1.units + deps x < cLine := by show A.units + 1 + deps x < cLine; omega
   rw [e]
   have e3 : eqDs x y = ((List.range (min itsa.toArray.size itsb.toArray.size)).all (pairE x y) && itsa.toArray.size == itsb.toArray.size) := by rw [<- eqDs_all, List.size_toArray, List.size_toArray, n1, n2]
   rw [e3]
   refine  (RcAt.tuples ila ilb (by omega) fun j j1 j2 => ?_)
   have := eqAt_reps I x y A.in1 wsa wsb itsa itsb hra hrb rva rvb hin (by simpa using px) (by simpa using py) j (by simpa using j1) (by simpa using j2)
   simpa using this
  | lst y =>
   obtain ⟨lb, wsb, zu, hqb, hrb⟩ := rep_lst.mp rb; subst zu; have zb : b = Value.ref lb := vb; subst zb; obtain ⟨itsb, rvb, plb, _⟩ := I.list hqb; have ilb := plb.isList
   have e : eqD (.tup x) (.lst y) = eqD _ _ := rfl
   unfold eqD
   exact RcAt.tuple_list ila ilb (Nat.lt_of_le_of_lt (Nat.le_add_right _ _) hu)
 | .lst x, y, A, v, u, a, b, ra, rb, va, vb, hu, px, py => by
  obtain ⟨la, wsa, zv, hqa, hra⟩ := rep_lst.mp ra; subst zv; have za : a = Value.ref la := va; subst za; obtain ⟨itsa, rva, pla, _⟩ := I.list hqa; have ila := pla.isList
  cases y with
  | dct _ _ _ => simp at py
  | ins _ _ _ => simp at py
  | exn _ _ _ => simp at py
  | non =>
   have zu := rep_non.mp rb; subst zu; have zb : b = Value.none := vb; subst zb
   have e : eqD (.lst x) (.non) = eqD _ _ := rfl
   unfold eqD
   exact RcAt.list_none ila (Nat.lt_of_le_of_lt (Nat.le_add_right _ _) hu)
  | bl y =>
   have zu := rep_bl.mp rb; subst zu; have zb : b = Value.bool y := vb; subst zb
   have e : eqD (.lst x) (.bl y) = eqD _ _ := rfl
   unfold eqD
   exact RcAt.list_bool y ila (Nat.lt_of_le_of_lt (Nat.le_add_right _ _) hu)
  | int y =>
   have zu := rep_int.mp rb; subst zu; obtain ⟨tb, zb⟩ : ∃ t, b = Value.int y t := vb; subst zb
   have e : eqD (.lst x) (.int y) = eqD _ _ := rfl
   unfold eqD
   exact RcAt.list_int y tb ila (Nat.lt_of_le_of_lt (Nat.le_add_right _ _) hu)
  | str y =>
   have zu := rep_str.mp rb; subst zu; obtain ⟨tb, zb⟩ : ∃ t, b = Value.str ⟨y.toArray⟩ t := vb; subst zb
   have e : eqD (.lst x) (.str y) = eqD _ _ := rfl
   unfold eqD
   exact RcAt.list_str _ tb ila (Nat.lt_of_le_of_lt (Nat.le_add_right _ _) hu)
  | tup y =>
   obtain ⟨lb, wsb, zu, hqb, hrb⟩ := rep_tup_mp rb; subst zu; have zb : b = Value.ref lb := vb; subst zb; obtain ⟨itsb, rvb, plb, _⟩ := I.tuple hqb; have ilb : s.heap.IsTuple lb itsb.toArray := plb
   have e : eqD (.lst x) (.tup y) = eqD _ _ := rfl
   unfold eqD
   exact RcAt.list_tuple ila ilb (Nat.lt_of_le_of_lt (Nat.le_add_right _ _) hu)
  | lst y =>
   obtain ⟨lb, wsb, zu, hqb, hrb⟩ := rep_lst.mp rb; subst zu; have zb : b = Value.ref lb := vb; subst zb; obtain ⟨itsb, rvb, plb, _⟩ := I.list hqb; have ilb := plb.isList
   have n1 : itsa.length = x.length := by rw [<- rva.length, hra.length]
   have n2 : itsb.length = y.length := by rw [<- rvb.length, hrb.length]
   have e : eqD (.lst x) (.lst y) = eqDs x y := by conv => lhs; unfold eqD
   have hd : dep (.lst x) = deps x + 1 := by conv => lhs; unfold dep
   rw [hd] at hu
   have hin : A.in1.units + deps x < cLine := by show A.units + 1 + deps x < cLine; omega
   rw [e]
   by_cases hsz : itsa.length = itsb.length
   ·have e3 : eqDs x y = (List.range itsa.toArray.size).all (pairE x y) := by rw [<- eqDs_all, List.size_toArray, n1]; simp [show x.length = y.length by omega]
    rw [e3]
    refine  (RcAt.lists ila ilb (by simpa using hsz) (by omega) fun j j1 j2 => ?_)
    have := eqAt_reps I x y A.in1 wsa wsb itsa itsb hra hrb rva rvb hin (by simpa using px) (by simpa using py) j (by simpa using j1) (by simpa using j2)
    simpa using this
   ·rw [eqDs_other (by omega)]
    exact  (RcAt.lists_lengths ila ilb (by simpa using hsz) (by omega))
 | .dct _ _ _, y, A, v, u, a, b, ra, rb, va, vb, hu, px, py => by simp at px
 | .ins _ _ _, y, A, v, u, a, b, ra, rb, va, vb, hu, px, py => by simp at px
 | .exn _ _ _, y, A, v, u, a, b, ra, rb, va, vb, hu, px, py => by simp at px
theorem rcNe_rep (I : Inv X pins σ H s) : ∀ (x y : D) (A : Around) (v u : V) (a b : Value), Rep X.K H x v -> Rep X.K H y u -> RelV v a -> RelV u b -> A.units + dep x < cLine -> plain x = true -> plain y = true -> RcNeAt A s a b (!eqD x y)
 | .non, y, A, v, u, a, b, ra, rb, va, vb, hu, px, py => by
  have zv := rep_non.mp ra; subst zv; have za : a = Value.none := va; subst za
  cases y with
  | dct _ _ _ => simp at py
  | ins _ _ _ => simp at py
  | exn _ _ _ => simp at py
  | non =>
   have zu := rep_non.mp rb; subst zu; have zb : b = Value.none := vb; subst zb
   have e : eqD (.non) (.non) = eqD _ _ := rfl
   unfold eqD
   exact RcNeAt.none_none
  | bl y =>
   have zu := rep_bl.mp rb; subst zu; have zb : b = Value.bool y := vb; subst zb
   have e : eqD (.non) (.bl y) = eqD _ _ := rfl
   unfold eqD
   exact RcNeAt.none_bool y
  | int y =>
   have zu := rep_int.mp rb; subst zu; obtain ⟨tb, zb⟩ : ∃ t, b = Value.int y t := vb; subst zb
   have e : eqD (.non) (.int y) = eqD _ _ := rfl
   unfold eqD
   exact RcNeAt.none_int y tb
  | str y =>
   have zu := rep_str.mp rb; subst zu; obtain ⟨tb, zb⟩ : ∃ t, b = Value.str ⟨y.toArray⟩ t := vb; subst zb
   have e : eqD (.non) (.str y) = eqD _ _ := rfl
   unfold eqD
   exact RcNeAt.none_str _ tb
  | tup y =>
   obtain ⟨lb, wsb, zu, hqb, hrb⟩ := rep_tup_mp rb; subst zu; have zb : b = Value.ref lb := vb; subst zb; obtain ⟨itsb, rvb, plb, _⟩ := I.tuple hqb; have ilb : s.heap.IsTuple lb itsb.toArray := plb
   have e : eqD (.non) (.tup y) = eqD _ _ := rfl
   unfold eqD
   exact RcNeAt.none_tuple ilb (Nat.lt_of_le_of_lt (Nat.le_add_right _ _) hu)
  | lst y =>
   obtain ⟨lb, wsb, zu, hqb, hrb⟩ := rep_lst.mp rb; subst zu; have zb : b = Value.ref lb := vb; subst zb; obtain ⟨itsb, rvb, plb, _⟩ := I.list hqb; have ilb := plb.isList
   have e : eqD (.non) (.lst y) = eqD _ _ := rfl
   unfold eqD
   exact RcNeAt.none_list ilb (Nat.lt_of_le_of_lt (Nat.le_add_right _ _) hu)
 | .bl x, y, A, v, u, a, b, ra, rb, va, vb, hu, px, py => by
  have zv := rep_bl.mp ra; subst zv; have za : a = Value.bool x := va; subst za
  cases y with
  | dct _ _ _ => simp at py
  | ins _ _ _ => simp at py
  | exn _ _ _ => simp at py
  | non =>
   have zu := rep_non.mp rb; subst zu; have zb : b = Value.none := vb; subst zb
   have e : eqD (.bl x) (.non) = eqD _ _ := rfl
   unfold eqD
   exact RcNeAt.bool_none x
  | bl y =>
   have zu := rep_bl.mp rb; subst zu; have zb : b = Value.bool y := vb; subst zb
   have e : eqD (.bl x) (.bl y) = eqD _ _ := rfl
   unfold eqD
   exact RcNeAt.bool_bool x y
  | int y =>
   have zu := rep_int.mp rb; subst zu; obtain ⟨tb, zb⟩ : ∃ t, b = Value.int y t := vb; subst zb
   have e : eqD (.bl x) (.int y) = eqD _ _ := rfl
   unfold eqD
   exact RcNeAt.bool_int x y tb
  | str y =>
   have zu := rep_str.mp rb; subst zu; obtain ⟨tb, zb⟩ : ∃ t, b = Value.str ⟨y.toArray⟩ t := vb; subst zb
   have e : eqD (.bl x) (.str y) = eqD _ _ := rfl
   unfold eqD
   exact RcNeAt.bool_str x _ tb
  | tup y =>
   obtain ⟨lb, wsb, zu, hqb, hrb⟩ := rep_tup_mp rb; subst zu; have zb : b = Value.ref lb := vb; subst zb; obtain ⟨itsb, rvb, plb, _⟩ := I.tuple hqb; have ilb : s.heap.IsTuple lb itsb.toArray := plb
   have e : eqD (.bl x) (.tup y) = eqD _ _ := rfl
   unfold eqD
   exact RcNeAt.bool_tuple x ilb (Nat.lt_of_le_of_lt (Nat.le_add_right _ _) hu)
  | lst y =>
   obtain ⟨lb, wsb, zu, hqb, hrb⟩ := rep_lst.mp rb; subst zu; have zb : b = Value.ref lb := vb; subst zb; obtain ⟨itsb, rvb, plb, _⟩ := I.list hqb; have ilb := plb.isList
   have e : eqD (.bl x) (.lst y) = eqD _ _ := rfl
   unfold eqD
   exact RcNeAt.bool_list x ilb (Nat.lt_of_le_of_lt (Nat.le_add_right _ _) hu)
 | .int x, y, A, v, u, a, b, ra, rb, va, vb, hu, px, py => by
  have zv := rep_int.mp ra; subst zv; obtain ⟨ta, za⟩ : ∃ t, a = Value.int x t := va; subst za
  cases y with
  | dct _ _ _ => simp at py
  | ins _ _ _ => simp at py
  | exn _ _ _ => simp at py
  | non =>
   have zu := rep_non.mp rb; subst zu; have zb : b = Value.none := vb; subst zb
   have e : eqD (.int x) (.non) = eqD _ _ := rfl
   unfold eqD
   exact RcNeAt.int_none x ta
  | bl y =>
   have zu := rep_bl.mp rb; subst zu; have zb : b = Value.bool y := vb; subst zb
   have e : eqD (.int x) (.bl y) = eqD _ _ := rfl
   unfold eqD
   exact RcNeAt.int_bool x ta y
  | int y =>
   have zu := rep_int.mp rb; subst zu; obtain ⟨tb, zb⟩ : ∃ t, b = Value.int y t := vb; subst zb
   have e : eqD (.int x) (.int y) = eqD _ _ := rfl
   unfold eqD
   exact RcNeAt.int_int x ta y tb
  | str y =>
   have zu := rep_str.mp rb; subst zu; obtain ⟨tb, zb⟩ : ∃ t, b = Value.str ⟨y.toArray⟩ t := vb; subst zb
   have e : eqD (.int x) (.str y) = eqD _ _ := rfl
   unfold eqD
   exact RcNeAt.int_str x ta _ tb
  | tup y =>
   obtain ⟨lb, wsb, zu, hqb, hrb⟩ := rep_tup_mp rb; subst zu; have zb : b = Value.ref lb := vb; subst zb; obtain ⟨itsb, rvb, plb, _⟩ := I.tuple hqb; have ilb : s.heap.IsTuple lb itsb.toArray := plb
   have e : eqD (.int x) (.tup y) = eqD _ _ := rfl
   unfold eqD
   exact RcNeAt.int_tuple x ta ilb (Nat.lt_of_le_of_lt (Nat.le_add_right _ _) hu)
  | lst y =>
   obtain ⟨lb, wsb, zu, hqb, hrb⟩ := rep_lst.mp rb; subst zu; have zb : b = Value.ref lb := vb; subst zb; obtain ⟨itsb, rvb, plb, _⟩ := I.list hqb; have ilb := plb.isList
   have e : eqD (.int x) (.lst y) = eqD _ _ := rfl
   unfold eqD
   exact RcNeAt.int_list x ta ilb (Nat.lt_of_le_of_lt (Nat.le_add_right _ _) hu)
 | .str x, y, A, v, u, a, b, ra, rb, va, vb, hu, px, py => by
  have zv := rep_str.mp ra; subst zv; obtain ⟨ta, za⟩ : ∃ t, a = Value.str ⟨x.toArray⟩ t := va; subst za
  cases y with
  | dct _ _ _ => simp at py
  | ins _ _ _ => simp at py
  | exn _ _ _ => simp at py
  | non =>
   have zu := rep_non.mp rb; subst zu; have zb : b = Value.none := vb; subst zb
   have e : eqD (.str x) (.non) = eqD _ _ := rfl
   unfold eqD
   exact RcNeAt.str_none _ ta
  | bl y =>
   have zu := rep_bl.mp rb; subst zu; have zb : b = Value.bool y := vb; subst zb
   have e : eqD (.str x) (.bl y) = eqD _ _ := rfl
   unfold eqD
   exact RcNeAt.str_bool _ ta y
  | int y =>
   have zu := rep_int.mp rb; subst zu; obtain ⟨tb, zb⟩ : ∃ t, b = Value.int y t := vb; subst zb
   have e : eqD (.str x) (.int y) = eqD _ _ := rfl
   unfold eqD
   exact RcNeAt.str_int _ ta y tb
  | str y =>
   have zu := rep_str.mp rb; subst zu; obtain ⟨tb, zb⟩ : ∃ t, b = Value.str ⟨y.toArray⟩ t := vb; subst zb
   have e : eqD (.str x) (.str y) = ((⟨x.toArray⟩ : Str) == ⟨y.toArray⟩) := by rw [<- str_beq]; unfold eqD; simp
   rw [e]
   exact RcNeAt.str_str _ ta _ tb
  | tup y =>
   obtain ⟨lb, wsb, zu, hqb, hrb⟩ := rep_tup_mp rb; subst zu; have zb : b = Value.ref lb := vb; subst zb; obtain ⟨itsb, rvb, plb, _⟩ := I.tuple hqb; have ilb : s.heap.IsTuple lb itsb.toArray := plb
   have e : eqD (.str x) (.tup y) = eqD _ _ := rfl
   unfold eqD
   exact RcNeAt.str_tuple _ ta ilb (Nat.lt_of_le_of_lt (Nat.le_add_right _ _) hu)
  | lst y =>
   obtain ⟨lb, wsb, zu, hqb, hrb⟩ := rep_lst.mp rb; subst zu; have zb : b = Value.ref lb := vb; subst zb; obtain ⟨itsb, rvb, plb, _⟩ := I.list hqb; have ilb := plb.isList
   have e : eqD (.str x) (.lst y) = eqD _ _ := rfl
   unfold eqD
   exact RcNeAt.str_list _ ta ilb (Nat.lt_of_le_of_lt (Nat.le_add_right _ _) hu)
 | .tup x, y, A, v, u, a, b, ra, rb, va, vb, hu, px, py => by
  obtain ⟨la, wsa, zv, hqa, hra⟩ := rep_tup_mp ra; subst zv; have za : a = Value.ref la := va; subst za; obtain ⟨itsa, rva, pla, _⟩ := I.tuple hqa; have ila : s.heap.IsTuple la itsa.toArray := pla
  cases y with
  | dct _ _ _ => simp at py
  | ins _ _ _ => simp at py
  | exn _ _ _ => simp at py
  | non =>
   have zu := rep_non.mp rb; subst zu; have zb : b = Value.none := vb; subst zb
   have e : eqD (.tup x) (.non) = eqD _ _ := rfl
   unfold eqD
   exact RcNeAt.tuple_none ila (Nat.lt_of_le_of_lt (Nat.le_add_right _ _) hu)
  | bl y =>
   have zu := rep_bl.mp rb; subst zu; have zb : b = Value.bool y := vb; subst zb
   have e : eqD (.tup x) (.bl y) = eqD _ _ := rfl
   unfold eqD
   exact RcNeAt.tuple_bool y ila (Nat.lt_of_le_of_lt (Nat.le_add_right _ _) hu)
  | int y =>
   have zu := rep_int.mp rb; subst zu; obtain ⟨tb, zb⟩ : ∃ t, b = Value.int y t := vb; subst zb
   have e : eqD (.tup x) (.int y) = eqD _ _ := rfl
   unfold eqD
   exact RcNeAt.tuple_int y tb ila (Nat.lt_of_le_of_lt (Nat.le_add_right _ _) hu)
  | str y =>
   have zu := rep_str.mp rb; subst zu; obtain ⟨tb, zb⟩ : ∃ t, b = Value.str ⟨y.toArray⟩ t := vb; subst zb
   have e : eqD (.tup x) (.str y) = eqD _ _ := rfl
   unfold eqD
   exact RcNeAt.tuple_str _ tb ila (Nat.lt_of_le_of_lt (Nat.le_add_right _ _) hu)
  | tup y =>
   obtain ⟨lb, wsb, zu, hqb, hrb⟩ := rep_tup_mp rb; subst zu; have zb : b = Value.ref lb := vb; subst zb; obtain ⟨itsb, rvb, plb, _⟩ := I.tuple hqb; have ilb : s.heap.IsTuple lb itsb.toArray := plb
   have n1 : itsa.length = x.length := by rw [<- rva.length, hra.length]
   have n2 : itsb.length = y.length := by rw [<- rvb.length, hrb.length]
   have e : eqD (.tup x) (.tup y) = eqDs x y := by conv => lhs; unfold eqD
   have hd : dep (.tup x) = deps x + 1 := by conv => lhs; unfold dep
   rw [hd] at hu
   have hin : A.in1.units + deps x < cLine := by show A.units + 1 + deps x < cLine; omega
   rw [e]
   have e3 : eqDs x y = ((List.range (min itsa.toArray.size itsb.toArray.size)).all (pairE x y) && itsa.toArray.size == itsb.toArray.size) := by rw [<- eqDs_all, List.size_toArray, List.size_toArray, n1, n2]
   rw [e3]
   refine  (RcNeAt.tuples ila ilb (by omega) fun j j1 j2 => ?_)
   have := eqAt_reps I x y A.in1 wsa wsb itsa itsb hra hrb rva rvb hin (by simpa using px) (by simpa using py) j (by simpa using j1) (by simpa using j2)
   simpa using this
  | lst y =>
   obtain ⟨lb, wsb, zu, hqb, hrb⟩ := rep_lst.mp rb; subst zu; have zb : b = Value.ref lb := vb; subst zb; obtain ⟨itsb, rvb, plb, _⟩ := I.list hqb; have ilb := plb.isList
   have e : eqD (.tup x) (.lst y) = eqD _ _ := rfl
   unfold eqD
   exact RcNeAt.tuple_list ila ilb (Nat.lt_of_le_of_lt (Nat.le_add_right _ _) hu)
 | .lst x, y, A, v, u, a, b, ra, rb, va, vb, hu, px, py => by
  obtain ⟨la, wsa, zv, hqa, hra⟩ := rep_lst.mp ra; subst zv; have za : a = Value.ref la := va; subst za; obtain ⟨itsa, rva, pla, _⟩ := I.list hqa; have ila := pla.isList
  cases y with
  | dct _ _ _ => simp at py
  | ins _ _ _ => simp at py
  | exn _ _ _ => simp at py
  | non =>
   have zu := rep_non.mp rb; subst zu; have zb : b = Value.none := vb; subst zb
   have e : eqD (.lst x) (.non) = eqD _ _ := rfl
   unfold eqD
   exact RcNeAt.list_none ila (Nat.lt_of_le_of_lt (Nat.le_add_right _ _) hu)
  | bl y =>
   have zu := rep_bl.mp rb; subst zu; have zb : b = Value.bool y := vb; subst zb
   have e : eqD (.lst x) (.bl y) = eqD _ _ := rfl
   unfold eqD
   exact RcNeAt.list_bool y ila (Nat.lt_of_le_of_lt (Nat.le_add_right _ _) hu)
  | int y =>
   have zu := rep_int.mp rb; subst zu; obtain ⟨tb, zb⟩ : ∃ t, b = Value.int y t := vb; subst zb
   have e : eqD (.lst x) (.int y) = eqD _ _ := rfl
   unfold eqD
   exact RcNeAt.list_int y tb ila (Nat.lt_of_le_of_lt (Nat.le_add_right _ _) hu)
  | str y =>
   have zu := rep_str.mp rb; subst zu; obtain ⟨tb, zb⟩ : ∃ t, b = Value.str ⟨y.toArray⟩ t := vb; subst zb
   have e : eqD (.lst x) (.str y) = eqD _ _ := rfl
   unfold eqD
   exact RcNeAt.list_str _ tb ila (Nat.lt_of_le_of_lt (Nat.le_add_right _ _) hu)
  | tup y =>
   obtain ⟨lb, wsb, zu, hqb, hrb⟩ := rep_tup_mp rb; subst zu; have zb : b = Value.ref lb := vb; subst zb; obtain ⟨itsb, rvb, plb, _⟩ := I.tuple hqb; have ilb : s.heap.IsTuple lb itsb.toArray := plb
   have e : eqD (.lst x) (.tup y) = eqD _ _ := rfl
   unfold eqD
   exact RcNeAt.list_tuple ila ilb (Nat.lt_of_le_of_lt (Nat.le_add_right _ _) hu)
  | lst y =>
   obtain ⟨lb, wsb, zu, hqb, hrb⟩ := rep_lst.mp rb; subst zu; have zb : b = Value.ref lb := vb; subst zb; obtain ⟨itsb, rvb, plb, _⟩ := I.list hqb; have ilb := plb.isList
   have n1 : itsa.length = x.length := by rw [<- rva.length, hra.length]
   have n2 : itsb.length = y.length := by rw [<- rvb.length, hrb.length]
   have e : eqD (.lst x) (.lst y) = eqDs x y := by conv => lhs; unfold eqD
   have hd : dep (.lst x) = deps x + 1 := by conv => lhs; unfold dep
   rw [hd] at hu
   have hin : A.in1.units + deps x < cLine := by show A.units + 1 + deps x < cLine; omega
   rw [e]
   by_cases hsz : itsa.length = itsb.length
   ·have e3 : eqDs x y = (List.range itsa.toArray.size).all (pairE x y) := by rw [<- eqDs_all, List.size_toArray, n1]; simp [show x.length = y.length by omega]
    rw [e3]
    refine  (RcNeAt.lists ila ilb (by simpa using hsz) (by omega) fun j j1 j2 => ?_)
    have := eqAt_reps I x y A.in1 wsa wsb itsa itsb hra hrb rva rvb hin (by simpa using px) (by simpa using py) j (by simpa using j1) (by simpa using j2)
    simpa using this
   ·rw [eqDs_other (by omega)]
    exact  (RcNeAt.lists_lengths ila ilb (by simpa using hsz) (by omega))
 | .dct _ _ _, y, A, v, u, a, b, ra, rb, va, vb, hu, px, py => by simp at px
 | .ins _ _ _, y, A, v, u, a, b, ra, rb, va, vb, hu, px, py => by simp at px
 | .exn _ _ _, y, A, v, u, a, b, ra, rb, va, vb, hu, px, py => by simp at px
end
end Pu
namespace Pu
open PySem PySem.Spec PyProof.Rows L2
section
variable {X : Cx} {B : List Addr} {a b e : Expr} {f g : Ex} {pos : Pos}
theorem RepP.rep {K : PySem.W.Frag} {A : List Addr} {H : Hp} {d : D} {v : V} (h : RepP K A H d v) : Rep K H d v := by
 rcases h with h | ⟨a, k, o, ds, vs, e1, e2, e3, ko, q⟩
 ·exact h.mono (hide_sub _ _)
 ·subst e1 e2
  exact ko.rep e3 (q.mono (hide_sub _ _))
def rEqD (K : PySem.W.Frag) (neg : Bool) : R2 := fun v u H Q => ∃ x y, Rep K H x v /\ Rep K H y u /\ (dep x <= 64 /\ plain x = true /\ plain y = true) /\ Q (.bl (if neg then !eqD x y else eqD x y)) H
theorem op_eqD (hu : X.A.units + 64 < cLine) : OpR X (compareOp .Eq) (rEqD X.K false) := by
 intro pins s σ H v u a b Q I ra rb h
 obtain ⟨x, y, rx, ry, hd, q⟩ := h
 exact rcAt_rep I x y X.A v u a b rx ry ra rb (by omega) hd.2.1 hd.2.2 X.prog X.w X.xe _ ⟨.bl _, H, I, rfl, q⟩
theorem op_neD (hu : X.A.units + 64 < cLine) : OpR X (compareOp .NotEq) (rEqD X.K true) := by
 intro pins s σ H v u a b Q I ra rb h
 obtain ⟨x, y, rx, ry, hd, q⟩ := h
 exact rcNe_rep I x y X.A v u a b rx ry ra rb (by omega) hd.2.1 hd.2.2 X.prog X.w X.xe _ ⟨.bl _, H, I, rfl, q⟩
theorem sem_eq {K : PySem.W.Frag} : Sem2 K (rEqD K false) dEq := by
 intro A H x y d v u Q w rx ry e q
 obtain ⟨c, e⟩ := guardR_of e
 cases e
 exact ⟨x, y, rx.rep, ry.rep, c, q _ H (Same.refl _) (rep_bl.mpr rfl)⟩
theorem sem_ne {K : PySem.W.Frag} : Sem2 K (rEqD K true) dNe := by
 intro A H x y d v u Q w rx ry e q
 obtain ⟨c, e⟩ := guardR_of e
 cases e
 exact ⟨x, y, rx.rep, ry.rep, c, q _ H (Same.refl _) (rep_bl.mpr rfl)⟩
end
end Pu
namespace Pu
open PySem PySem.Spec PyProof.Rows L2 PySem.SeqAt PySem.StrLaws
theorem subAt_list (x y : List Nat) (i : Nat) : Builtin.Str.subAt ⟨x.toArray⟩ ⟨y.toArray⟩ i = ((x.drop i).take y.length == y) := by
 rw [subAt_eq]
 simp [Str.length]
theorem occ_full (s sub : Str) (hi : Nat) : ∀ (l : List Nat) (st : Array Nat × Nat), 1 <= st.1.size -> (forIn l st (occBody s sub hi 1)).run.fst = st.1
 | [], st, h => rfl
 | a :: l, st, h => by
  rw [List.forIn_cons]
  unfold occBody
  rw [if_neg (fun z => by have := z.1.1.1; omega)]
  exact occ_full s sub hi l (st.1, st.2) h
theorem occ_find (s sub : Str) (hi : Nat) : ∀ (l : List Nat) (free : Nat), (∀ i ∈ l, free <= i) ->
  (forIn l ((#[] : Array Nat), free) (occBody s sub hi 1)).run.fst.toList = (l.find? fun i => decide (i + sub.length <= hi) && Builtin.Str.subAt s sub i).toList
 | [], free, _ => rfl
 | a :: l, free, hf => by
  rw [List.forIn_cons]
  have ha : free <= a := hf a List.mem_cons_self
  by_cases hc : a + sub.length <= hi /\ Builtin.Str.subAt s sub a = true
  ·have e : (decide (a + sub.length <= hi) && Builtin.Str.subAt s sub a) = true := by rw [hc.2, decide_eq_true hc.1]; rfl
   rw [List.find?_cons_of_pos (p := fun i => decide (i + sub.length <= hi) && Builtin.Str.subAt s sub i) e]
   have e2 : occBody s sub hi 1 a ((#[] : Array Nat), free) = pure (ForInStep.yield ((#[] : Array Nat).push a, a + sub.length)) := by
    unfold occBody
    exact if_pos ⟨⟨⟨by simp, ha⟩, hc.1⟩, hc.2⟩
   rw [e2]
   show (forIn l (((#[] : Array Nat).push a), a + sub.length) (occBody s sub hi 1)).run.fst.toList = _
   rw [occ_full s sub hi l _ (by simp)]
   rfl
  ·have e : ¬ (decide (a + sub.length <= hi) && Builtin.Str.subAt s sub a) = true := fun z => hc (by simpa using z)
   rw [List.find?_cons_of_neg (p := fun i => decide (i + sub.length <= hi) && Builtin.Str.subAt s sub i) e]
   have e2 : occBody s sub hi 1 a ((#[] : Array Nat), free) = pure (ForInStep.yield ((#[] : Array Nat), free)) := by
    unfold occBody
    exact if_neg fun h => hc ⟨h.1.2, h.2⟩
   rw [e2]
   exact occ_find s sub hi l free fun i hi' => hf i (List.mem_cons_of_mem _ hi')
theorem occ_findN (x y : List Nat) (lo : Nat) : Builtin.Str.occurrences ⟨x.toArray⟩ ⟨y.toArray⟩ lo (⟨x.toArray⟩ : Str).length 1 = (findN x y lo).toList := by
 rw [occ_eq, occ_find _ _ _ _ _ (fun i hi => by simp [List.mem_range'] at hi; omega)]
 unfold findN
 simp only [subAt_list, str_len]
section
variable {X : Cx} {B : List Addr} {a b e o : Expr} {f g : Ex} {pos : Pos}
end
end Pu
namespace Pu
open PySem PySem.Spec PyProof.Rows L2 PySem.SeqAt
section
variable {X : Cx} {B : List Addr} {a b e o : Expr} {f g : Ex} {pos : Pos} {r : Exs} {es : List Expr} {apos cpos : Pos}
open Classical in
noncomputable def eqOf (K : PySem.W.Frag) (H : Hp) (x : D) (u : Value) : Bool := if ∃ d z, Rep K H d z /\ RelV z u /\ plain d = true /\ eqD d x = true then true else false
theorem some_of (x y : List Nat) : (!(Builtin.Str.occurrences ⟨x.toArray⟩ ⟨y.toArray⟩ 0 (⟨x.toArray⟩ : Str).length 1).isEmpty) = (findN x y 0).isSome := by
 rw [occ_findN]
 cases findN x y 0 <;> rfl
end
end Pu
namespace Pu
open PySem PySem.Spec PyProof.Rows L2
section
variable {X : Cx} {B : List Addr} {a b e : Expr} {f g : Ex} {pos : Pos}
theorem s_app (i : Nat) {x : Str} {p1 apos cpos : Pos} (he : PE X e (tI X.K B f)) (hN : X.N[i]? = some x := by rfl) (hv : Vis X.env.scope x := by first | exact Or.inl rfl | exact Or.inr (Or.inl rfl) | exact Or.inr (Or.inr rfl)) (hd : (x == ("__debug__" : Str)) = false := by decide)
  (hcd : (x == ("__classdict__" : Str)) = false := by decide) (hbase : attributeBase (.Name x p1) "append" X.env (eval (.Name x p1) X.env) = eval (.Name x p1) X.env := by rfl)
  (hfew : ((backTo cpos (starEach [e] X.env)).all (fun x => !x.1) && (backToKw cpos (keywordEach [] X.env)).all (fun x => x.1.isSome)
   && decide (([e] : List Expr).length + ([] : List Keyword).length + (if ([] : List Keyword).isEmpty then 0 else 1) < 30)) = true := by rfl)
  (hline : (apos.endLine == cpos.line) = true := by rfl) (hs : starEach [e] X.env = (false, eval e X.env) :: starEach [] X.env := by rfl)
  (hsw : swapsWith (.Call (.Attribute (.Name x p1) "append" apos) [e] [] cpos) none pos.line X.env = pure false := by rfl) :
  PS X (.Expr (.Call (.Attribute (.Name x p1) "append" apos) [e] [] cpos) pos) (tS X.K B (sApp i f)) := by
 refine ps_imp (ps_expr (pe_bm PySem.F.plainAttrs_list PySem.F.slot_list_append PySem.F.type_list_append mt_append (pe_var hN hv hd hcd) (pa_cons he pa_nil hs) hbase hfew hline hs rfl) hsw) ?_
 rintro Dn σ H ⟨A, st, r, rs, hr, p⟩
 obtain ⟨d, hd, h3⟩ := R.ok_of hr
 split at h3
 ·rename_i xs e1
  obtain ⟨c, h4⟩ := guardR_of h3
  cases h4
  obtain ⟨l, o, vs, e2, m, h1, ko, q, u⟩ := rs.lst i _ xs e1
  have eo : o = .lst vs := ko
  subst eo
  refine ⟨.ref l, e2, .inl ⟨rfl, vs, SqL.of h1⟩, A, st, d, rs, hd, fun v H' s rv => ?_⟩
  have ql := q.length
  refine ⟨l, vs, v, rfl, rfl, s _ _ h1, by rw [ql]; rw [big_eq] at c; exact Nat.lt_of_lt_of_le c (by decide), ?_⟩
  obtain ⟨w1, w2⟩ := (rs.mono s).write e1 e2 (k1 := .l) (ds := xs ++ [d]) (vs' := vs ++ [v]) rfl ((q.mono (Same.hide s)).append (.cons rv .nil))
  exact p A _ _ ((Le.of s).trans w2) w1
 ·cases h3
end
end Pu
namespace Pu
open PySem PySem.Spec PyProof.Rows L2
section
open PySem.SeqAt
open PySem.AutoSeq1 (wpAny_loadPart')
open PySem.MeetsSeq PySem.MeetsSeq2 PySem.MeetsSeq3
inductive LexV (A : Around) (s : Shared) : List Value -> List Value -> Bool -> Prop where
 | nn : LexV A s [] [] false
 | nc {w : Value} {ws : List Value} : LexV A s [] (w :: ws) true
 | cn {v : Value} {vs : List Value} : LexV A s (v :: vs) [] false
 | eq {v w : Value} {vs ws : List Value} {b : Bool} : EqAt A s v w true -> LexV A s vs ws b -> LexV A s (v :: vs) (w :: ws) b
 | lt {v w : Value} {vs ws : List Value} {b : Bool} : EqAt A s v w false -> (∀ (prog : Program) (wd : World) (E Q : Value -> Shared -> Prop), Q (.bool b) s -> wpAny (model prog wd) A (richCompare .Lt v w) Q E s) -> LexV A s (v :: vs) (w :: ws) b
theorem tuple_ltV (l b : Addr) (items items2 : Array Value) (n n2 : Nat) (dd dd2 : Option Addr) (sl sl2 : Array (Option Value)) (t : Bool) :
  Meets (Builtin.«tuple.__lt__» ⟨[.ref l, .ref b], []⟩)
   (fun A R s => s.heap.get? l = some { cls := .type "tuple", dict := dd, data := .seq items n, slots := sl } /\ s.heap.get? b = some { cls := .type "tuple", dict := dd2, data := .seq items2 n2, slots := sl2 } /\
    LexV A.in1 s items.toList items2.toList t /\ R (.ok (.ret (.bool t))) s) :=
 .of_wp fun prog w A R s h => by
  obtain ⟨hp, g, d, tk, os⟩ := s; obtain ⟨hl, hb, hx, h⟩ := h
  have f2 := AutoSeq1.sub_tuple_tuple
  wp_walk using wpAny_loadPart' hl, wpAny_loadPart' hb, wpAny_forIn_list _ (fun rest b s' => b.1 = none /\ s' = ⟨hp, g, d, tk, os⟩ /\ ∃ (vs ws : List Value), rest = vs.zip ws /\
   LexV A.in1 ⟨hp, g, d, tk, os⟩ vs ws t /\ vs.length + items2.size = ws.length + items.size) _
  case turn =>
   rintro ⟨y, x⟩ rest b s' ⟨hb', rfl, vs, ws, hz, hv, hlen⟩
   cases hv with
   | nn => cases hz
   | nc => rw [List.zip_nil_left] at hz; cases hz
   | cn => rw [List.zip_nil_right] at hz; cases hz
   | eq he hr =>
    rw [List.zip_cons_cons] at hz
    injection hz with hyx hrest
    injection hyx with hy hx
    subst hy hx
    simp only [List.length_cons] at hlen
    refine wpAny_bind (he prog w _ _ ?_)
    wp_walk
    exact ⟨rfl, rfl, _, _, hrest, hr, by omega⟩
   | lt he hri =>
    rw [List.zip_cons_cons] at hz
    injection hz with hyx hrest
    injection hyx with hy hx
    subst hy hx
    refine wpAny_bind (he prog w _ _ ?_)
    have hri' := hri prog w
    wp_walk using hri'
    exact ⟨_, rfl, by simpa using h⟩
  case fin =>
   rintro ⟨b1, b2⟩ s' ⟨hb', rfl, vs, ws, hz, hv, hlen⟩
   simp only at hb'
   subst hb'
   have ht : t = decide (items.size < items2.size) := by
    cases hv with
    | nn =>
     simp only [List.length_nil] at hlen
     exact (decide_eq_false (by omega)).symm
    | nc =>
     simp only [List.length_nil, List.length_cons] at hlen
     exact (decide_eq_true (by omega)).symm
    | cn =>
     simp only [List.length_nil, List.length_cons] at hlen
     exact (decide_eq_false (by omega)).symm
    | eq _ _ => rw [List.zip_cons_cons] at hz; cases hz
    | lt _ _ => rw [List.zip_cons_cons] at hz; cases hz
   rw [ht] at h
   wp_walk
   exact ⟨_, rfl, by simpa [Builtin.Tuple.tupleCompareSizes] using h⟩
  case h =>
   exact ⟨rfl, rfl, items.toList, items2.toList, rfl, hx, by simp; omega⟩
end
section
variable {X : Cx}
theorem lexV_of {pins : List (Addr × Obj)} {σ : LSt} {H : Hp} {s : Shared} (I : Inv X pins σ H s) {A : Around} : ∀ (xs ys : List D) {vs us : List V} {as bs : List Value} {t : Bool}, Reps X.K H xs vs -> Reps X.K H ys us -> Vals vs as -> Vals us bs -> A.units + deps xs < cLine -> plains xs = true -> plains ys = true -> lexD xs ys = .ok t -> LexV A s as bs t
 | [], [], _, _, _, _, _, ra, rb, va, vb, _, _, _, h => by
  have e := reps_nil.mp ra; subst e; have e := reps_nil.mp rb; subst e
  cases va; cases vb; cases h; exact .nn
 | [], _ :: _, _, _, _, _, _, ra, rb, va, vb, _, _, _, h => by
  have e := reps_nil.mp ra; subst e; obtain ⟨_, _, rfl, _⟩ := reps_cons.mp rb
  cases va; cases vb; cases h; exact .nc
 | _ :: _, [], _, _, _, _, _, ra, rb, va, vb, _, _, _, h => by
  have e := reps_nil.mp rb; subst e; obtain ⟨_, _, rfl, _⟩ := reps_cons.mp ra
  cases va; cases vb; cases h; exact .cn
 | x :: xs, y :: ys, _, _, _, _, t, ra, rb, va, vb, hu, px, py, h => by
  obtain ⟨v, r, rfl, q1, q2⟩ := reps_cons.mp ra
  obtain ⟨u, r', rfl, q3, q4⟩ := reps_cons.mp rb
  rw [deps_cons] at hu
  simp only [plains_cons, Bool.and_eq_true] at px py
  cases va with
  | cons va vas =>
   cases vb with
   | cons vb vbs =>
    have he := eqAt_rep I x y A v u _ _ q1 q3 va vb (by omega) px.1 py.1
    unfold lexD at h
    by_cases hb : eqD x y = true
    ·rw [if_pos hb] at h
     rw [hb] at he
     exact .eq he (lexV_of I xs ys q2 q4 vas vbs (by omega) px.2 py.2 h)
    ·rw [if_neg hb] at h
     rw [Bool.not_eq_true] at hb
     rw [hb] at he
     refine .lt he ?_
     cases x <;> cases y <;> first | (cases h; done) | skip
     ·cases h
      have e := rep_int.mp q1; subst e
      have e := rep_int.mp q3; subst e
      obtain ⟨t1, rfl⟩ := va
      obtain ⟨t2, rfl⟩ := vb
      exact fun prog wd E Q hq => (PyProof.Rows.lt_int hq : wpAny (model prog wd) A (compareOp .Lt _ _) Q E s)
     ·cases h
      have e := rep_str.mp q1; subst e
      have e := rep_str.mp q3; subst e
      obtain ⟨t1, rfl⟩ := va
      obtain ⟨t2, rfl⟩ := vb
      exact fun prog wd E Q hq => (PyProof.Rows.lt_str hq : wpAny (model prog wd) A (compareOp .Lt _ _) Q E s)
def rLtD (K : PySem.W.Frag) : R2 := fun x y H Q => (∃ i j, x = .int i /\ y = .int j /\ Q (.bl (decide (i < j))) H) \/ (∃ i j : List Nat, x = .str ⟨i.toArray⟩ /\ y = .str ⟨j.toArray⟩ /\ Q (.bl (decide (i < j))) H) \/
 ∃ a b vs us xs ys t, x = .ref a /\ y = .ref b /\ SqT K H a vs /\ SqT K H b us /\ Reps K H xs vs /\ Reps K H ys us /\ deps xs <= 60 /\ plains xs = true /\ plains ys = true /\ lexD xs ys = .ok t /\ Q (.bl t) H
theorem op_ltD (hu : X.A.units + 64 < cLine) : OpR X (compareOp .Lt) (rLtD X.K) := by
 intro pins s σ H x y v u Q I rx ry h
 rcases h with h | ⟨i, j, h1, h2, q⟩ | ⟨a, b, vs, us, xs, ys, t, rfl, rfl, ha, hb, ra, rb, hd, px, py, hl, q⟩
 ·exact op_lt pins s σ H x y v u Q I rx ry h
 ·exact op_lt_str pins s σ H x y v u Q I rx ry ⟨_, _, h1, h2, q⟩
 ·cases rx
  cases ry
  obtain ⟨its, r1, p1, _⟩ := I.tuple ha
  obtain ⟨its2, r2, p2, _⟩ := I.tuple hb
  have hx := lexV_of I (A := X.A.in1) xs ys ra rb r1 r2 (by show X.A.units + 1 + deps xs < cLine; omega) px py hl
  obtain ⟨⟨cls, dd, data, sl⟩, ho, hc, n, hd⟩ := id p1
  obtain ⟨⟨cls2, dd2, data2, sl2⟩, ho2, hc2, n2, hd2⟩ := id p2
  simp only at hc hd hc2 hd2
  subst hc hd hc2 hd2
  refine richCompare_meets_room (op := .Lt) ⟨_, ho, rfl⟩ ⟨_, ho2, rfl⟩ PySem.F.slot_tuple_lt PySem.F.entry_tuple_lt (PySem.F.args_tuple_lt_2 _ _) (tuple_ltV a b its.toArray its2.toArray n n2 dd dd2 sl sl2 t) ⟨ho, ho2, ?_, ?_⟩ (by omega)
  ·exact hx
  ·exact show Value.bool t ≠ Value.notImplemented /\ EP X pins σ Q (.bool t) s from ⟨(fun x => nomatch x), ⟨.bl t, H, I, rfl, q⟩⟩
theorem sem_ltD {K : PySem.W.Frag} : Sem2 K (rLtD K) dLt := by
 intro A H x y d v u Q w rx ry e q
 cases x <;> cases y <;> first | (cases e; done) | skip
 ·cases e
  exact .inl ⟨_, _, rx.int, ry.int, q _ H (Same.refl _) (rep_bl.mpr rfl)⟩
 ·cases e
  exact .inr (.inl ⟨_, _, rx.str, ry.str, q _ H (Same.refl _) (rep_bl.mpr rfl)⟩)
 ·obtain ⟨c, e⟩ := guardR_of e
  obtain ⟨t, ht, e⟩ := R.ok_of e
  cases e
  obtain ⟨a, vs, e1, h1, r1⟩ := rx.tup
  obtain ⟨b, us, e2, h2, r2⟩ := ry.tup
  exact .inr (.inr ⟨a, b, vs, us, _, _, t, e1, e2, h1, h2, r1.mono (hide_sub _ _), r2.mono (hide_sub _ _), c.1, c.2.1, c.2.2, ht, q _ H (Same.refl _) (rep_bl.mpr rfl)⟩)
end
end Pu
namespace Pu
open PySem PySem.Spec PyProof.Rows L2
structure ClsAt (K : PySem.W.Frag) (c : String) (C : Addr) : Prop where
 ns : PySem.W.nsIn K mainGlobals (Str.ofString c) = some (some (.ref C))
 cl : Cls K C
theorem ofString_inj {a b : String} (h : Str.ofString a = Str.ofString b) : a = b := by
 have h1 : (Str.ofString a).cps = (Str.ofString b).cps := by rw [h]
 rw [Str.ofString_eq_toList, Str.ofString_eq_toList] at h1
 have h2 : a.toList.map Char.toNat = b.toList.map Char.toNat := by
  have := congrArg Array.toList h1
  simpa using this
 have inj : ∀ (x y : List Char), x.map Char.toNat = y.map Char.toNat -> x = y := by
  intro x
  induction x with
  | nil => intro y h; cases y with | nil => rfl | cons _ _ => simp at h
  | cons a x ih =>
   intro y h
   cases y with
   | nil => simp at h
   | cons b y =>
    rw [List.map_cons, List.map_cons] at h
    injection h with h3 h4
    rw [ih y h4]
    congr 1
    exact Char.ext (UInt32.toNat_inj.mp h3)
 exact String.toList_inj.mp (inj _ _ h2)
section
variable {K : PySem.W.Frag} {H : Hp}
theorem lookup_fld {f : String} : ∀ {ns : List String} {ds : List D} {fs : List (Str × V)} {d : D}, fs.map (·.1) = ns.map Str.ofString -> Reps K H ds (fs.map (·.2)) -> (ns.zip ds).lookup f = some d -> ∃ v, fs.lookup (Str.ofString f) = some v /\ Rep K H d v
 | [], ds, fs, d, _, _, h => by simp at h
 | n :: ns, [], fs, d, _, _, h => by simp at h
 | n :: ns, d0 :: ds, [], d, e, _, h => by simp at e
 | n :: ns, d0 :: ds, (g, w) :: fs, d, e, r, h => by
  rw [List.map_cons, List.map_cons] at e
  injection e with e1 e2
  obtain ⟨v, r', e3, h1, h2⟩ := reps_cons.mp r
  rw [List.map_cons] at e3
  injection e3 with e4 e5
  subst e4 e5
  have e1' : g = Str.ofString n := e1
  subst e1'
  rw [List.zip_cons_cons, List.lookup_cons] at h
  rw [List.lookup_cons]
  by_cases hf : f = n
  ·subst hf
   simp only [beq_self_eq_true] at h ⊢
   cases h
   exact ⟨_, rfl, h1⟩
  ·have hb : (f == n) = false := beq_eq_false_iff_ne.mpr hf
   have hb2 : (Str.ofString f == Str.ofString n) = false := beq_eq_false_iff_ne.mpr fun z => hf (ofString_inj z)
   rw [hb] at h
   rw [hb2]
   exact lookup_fld e2 h2 h
end
section
variable {X : Cx} {B : List Addr} {a b e o : Expr} {f g : Ex} {pos : Pos}
theorem RepP.ins {K : PySem.W.Frag} {A : List Addr} {H : Hp} {c : String} {ns : List String} {ds : List D} {v : V} (h : RepP K A H (.ins c ns ds) v) : ∃ p C dx fs, v = .ref p /\ H p = some (.ins C dx fs) /\ PySem.W.nsIn K mainGlobals (Str.ofString c) = some (some (.ref C)) /\ fs.map (·.1) = ns.map Str.ofString /\ Reps K (hide A H) ds (fs.map (·.2)) := by
 rcases h with h | ⟨p, kk, o, ds', vs, e, e2, h, ko, r⟩
 ·obtain ⟨p, C, dx, fs, vs, e, q1, q2, q3, q4, r⟩ := rep_ins.mp h
  subst q4
  exact ⟨p, C, dx, fs, e, hide_sub _ _ _ _ q1, q2, q3, r⟩
 ·cases kk <;> cases e
  obtain ⟨_, C, dx, fs, rfl, q2, q3, rfl⟩ := ko
  exact ⟨p, C, dx, fs, e2, h, q2, q3, r⟩
structure MethOk (P : Program) (w : World) (K : PySem.W.Frag) (mg : Str -> Option Value) (base : Heap) (c m : String) (k np : Nat) (dv : List D) (p : List D -> R D) : Prop where
 ex : ∃ (C fa : Addr) (fd : FuncData) (ps : List Str) (dvs : List V) (ds : List Value), ClsAt K c C /\ Meth K C (Str.ofString m) fa /\ FnOk P w K mg base CX0 k fa fd ps (spI K np p) /\ Binds K fd ps ds /\ Vals dvs ds /\ ∀ H, Reps K H dv dvs
 len : ∀ ds d, p ds = .ok d -> ds.length = np
def spM (K : PySem.W.Frag) (c : String) (np : Nat) (p : List D -> R D) : Sp := fun vs H Q _ => ∃ x ws A C dx ds d, vs = .ref x :: ws /\ H x = some (.ins C dx []) /\ PySem.W.nsIn K mainGlobals (Str.ofString c) = some (some (.ref C)) /\ Own A H /\ x ∉ A /\ Reps K (hide (x :: A) H) ds ws /\ ds.length = np /\ p ds = .ok d /\
 ∀ H', Same (hide [x] H) H' -> Rep K (hide A H') d (.ref x) -> Q .non H'
structure MakeOk (P : Program) (w : World) (K : PySem.W.Frag) (mg : Str -> Option Value) (base : Heap) (c : String) (k np : Nat) (p : List D -> R D) : Prop where
 ex : ∃ (C fa : Addr) (fd : FuncData) (ps : List Str), ClsAt K c C /\ Mk K C fa /\ FnOk P w K mg base CX0 k fa fd ps (spM K c np p) /\ Binds K fd ps [] /\ mg (Str.ofString c) = some (.ref C)
 len : ∀ ds d, p ds = .ok d -> ds.length = np
theorem runI_len {c : String} {np n : Nat} {bd : Bd} (ds : List D) (d : D) (h : runI c np n bd ds = .ok d) : ds.length = np := (guardR_of (runI_of h 0)).1
end
end Pu
namespace Pu
open PySem PySem.Spec PyProof.Rows L2
section
variable {X : Cx} {B : List Addr} {scope : Scope} {elt tg iter c : Expr} {pos : Pos} {t : Tg} {it : ItE} {f u : Ex}
theorem store_end {pins : List (Addr × Obj)} {σ τ : LSt} {H3 H5 : Hp} {s3 s5 : Shared} {fp : List Addr} {C p : Addr} {m5 : Str -> Option Value} {i : Nat} {x : Str} {px : Pos} {Qf : Value -> Shared -> Prop} (hN : X.N.Nodup) (hi : X.N[i]? = some x) (hx : Loc X.env.scope x)
  (hf : X.fn x = true \/ X.env.scope.names.lookup x = some .local) (hC : s3.heap.objs.size <= C) (I3 : Inv X pins σ H3 s3) (hfp : ∀ b ∈ fp, FpOk X pins H3 b) (I5 : Inv (compCx X scope C s3 H3 fp) [] τ H5 s5) (hn5 : s5.heap.Ns C m5)
  (hQ : ∀ s', Inv X pins (σ.set i (some (.ref p))) H5 s' -> Qf .none s') : compPost (model X.prog X.w) X.A X.xe (some (assign (.Name x px) X.env)) Qf (.ref p) C (.ok .next) s5 := by
 have I5' : Inv X pins σ H5 { s5 with heap := s5.heap } := inv_end I3 hfp hC I5 (.refl ..)
 have lt : ∀ b o, s3.heap.get? b = some o -> C ≠ b := fun b o e z => Nat.lt_irrefl _ (Nat.lt_of_lt_of_le (Heap.lt_size (z ▸ e)) hC)
 have hL : C ≠ X.env.locals := fun z => Nat.lt_irrefl _ (Nat.lt_of_lt_of_le (z ▸ I3.lt) hC)
 have hc : ∀ y c, X.env.cells.lookup y = some c -> c ≠ C := fun y c e => by
  obtain ⟨v, o, ho, _⟩ := I3.cell y c e
  exact (lt c o ho).symm
 have hp : ∀ q ∈ X.pn ++ pins, q.1 ≠ C := fun q hq => (lt q.1 q.2 (I3.pin q hq).1).symm
 show wpAny _ X.A (assign (.Name x px) X.env (.ref p)) _ _ _
 refine wpAny_assign_Name (store_ok2 (v := .ref p) I5' hN hi hx rfl (fun s6 I6 ⟨a, hs, ha⟩ => ?_) hf)
 have hCa : C ≠ a := by
  rcases ha with z | z
  ·rw [z]; exact hL
  ·exact (hc x a z).symm
 refine ⟨m5, hn5.sameBut hs hCa, fun h' hs' => hQ _ ?_⟩
 exact I6.turned (t' := s6.toks) (fun b o hb e => (hs'.2 b hb).trans e) (show H5 C = none from I5.free) hL (.inr (Nat.le_trans I3.sz hC)) hc hp
theorem s_setC (i : Nat) {x : Str} {px spos : Pos} (is : List Nat) (hsub : TgSub is t) (S : CScope X scope is) (hi : L2.PI X tg iter (tIt X.K B it)) (hg : ∀ (B : List Addr) (C : Addr) (s₀ : Shared) (H₀ : Hp) (fp : List Addr), PG (compCx X scope C s₀ H₀ fp) tg (tG X.K B t))
  (he : ∀ (B : List Addr) (C : Addr) (s₀ : Shared) (H₀ : Hp) (fp : List Addr), PE (compCx X scope C s₀ H₀ fp) elt (tI X.K B f)) (hc : X.calm = true) (hN : X.N.Nodup) (hi' : X.N[i]? = some x := by rfl) (hx : Loc X.env.scope x := by first | exact Or.inl rfl | exact Or.inr rfl)
  (hsw : swapsWith (.ListComp elt [⟨tg, iter, [], 0⟩] scope pos) (some (.Name x px)) spos.line X.env = pure true := by rfl)
  (hf : X.fn x = true \/ X.env.scope.names.lookup x = some .local := by first | exact .inl rfl | exact .inr rfl | assumption) (hs : ∀ x, foldedSetIterable iter X.env x = pure x := by intro _; rfl) :
  PS X (.Assign [.Name x px] (.ListComp elt [⟨tg, iter, [], 0⟩] scope pos) spos) (tS X.K B (sSet i (eComp is t it eTrue f))) := by
 intro pins s σ H Dn I h
 obtain ⟨A, st, r, rs, hr, q⟩ := h
 obtain ⟨d, hd, h3⟩ := R.ok_of hr
 cases h3
 obtain ⟨xs, hx', h2⟩ := R.ok_of hd
 obtain ⟨hl, h3⟩ := guardR_of h2
 obtain ⟨ys, hy, h4⟩ := R.ok_of h3
 cases h4
 rw [exec_Assign_Name_used _ _ _ _ hsw]
 refine wpAny_bind (wpAny_standAt (wpAny_bind ?_))
 show wpAny _ X.A (do let _ <- comprehension (.ListComp elt [⟨tg, iter, [], 0⟩] scope pos) scope X.env _ (newList []) false (eval iter X.env) (some (assign (.Name x px) X.env))) _ _ s
 refine wpAny_bind (wpAny_mono (Q := fun _ s' => SP X pins Dn .next s') ?_ (fun _ s' hq => wpAny_pure (wpAny_pure hq)) fun _ _ e => e)
 refine comp_core (use := some (assign (.Name x px) X.env)) (Qf := fun _ s' => SP X pins Dn .next s') (Q := fun v H' => Dn.nx (σ.set i (some v)) H') (tt := tAlways) (te := tIx X.K f) (rest := fun env it p => eval elt env >>= fun x => call (.builtin "list.append") [p, x] >>= fun _ => again (.compLoop (.ListComp elt [⟨tg, iter, [], 0⟩] scope pos) 0 it p env)) S hc hi (fun C s₀ H₀ fp => pg_x fun B => hg B C s₀ H₀ fp) (fun _ _ _ => quiet_comp)
  (fun C s₀ H₀ fp it p s Q h => den0 (Y := compCx X scope C s₀ H₀ fp) h) (fun C s₀ H₀ fp it p τ H s pins vs N Q I h q => rest0 (Y := compCx X scope C s₀ H₀ fp) rfl (pe_x fun B => he B C s₀ H₀ fp) τ H s pins vs N Q I h (fun Q Q' m h => tIx_mono Q Q' m h) q) hs I
  (lc_of hsub (fun τ H Q ⟨B, A, st, k, rs, hk, q⟩ => ?_) rs hx' hl hy fun p vs H1 H' s1 hp s2 hv r => comp_e (Q := fun v H' => Dn.nx (σ.set i (some v)) H') rs (fun v H' sm rv => q A _ H' (Le.of sm) ((rs.mono sm).set i rv)) s1 hp s2 hv r) fun C p H5 s5 m5 s3 H3 fp τ hC I3 hfp I5 hn5 q5 => store_end hN hi' hx hf hC I3 hfp I5 hn5 fun s' I' => ⟨_, _, I', q5⟩
 cases hk
 exact q H (Same.refl _)
end
end Pu
namespace Pu
open PySem PySem.Spec PyProof.Rows L2
structure FunD (K : PySem.W.Frag) (x qual : Str) (st : Stmt) (dV : Value) (f : Addr) (fd : FuncData) : Prop where
 ex : ∃ (oc : Value) (od : Option Addr) (kV doc pm : Value) (an : Option Addr) (cdv ct : Value) (osl : Array (Option Value)),
  fd = PySem.W.fnOf x qual (defArgs st) (defBody st) (defScope st) dV kV doc pm an cdv ct /\ K.lookup f = some ⟨oc, od, .func fd, osl⟩ /\ PySem.W.codeIn K cdv qual = true
 kp : PySem.W.keepIn K (.ref f) = true
section
variable {P : Program} {w : World} {K : PySem.W.Frag} {mg : Str -> Option Value} {base : Heap} {x qual : Str} {st : Stmt} {dV : Value} {f : Addr} {fd : FuncData} {N ps : List Str} {k : Nat}
theorem funD_mk {oc : Value} {od an : Option Addr} {osl : Array (Option Value)} {kV doc pm cdv ct : Value} (l : K.lookup f = some ⟨oc, od, .func (PySem.W.fnOf x qual (defArgs st) (defBody st) (defScope st) dV kV doc pm an cdv ct), osl⟩)
  (c : PySem.W.codeIn K cdv qual = true) (k : PySem.W.keepIn K (.ref f) = true) : FunD K x qual st dV f (PySem.W.fnOf x qual (defArgs st) (defBody st) (defScope st) dV kV doc pm an cdv ct) := ⟨⟨oc, od, kV, doc, pm, an, cdv, ct, osl, rfl, l, c⟩, k⟩
theorem FunD.binds0 (F : FunD K x qual st .none f fd)
  (h : ∀ (kV doc pm : Value) (an : Option Addr) (cdv ct : Value) (us : List Value), us.length = ps.length -> bindArgs (PySem.W.fnOf x qual (defArgs st) (defBody st) (defScope st) .none kV doc pm an cdv ct) ⟨us, []⟩ = pure (ps.zip us)) : Binds K fd ps [] := by
 obtain ⟨oc, od, kV, doc, pm, an, cdv, ct, osl, rfl, lk, hcd⟩ := F.ex
 exact .all (h kV doc pm an cdv ct)
theorem FunD.binds {T : Addr} {o : Obj} {items : Array Value} {n m : Nat} {ds : List Value} (F : FunD K x qual st (.ref T) f fd) (hT : K.lookup T = some o) (hd : o.data = .seq items n) (hm : m + ds.length = ps.length)
  (h : ∀ (kV doc pm : Value) (an : Option Addr) (cdv ct : Value) (us : List Value), us.length = m -> ∃ k : Option (Array Value) -> Sem (List (Str × Value)), bindArgs (PySem.W.fnOf x qual (defArgs st) (defBody st) (defScope st) (.ref T) kV doc pm an cdv ct) ⟨us, []⟩ = seqItems? (.ref T) >>= k /\ k (some items) = pure (ps.zip (us ++ ds))) : Binds K fd ps ds := by
 obtain ⟨oc, od, kV, doc, pm, an, cdv, ct, osl, rfl, lk, hcd⟩ := F.ex
 intro s us KX hl
 obtain ⟨k, h1, h2⟩ := h kV doc pm an cdv ct us (by rw [List.length_append] at hl; omega)
 exact .of_defaults rfl (KX _ _ hT) hd h1 h2
theorem FunD.okX {sp : Sp} (F : FunD K x qual st dV f fd) (S : FnScope N ps (defScope st)) (len : ∀ vs H Q E, sp vs H Q E -> vs.length = ps.length)
  (hbody : ∀ (cdv : Value) (A : Around) (outer : List Env) (s : Shared) (H : Hp) (vs : List V) (Q : VK) (E : XK), Room k (A.deeper (envOfC qual (defScope st) s.heap.objs.size f cdv)) -> sp vs H Q E ->
   ∃ t, PSs (cxOf CX0 P w K mg base N qual (defScope st) f cdv A outer s H E).nox (defBody st) t /\ t { nx := fun _ H' => Q .non H', rt := Q } (L2.start N vs) H) : FnOk P w K mg base CX0 (k + 1) f fd ps sp := by
 obtain ⟨oc, od, kV, doc, pm, an, cdv, ct, osl, rfl, lk, hcd⟩ := F.ex
 refine fn_of lk hcd S len fun A outer s H vs Q E hr hsp => ?_
 obtain ⟨t, h, q⟩ := hbody cdv A outer s H vs Q E hr hsp
 exact ⟨t, h.nox, q⟩
theorem fn_iD (F : FunD K x qual st dV f fd) (S : FnScope N ps (defScope st)) (np n : Nat) (bd : Bd) (hnp : ps.length = np) (hn : N.length = n)
  (hb : ∀ (cdv : Value) (A : Around) (outer : List Env) (s : Shared) (H : Hp) (E : XK) (B : List Addr), Room k (A.deeper (envOfC qual (defScope st) s.heap.objs.size f cdv)) ->
   PSs (cxOf CX0 P w K mg base N qual (defScope st) f cdv A outer s H E).nox (defBody st) (tS K B bd)) : FnOk P w K mg base CX0 (k + 1) f fd ps (spI K np (runD np n bd)) := by
 refine F.okX S (fun vs H Q E h => ?_) (fun cdv A outer s H vs Q E hr h => ?_)
 ·obtain ⟨A, ds, d, own, r, hl, _⟩ := h
  rw [r.length, hl, hnp]
 ·obtain ⟨B, ds, d, own, r, hl, hp, q⟩ := h
  refine ⟨tS K B bd, hb cdv A outer s H E B hr, ?_⟩
  obtain ⟨_, h2⟩ := guardR_of hp
  obtain ⟨fl, hfl, h3⟩ := R.ok_of h2
  have rs := start_rs (N := N) own r
  rw [hl, hn] at rs
  refine ⟨[], _, fl, rs, hfl, ?_⟩
  have fin : ∀ {A' : List Addr} {H' : Hp}, Le [] H A' H' -> Same H H' := fun {A' H'} l => by
   unfold Le at l
   rw [hide_nil] at l
   exact l.trans (hide_sub _ _)
  cases fl with
  | nx s1 =>
   cases h3
   exact fun A' σ' H' l rs' => q _ H' (fin l) (rep_non.mpr rfl)
  | rt d' =>
   cases h3
   exact fun A' v H' l rv => q v H' (fin l) (rv.mono (hide_more fun a ha => List.mem_append_right _ ha))
  | bk s1 => exact nomatch h3
  | ct s1 => exact nomatch h3
theorem MethOk.of {c m : String} {C : Addr} {np n : Nat} {dv : List D} {bd : Bd} {ds : List Value} {dvs : List V} (hc : ClsAt K c C) (hm : Meth K C (Str.ofString m) f) (F : FnOk P w K mg base CX0 k f fd ps (spI K np (runD np n bd))) (b : Binds K fd ps ds) (v : Vals dvs ds) (r : ∀ H, Reps K H dv dvs) : MethOk P w K mg base c m k np dv (runD np n bd) :=
 ⟨⟨C, f, fd, ps, dvs, ds, hc, hm, F, b, v, r⟩, runD_len⟩
end
end Pu
namespace Pu
open PySem PySem.Spec PyProof.Rows L2 PySem.SeqAt
section
variable {X : Cx} {B : List Addr} {a b e o : Expr} {f g : Ex} {pos : Pos} {r : Exs} {es : List Expr} {apos cpos : Pos}
end
end Pu
namespace Pu
open PySem PySem.Spec PyProof.Rows L2
def cutH : List Addr -> Heap -> Heap
 | [], h => h
 | a :: l, h => (cutH l h).update a fun _ => { cls := .none, data := .freed }
theorem get_freed (h : Heap) (a : Addr) : (h.update a fun _ => { cls := .none, data := .freed }).get? a = none := by
 cases h with
 | mk objs =>
  simp only [Heap.update, Heap.get?, Array.getElem?_modify, if_true]
  cases objs[a]? <;> rfl
theorem cut_in {b : Addr} {h : Heap} : ∀ {l : List Addr}, b ∈ l -> (cutH l h).get? b = none
 | a :: l, hb => by
  by_cases e : b = a
  ·rw [e]; exact get_freed _ _
  ·unfold cutH
   rw [Heap.get?_update_ne _ _ _ _ e]
   exact cut_in ((List.mem_cons.mp hb).resolve_left e)
theorem cut_out {b : Addr} {h : Heap} : ∀ {l : List Addr}, b ∉ l -> (cutH l h).get? b = h.get? b
 | [], _ => rfl
 | a :: l, hb => by
  unfold cutH
  rw [Heap.get?_update_ne _ _ _ _ fun e => hb (by rw [e]; exact List.mem_cons_self)]
  exact cut_out fun z => hb (List.mem_cons_of_mem _ z)
theorem cut_sub (l : List Addr) (h : Heap) : (cutH l h).StaysIn h := fun b o e => by
 by_cases hb : b ∈ l
 ·rw [cut_in hb] at e; cases e
 ·rwa [cut_out hb] at e
structure Fly (C : Addr) (h0 : Heap) (H : Hp) (e : Addr) (h : Heap) : Prop where
 n0 : h0.get? e = none
 nH : H e = none
 ex : ∃ oe vs a0, h.get? e = some oe /\ oe.cls = .ref C /\ oe.data = .fields vs /\ vs[0]? = some a0 /\
  (vs[1]? = some .none \/ ∃ T oT ts, vs[1]? = some (.ref T) /\ T ≠ e /\ h.get? T = some oT /\ oT.data = .fields ts /\ ts[3]? = some .none /\ h0.get? T = none /\ H T = none)
structure FlyT (C : Addr) (h0 : Heap) (H : Hp) (e : Addr) (h : Heap) : Prop where
 n0 : h0.get? e = none
 nH : H e = none
 ex : ∃ oe vs a0 T oT ts, h.get? e = some oe /\ oe.cls = .ref C /\ oe.data = .fields vs /\ vs[0]? = some a0 /\ vs[1]? = some (.ref T) /\ T ≠ e /\ h.get? T = some oT /\ oT.data = .fields ts /\ ts[3]? = some .none /\ h0.get? T = none /\ H T = none
def Moves (h0 : Heap) (H : Hp) (fs : List Addr) (h h' : Heap) : Prop :=
 ∀ b o, h.get? b = some o -> ((∃ o0, h0.get? b = some o0) \/ ∃ u, H b = some u) -> (b ∉ fs -> h'.get? b = some o) /\ ∃ sl, h'.get? b = some { o with slots := sl }
section
variable {M : Model} {A : Around} {E : Value -> Shared -> Prop} {s : Shared} {C e L : Addr} {h0 b0 : Heap} {H : Hp} {env : Env} {outer : List Env} {Q : Unit -> Shared -> Prop}
theorem traced_fly {h h' : Heap} {l : List Addr} {fl : List Env} {a0 : Value} (hth : ∀ b o, h0.get? b = some o -> ∃ o', h.get? b = some o') (hH : ∀ b u, H b = some u -> ∃ o, h.get? b = some o) (n0 : h0.get? e = none) (nH : H e = none)
  (hl : ∀ b ∈ l, b = e \/ (h0.get? b = none /\ H b = none) \/ b ∈ frs fl) (f : h'.FunFrames (cutH l h) fl) (t : h'.TracedW (cutH l h) e (.ref C) a0) : FlyT C h0 H e h' := by
 obtain ⟨oe, vs, T, oT, ts, he, ⟨hc, hz⟩, hd, h1, hT0, hTe, hT, hdT, h3⟩ := t
 have : h0.get? T = none /\ H T = none := by
  by_cases hb : T ∈ l
  ·rcases hl T hb with z | z | z
   ·exact (hTe z).elim
   ·exact z
   ·obtain ⟨_, o, ho, hnf⟩ := f.mem z
    rw [hT] at ho
    cases ho
    exact (hnf ts hdT).elim
  ·rw [cut_out hb] at hT0
   refine ⟨?_, ?_⟩
   ·cases q : h0.get? T with
    | none => rfl
    | some o => obtain ⟨o', z⟩ := hth T o q; rw [hT0] at z; cases z
   ·cases q : H T with
    | none => rfl
    | some u => obtain ⟨o', z⟩ := hH T u q; rw [hT0] at z; cases z
 exact ⟨n0, nH, oe, vs, a0, T, oT, ts, he, hc, hd, hz, h1, hTe, hT, hdT, h3, this⟩
theorem moves_of {h h' : Heap} {l : List Addr} {fl : List Env} {bb : Heap} (hl : ∀ b ∈ l, (h0.get? b = none /\ H b = none) \/ b ∈ frs fl) (f : h.FunFrames bb fl) (k1 : (cutH l h).StaysIn h')
  (k4 : ∀ b o, h.get? b = some o -> (∀ vs, o.data ≠ .fields vs) -> ∃ sl, h'.get? b = some { o with slots := sl }) : Moves h0 H (frs fl) h h' := fun b o e hb => by
 have hk : b ∉ frs fl -> h'.get? b = some o := fun hn => k1 b o (by
  rw [cut_out fun z => ?_]; exact e
  rcases hl b z with ⟨q1, q2⟩ | q
  ·rcases hb with ⟨o0, z⟩ | ⟨u, z⟩
   ·rw [q1] at z; cases z
   ·rw [q2] at z; cases z
  ·exact hn q)
 refine ⟨hk, ?_⟩
 by_cases hn : b ∈ frs fl
 ·obtain ⟨_, o', ho, hnf⟩ := f.mem hn
  rw [e] at ho
  cases ho
  exact k4 b o e hnf
 ·exact ⟨o.slots, hk hn⟩
theorem set_fly (hth : ∀ b o, h0.get? b = some o -> ∃ o', s.heap.get? b = some o') (hH : ∀ b u, H b = some u -> ∃ o, s.heap.get? b = some o) (F : FlyT C h0 H e s.heap)
  (hQ : ∀ h', FlyT C h0 H e h' -> Moves h0 H [] s.heap h' -> Q () { s with heap := h' }) : wpAny M A (setFlight (.ref e) none) Q E s := by
 obtain ⟨n0, nH, oe, vs, a0, T, oT, ts, he, hc, hd, hz, h1, hTe, hT, hdT, h3, nT, nHT⟩ := F
 refine wpAny_setFlight_noneW (base := cutH [e, T] s.heap) (l := []) (cls := .ref C) (a0 := a0) (fl := .none) (cut_sub _ _) trivial ⟨oe, vs, T, oT, ts, he, ⟨hc, hz⟩, hd, h1, cut_in (by simp), hTe, hT, hdT, h3⟩ fun h2 m1 m2 m3 m4 => hQ h2 (traced_fly (h := s.heap) (fl := []) hth hH n0 nH (fun b hb => ?_) m2 m3) (moves_of (fl := []) (bb := s.heap) (fun b hb => ?_) trivial m1 fun b o hb hnf => ⟨o.slots, m4 b o hb hnf⟩)
 ·rcases List.mem_cons.mp hb with z | z
  ·exact .inl z
  ·exact .inr (.inl (by rw [List.mem_singleton.mp z]; exact ⟨nT, nHT⟩))
 ·rcases List.mem_cons.mp hb with z | z
  ·exact .inl (by rw [z]; exact ⟨n0, nH⟩)
  ·exact .inl (by rw [List.mem_singleton.mp z]; exact ⟨nT, nHT⟩)
end
end Pu
namespace Pu
open PySem PySem.Spec PyProof.Rows L2
theorem objOk_there {P : Program} {w : World} {H : Hp} {h : Heap} {a : Addr} {o : HO} (x : ObjOk P w H h a o) : ∃ ob, h.get? a = some ob := by
 cases o with
 | lst xs => obtain ⟨_, _, _, _, e⟩ := x; exact ⟨_, e⟩
 | tup xs => obtain ⟨_, _, _, ob, e, _⟩ := x; exact ⟨_, e⟩
 | dK kvs => obtain ⟨_, _, _, _, o, _, _, e, _⟩ := x; exact ⟨_, e⟩
 | dT kvs => obtain ⟨_, _, _, _, o, _, _, e, _⟩ := x; exact ⟨_, e⟩
 | set S n => obtain ⟨o, _, _, _, e, _⟩ := x; exact ⟨_, e⟩
 | ins C dx fs => obtain ⟨_, _, _, e, _⟩ := x; exact ⟨_, e⟩
 | own y => obtain ⟨_, e⟩ := x; exact ⟨_, e⟩
 | xd fs => obtain ⟨_, ⟨_, _, _, e, _⟩, _⟩ := x; exact ⟨_, e⟩
 | rng lo hi => obtain ⟨_, _, _, e⟩ := x; exact ⟨_, e⟩
 | frz ob u => obtain ⟨e, _⟩ := x; exact ⟨_, e⟩
 | tbl ps => exact ⟨_, (show h.get? a = some _ from x)⟩
 | met f y => exact ⟨_, (show h.get? a = some _ from x)⟩
 | ext φ => obtain ⟨_, ⟨_, e⟩, _⟩ := x; exact ⟨_, e⟩
theorem hok_there {P : Program} {w : World} {H : Hp} {h : Heap} (x : HOk P w H h) : ∀ b u, H b = some u -> ∃ o, h.get? b = some o := fun b u e => objOk_there (x b u e)
theorem moves_hok {P : Program} {w : World} {H : Hp} {h0 h h' : Heap} {fs : List Addr} (x : HOk P w H h) (m : Moves h0 H fs h h') (hf : ∀ b ∈ fs, H b = none) : HOk P w H h' := fun b u e => by
 refine (x b u e).stay (fun c v hc q => ?_) (fun _ q => q) fun _ _ q => q
 have ht : ∃ u, H c = some u := by
  rcases hc with z | z
  ·exact ⟨u, by rw [z]; exact e⟩
  ·exact ⟨_, z⟩
 obtain ⟨u', hu⟩ := ht
 exact (m c v q (.inr ⟨u', hu⟩)).1 fun hb => by rw [hf c hb] at hu; cases hu
theorem Fly.back {C e : Addr} {h0 h1 h : Heap} {H : Hp} (F : Fly C h1 H e h) (k : ∀ b o, h0.get? b = some o -> ∃ o', h1.get? b = some o') : Fly C h0 H e h := by
 have z : ∀ b, h1.get? b = none -> h0.get? b = none := fun b hb => by
  cases q : h0.get? b with
  | none => rfl
  | some o => obtain ⟨o', q'⟩ := k b o q; rw [hb] at q'; cases q'
 obtain ⟨n0, nH, oe, vs, a0, he, hc, hd, hz, ht⟩ := F
 refine ⟨z _ n0, nH, oe, vs, a0, he, hc, hd, hz, ?_⟩
 rcases ht with ht | ⟨T, oT, ts, h1', hTe, hT, hdT, h3, nT, nHT⟩
 ·exact .inl ht
 ·exact .inr ⟨T, oT, ts, h1', hTe, hT, hdT, h3, z _ nT, nHT⟩
def CX1 (P : Program) (w : World) : CXT := fun outer H s E e s' => ∃ ea C H', e = .ref ea /\ s'.os = s.os /\ AllBare s'.gens /\ Un (frs outer) [] H H' s.heap s'.heap /\ HOk P w H' s'.heap /\ Fly C s.heap H' ea s'.heap /\ E (.ref C) none H'
section
variable {X : Cx} {e : Expr} {es : List Expr} {t : TA} {W : Addr -> L2.St -> Hp -> Prop}
end
end Pu
namespace Pu
open PySem PySem.Spec PyProof.Rows L2
theorem un_moves {fs gs : List Addr} {H0 H : Hp} {h0 h h' : Heap} (u : Un fs [] H0 H h0 h) (m : Moves h0 H gs h h') (hg : ∀ b ∈ gs, b ∈ fs) : Un fs [] H0 H h0 h' := by
 have nx : ∀ b : Addr, b ∉ ([] : List Addr) := fun b z => by cases z
 refine ⟨fun b o e n hb hx => ?_, fun b o e n hb hx => ?_, fun b o e n hx => u.free b o e n hx, fun b o e hx => ?_, u.tups, u.frzs, u.tbls⟩
 ·exact (m b o (u.keep b o e n hb hx) (.inl ⟨o, e⟩)).1 fun z => hb (hg b z)
 ·obtain ⟨sl, e1⟩ := u.slot b o e n hb hx
  obtain ⟨sl2, e2⟩ := (m b _ e1 (.inl ⟨o, e⟩)).2
  exact ⟨sl2, e2⟩
 ·obtain ⟨o', e1⟩ := u.there b o e hx
  obtain ⟨sl2, e2⟩ := (m b _ e1 (.inl ⟨o, e⟩)).2
  exact ⟨_, e2⟩
structure FS (X : Cx) (pins : List (Addr × Obj)) (σ : L2.St) (H : Hp) (ea C : Addr) (s : Shared) : Prop where
 ex : ∃ Hc sc, Inv X pins σ Hc sc /\ s.os = sc.os /\ AllBare s.gens /\ Un (frs X.stack) [] Hc H sc.heap s.heap /\ HOk X.prog X.w H s.heap /\ FlyT C sc.heap H ea s.heap
section
variable {X : Cx} {pins : List (Addr × Obj)} {σ : L2.St} {H : Hp} {ea C : Addr} {s : Shared}
theorem FS.there (F : FS X pins σ H ea C s) : ∃ oe, s.heap.get? ea = some oe /\ oe.cls = .ref C := by
 obtain ⟨Hc, sc, I, os, bare, un, hok, f⟩ := F.ex
 obtain ⟨_, _, oe, _, _, _, _, _, he, hc, _⟩ := f
 exact ⟨oe, he, hc⟩
theorem FS.set {M : Model} {A : Around} {E : Value -> Shared -> Prop} {Q : Unit -> Shared -> Prop} (F : FS X pins σ H ea C s) (h : ∀ s', FS X pins σ H ea C s' -> Q () s') : wpAny M A (setFlight (.ref ea) none) Q E s := by
 obtain ⟨Hc, sc, I, os, bare, un, hok, f⟩ := F.ex
 refine set_fly (fun b o e => un.there b o e (by intro z; cases z)) (hok_there hok) f fun h' f' m => h _ ⟨Hc, sc, I, os, bare, un_moves un m (by intro b z; cases z), moves_hok hok m (by intro b z; cases z), f'⟩
end
section
variable {M : Model} {A : Around} {E : Value -> Shared -> Prop} {nm q : Str} {C N : Addr} {bs bm : List Value} {hdct : Bool} {sn : List Str} {sub : List Value} {ab : Bool} {col : Option Bool} {dd : Option Addr} {k0 k1 k2 k3 k5 : Option Value} {newId : String}
variable {nm' q' : Str} {D' N' : Addr} {bs' bm' : List Value} {hdct' : Bool} {sn' : List Str} {sub' : List Value} {ab' : Bool} {col' : Option Bool} {dd' : Option Addr} {j0 j1 j2 j3 j5 : Option Value} {newId' : String}
end
section
variable {X : Cx}
end
end Pu
namespace Pu
open PySem PySem.Spec PyProof.Rows L2
abbrev XW := D -> L2.St -> Hp -> Prop
def Exc (K : PySem.W.Frag) (B A : List Addr) (H : Hp) (sm : Bool) (st : PSt) (x : D) (W : XW) : Prop := ∀ A' st' σ' H', Le A H A' H' -> RS K B A' H' st' σ' -> (sm = true -> st' = st) -> W x σ' H'
theorem Exc.mono {K : PySem.W.Frag} {B A A1 : List Addr} {H H1 : Hp} {sm : Bool} {st : PSt} {x : D} {W : XW} (l : Le A H A1 H1) (h : Exc K B A H sm st x W) : Exc K B A1 H1 sm st x W := fun A' st' σ' H' l' => h A' st' σ' H' (l.trans l')
theorem Exc.any {K : PySem.W.Frag} {B A : List Addr} {H : Hp} {sm : Bool} {st st2 : PSt} {x : D} {W : XW} (h : Exc K B A H false st2 x W) : Exc K B A H sm st x W := fun A' st' σ' H' l r _ => h A' st' σ' H' l r fun z => nomatch z
def Out (K : PySem.W.Frag) (B A : List Addr) (H : Hp) (sm : Bool) (st : PSt) (W : XW) (Dn : Ends) (r : R Fl) : Prop := match r with
 | .ok r => Post K B A H r Dn
 | .exc x => Exc K B A H sm st x W
 | .bad => False
theorem Out.mono {K : PySem.W.Frag} {B A A1 : List Addr} {H H1 : Hp} {sm : Bool} {st : PSt} {W : XW} {Dn : Ends} {r : R Fl} (l : Le A H A1 H1) (h : Out K B A H sm st W Dn r) : Out K B A1 H1 sm st W Dn r := by
 cases r with
 | ok r => exact Post.mono l h
 | exc x => exact Exc.mono l h
 | bad => exact h
theorem Out.any {K : PySem.W.Frag} {B A : List Addr} {H : Hp} {sm : Bool} {st st2 : PSt} {W : XW} {Dn : Ends} {r : R Fl} (h : Out K B A H false st2 W Dn r) : Out K B A H sm st W Dn r := by
 cases r with
 | ok r => exact h
 | exc x => exact Exc.any h
 | bad => exact h
section
variable {X : Cx} {B : List Addr} {a b e o : Expr} {f g : Ex} {pos : Pos} {sm : Stmt} {rest : List Stmt} {bd bd' : Bd} {W : XW} {s1 s2 : Bool}
end
end Pu
namespace Pu
open PySem PySem.Spec PyProof.Rows L2
def spE (K : PySem.W.Frag) (np : Nat) (p : List D -> R D) : Sp := fun vs H Q E => ∃ A ds, Own A H /\ Reps K (hide A H) ds vs /\ ds.length = np /\ (match p ds with
 | .ok d => ∀ v H', Same H H' -> Rep K (hide A H') d v -> Q v H'
 | .exc x => ∀ C c bm H', x = .exn c [] [] -> ExcAt K c C bm -> Same H H' -> E (.ref C) none H'
 | .bad => False)
theorem calm_of {P : Program} {w : World} {K : PySem.W.Frag} {mg : Str -> Option Value} {base : Heap} {k np : Nat} {f : Addr} {fd : FuncData} {ps : List Str} {p : List D -> R D} (F : FnOk P w K mg base (CX1 P w) k f fd ps (spE K np p)) : FnOk P w K mg base CX0 k f fd ps (spI K np (pNX p)) := by
 have up : ∀ vs H Q E, spI K np (pNX p) vs H Q E -> spE K np p vs H Q E0 := by
  rintro vs H Q E ⟨A, ds, d, own, r, hl, hp, q⟩
  refine ⟨A, ds, own, r, hl, ?_⟩
  rw [R.nox_ok hp]
  exact q
 refine ⟨fun vs H Q E h => F.len vs H Q E0 (up vs H Q E h), fun A outer s H args us vs Q E hr e0 hb hv h => ?_⟩
 refine codeAny_mono (F.run A outer s H args us vs Q E0 hr e0 hb hv (up vs H Q E h)) fun r s' z => ?_
 cases r with
 | error e => obtain ⟨_, _, _, _, _, _, _, _, _, hE⟩ := z; exact hE.elim
 | ok fl => cases fl <;> exact z
structure DefOkX (P : Program) (w : World) (K : PySem.W.Frag) (mg : Str -> Option Value) (base : Heap) (x : Str) (k np : Nat) (p : List D -> R D) : Prop where
 ex : ∃ (fa : Addr) (fd : FuncData) (ps : List Str), FnOk P w K mg base (CX1 P w) k fa fd ps (spE K np p) /\ mg x = some (.ref fa) /\ PySem.W.keepIn K (.ref fa) = true /\ Binds K fd ps []
 len : ∀ ds, p ds ≠ .bad -> ds.length = np
theorem runD_len' {np n : Nat} {bd : Bd} (ds : List D) (h : runD np n bd ds ≠ .bad) : ds.length = np := by
 by_cases hl : ds.length = np
 ·exact hl
 ·exact (h (if_neg hl)).elim
theorem DefOkX.of {P : Program} {w : World} {K : PySem.W.Frag} {mg : Str -> Option Value} {base : Heap} {x : Str} {k np n : Nat} {bd : Bd} {fa : Addr} {fd : FuncData} {ps : List Str} (h : FnOk P w K mg base (CX1 P w) k fa fd ps (spE K np (runD np n bd))) (m : mg x = some (.ref fa))
  (kp : PySem.W.keepIn K (.ref fa) = true) (b : Binds K fd ps []) : DefOkX P w K mg base x k np (runD np n bd) := ⟨⟨fa, fd, ps, h, m, kp, b⟩, runD_len'⟩
theorem DefOkX.calm {P : Program} {w : World} {K : PySem.W.Frag} {mg : Str -> Option Value} {base : Heap} {x : Str} {k np : Nat} {p : List D -> R D} (h : DefOkX P w K mg base x k np p) : DefOk P w K mg base x k np (pNX p) := by
 obtain ⟨fa, fd, ps, F, m, kp, b⟩ := h.ex
 refine ⟨⟨fa, fd, ps, calm_of F, m, kp, b⟩, fun ds d e => h.len ds fun z => ?_⟩
 rw [R.nox_ok e] at z
 cases z
section
variable {X : Cx} {B : List Addr} {a b e o : Expr} {f g : Ex} {pos : Pos} {W : XW}
structure MethOkX (P : Program) (w : World) (K : PySem.W.Frag) (mg : Str -> Option Value) (base : Heap) (c m : String) (k np : Nat) (dv : List D) (p : List D -> R D) : Prop where
 ex : ∃ (C fa : Addr) (fd : FuncData) (ps : List Str) (dvs : List V) (ds : List Value), ClsAt K c C /\ Meth K C (Str.ofString m) fa /\ FnOk P w K mg base (CX1 P w) k fa fd ps (spE K np p) /\ Binds K fd ps ds /\ Vals dvs ds /\ ∀ H, Reps K H dv dvs
 len : ∀ ds, p ds ≠ .bad -> ds.length = np
theorem MethOkX.calm {P : Program} {w : World} {K : PySem.W.Frag} {mg : Str -> Option Value} {base : Heap} {c m : String} {k np : Nat} {dv : List D} {p : List D -> R D} (h : MethOkX P w K mg base c m k np dv p) : MethOk P w K mg base c m k np dv (pNX p) := by
 obtain ⟨C, fa, fd, ps, dvs, ds, hc, hm, F, bd, vd, rd⟩ := h.ex
 refine ⟨⟨C, fa, fd, ps, dvs, ds, hc, hm, calm_of F, bd, vd, rd⟩, fun ds d e => h.len ds fun z => ?_⟩
 rw [R.nox_ok e] at z
 cases z
theorem MethOkX.of {P : Program} {w : World} {K : PySem.W.Frag} {mg : Str -> Option Value} {base : Heap} {f : Addr} {fd : FuncData} {ps : List Str} {k : Nat} {c m : String} {C : Addr} {np n : Nat} {dv : List D} {bd : Bd} {ds : List Value} {dvs : List V} (hc : ClsAt K c C) (hm : Meth K C (Str.ofString m) f) (F : FnOk P w K mg base (CX1 P w) k f fd ps (spE K np (runD np n bd))) (b : Binds K fd ps ds) (v : Vals dvs ds) (r : ∀ H, Reps K H dv dvs) : MethOkX P w K mg base c m k np dv (runD np n bd) :=
 ⟨⟨C, f, fd, ps, dvs, ds, hc, hm, F, b, v, r⟩, runD_len'⟩
end
end Pu
namespace Pu
open PySem PySem.Spec PyProof.Rows L2
section
variable {X : Cx} {B : List Addr} {a b : Expr} {f g : Ex} {pos : Pos} {W : XW}
end
end Pu
namespace Pu
open PySem PySem.Spec PyProof.Rows L2 PySem.Calls Builtin Builtin.ObjectAttr Builtin.Getset_descriptor
section
variable {prog : Program} {w : World} {A : Around} {E : Value -> Shared -> Prop} {s : Shared} {K : PySem.W.Frag} {x C : Addr}
theorem exc_ty {M : Model} {h : Heap} (p : ExcOb x C h) : PySem.W.Looks M h (typeOf (.ref x)) (.ref C) := by
 obtain ⟨o, h1, h2, _⟩ := p
 exact h2 ▸ (PySem.W.Looks.ld h1).andThen .now
theorem exc_cget {R : Result -> Shared -> Prop} {tp : Value} (kin : K.In s.heap) (p : ExcOb x C s.heap) (c : ExcCl K C) (hr : R (.ok (.ret (.ref C))) s) :
  codeAny (model prog w) A (.call (.builtin "getset_descriptor.__get__") ⟨[.builtin "object.__class__", .ref x, tp], []⟩) R s := by
 obtain ⟨hp, ge, dr, tk, os⟩ := s
 have k0 := exc_ty (M := model prog w) p
 have k1 := PySem.W.looks_mroIn (M := model prog w) kin c.mr
 refine codeAny_call_builtin PySem.W.KF.slot_gs.plain PySem.W.KF.entry_gs (PySem.W.KF.slot_gs.check _ _ _ _ _ _ _ _ PySem.W.KF.type_class (PySem.W.KF.args_gs _ _ _) ?_)
 unfold Builtin.«getset_descriptor.__get__»; unfold descrGet
 rw [PySem.W.dga_obj]; refine wpAny_bind (wpAny_pure ?_)
 unfold descrGetter descrCheckInstance; unfold descrNameAndClass isInstance
 simp only [PySem.W.KF.owner_class]
 repeat lk
 refine And.intro (Code.quiet_builtin _ (by decide +kernel)) (codeAny_builtin PySem.W.KF.entry_class ?_)
 unfold Builtin.«object.__class__»; unfold shownTypeOf
 repeat lk
 exact hr
theorem exc_check {M : Model} {nameV : Value} {Q : Unit -> Shared -> Prop} (kin : K.In s.heap) (p : ExcOb x C s.heap) (c : ExcCl K C) (hq : Q () s) : wpAny M A (checkBuiltinCall "BaseException.__getattribute__" ⟨[.ref x, nameV], []⟩) Q E s := by
 obtain ⟨hp, ge, dr, tk, os⟩ := s
 have z1 : builtinKind "BaseException.__getattribute__" = some .slot := by decide +kernel
 have z2 : splitId "BaseException.__getattribute__" = some ("BaseException", "__getattribute__") := by decide +kernel
 have z3 := PySem.F.args_bexc_ga (.ref x) nameV
 have k0 := exc_ty (M := M) p
 have k1 := PySem.W.looks_mroIn (M := M) kin c.mb
 have k2 : PySem.W.Looks M hp (isInstance (.ref x) (.type "BaseException")) true := k0.andThen k1
 simp only [checkBuiltinCall, z2, z1]
 refine wpAny_bind (k2.at ?_)
 repeat (first | assumption | wp_step)
theorem exc_entry {nm : Tok} {Q : Fin -> Shared -> Prop} (kin : K.In s.heap) (p : ExcOb x C s.heap) (c : ExcCl K C) (hq : Q (.done (.ret (.ref C))) s) : wpAny (model prog w) A (Builtin.«object.__getattribute__» ⟨[.ref x, .str "__class__" nm], []⟩) Q E s := by
 obtain ⟨hp, ge, dr, tk, os⟩ := s
 have k0 := exc_ty (M := model prog w) p
 have k3 : PySem.W.Looks (model prog w) hp (find (.ref x) (.ref C) "__class__") (.bind (.builtin "getset_descriptor.__get__") (.builtin "object.__class__")) :=
  (PySem.W.looks_findIn kin c.fd).andThen ((PySem.W.looks_specialIn kin c.sp).andThen ((show PySem.W.Looks (model prog w) hp (dataDescriptor? (some (.builtin "object.__class__")) (some (.builtin "getset_descriptor.__get__"))) (some (_, _)) from (PySem.W.looks_takesIn kin c.tk).andThen .now).andThen (PySem.W.Looks.tag .now)))
 refine wpAny_bind (wpAny_pure (wpAny_bind (wpAny_pure (wpAny_bind (k0.at (wpAny_bind (k3.at ?_)))))))
 show wpAny _ _ (holding [Value.builtin "object.__class__"] (call (.builtin "getset_descriptor.__get__") [.builtin "object.__class__", .ref x, .ref C]) >>= ret) _ _ _
 refine wpAny_bind (wpAny_holding (wpAny_call (exc_cget (s := ⟨hp, ge, dr, tk, os⟩) kin p c (wpAny_pure hq))))
theorem exc_class {Q : Option Value -> Shared -> Prop} (kin : K.In s.heap) (p : ExcOb x C s.heap) (c : ExcCl K C) (hq : Q (some (.ref C)) { s with toks := s.toks + 1 }) : wpAny (model prog w) A (getAttr? (.ref x) "__class__") Q E s := by
 obtain ⟨hp, ge, dr, tk, os⟩ := s
 have k0 := exc_ty (M := model prog w) p
 have k1 := PySem.W.looks_findIn (M := model prog w) kin c.ga
 have k2 := PySem.W.looks_findIn (M := model prog w) kin c.gn
 have f3 := PySem.F.attr_ValueError.ga.bind (.ref x)
 have x2 : (Value.builtin "BaseException.__getattribute__" == Value.builtin "object.__getattribute__") = false := by decide +kernel
 have x1 : (onTheHeap (Value.ref C) && Value.builtin "BaseException.__getattribute__" == Value.builtin "object.__getattribute__") = false := by rw [x2]; rfl
 unfold getAttr?; unfold getAttrBy? getAttrBy
 refine wpAny_bind (wpAny_mkText (wpAny_bind (wpAny_attempt (wpAny_holding (wpAny_bind (k0.at (wpAny_bind (k1.at ?_))))))))
 dsimp only
 rw [x1, if_neg Bool.false_ne_true]
 unfold getAttrByItsOwn
 refine wpAny_bind (k2.at ?_)
 refine wpAny_bind (wpAny_attempt (wpAny_holding ?_))
 show wpAny _ _ (boundAndCalled (.builtin "BaseException.__getattribute__") (.ref x) _) _ _ _
 unfold boundAndCalled
 rw [f3]
 refine wpAny_bind (wpAny_pure ?_)
 show wpAny _ _ (call (.builtin "BaseException.__getattribute__") [.ref x, .str "__class__" tk]) _ _ _
 refine wpAny_call (codeAny_call_builtin PySem.F.attr_ValueError.ga.plain PySem.F.entry_bexc_ga (exc_check (s := ⟨hp, ge, dr, tk + 1, os⟩) kin p c (exc_entry (s := ⟨hp, ge, dr, tk + 1, os⟩) kin p c ?_)))
 exact PySem.W.handed_on rfl (wpAny_pure hq)
theorem kitx_exc (c : ExcCl K C) : PySem.W.KitX K (.ref x) (.ref C) (ExcOb x C) where
 ty := fun _ _ _ p => exc_ty p
 it := fun _ _ kin _ => by
  obtain ⟨cd, hc⟩ := Option.isSome_iff_exists.mp c.cl
  unfold PySem.W.clsIn at hc
  split at hc
  ·rename_i ho
   intro A' Q' E' s' k q
   unfold isType loadHead
   exact wpAny_bind (wpAny_loadPart (k _ _ (kin _ _ ho)) (wpAny_pure q))
  ·cases hc
 ne := fun h tp dd its n sl kin htp => by
  obtain ⟨cd, hc⟩ := Option.isSome_iff_exists.mp c.cl
  refine Bool.eq_false_iff.mpr fun q => ?_
  have e : C = tp := Value.ref.inj (beq_iff_eq.mp q)
  unfold PySem.W.clsIn at hc
  split at hc
  ·rename_i ho
   have z := (kin _ _ ho).symm.trans (e ▸ htp)
   cases z
  ·cases hc
 ca := fun kin p k => exc_class kin p c k
end
def IsK (K : PySem.W.Frag) (u : Value) (b : Bool) (c : String) : Prop := ∀ C, ExcIs K c C -> PySem.W.kitOne K (.ref C) u = some b
section
variable {X : Cx} {B : List Addr} {a : Expr} {es : List Expr} {f : Ex} {pos : Pos}
theorem call_isX {v2 : V} {u : Value} (hu : ∀ u', RelV v2 u' -> u' = u) : CallR X (.builtin "isinstance") (fun xs H Q => ∃ l φ C b, xs = [.ref l, v2] /\ H l = some (.ext φ) /\ (∀ h, φ h -> ExcOb l C h) /\ ExcCl X.K C /\ PySem.W.kitOne X.K (.ref C) u = some b /\ Q (.bl b) H) := by
 intro pins s σ H xs us Q I r q
 obtain ⟨l, φ, C, b, rfl, hl, hφ, hc, e, q⟩ := q
 obtain ⟨u1, u2, rfl, r1, r2⟩ := r.two
 have e1 : u1 = Value.ref l := r1
 subst e1
 rw [hu u2 r2]
 have hob := I.hok l _ hl
 exact PySem.W.kia_one (kitx_exc hc) I.kIn (hφ _ hob.1) e (fun z => nomatch z) fun tk => ⟨.bl b, H, I.tok tk, rfl, q⟩
theorem dIsX_of {yes no : List String} {x y : D} (h : dIsX yes no x = .ok y) : ∃ c n d, x = .exn c n d /\ ((c ∈ yes /\ y = .bl true) \/ (c ∈ no /\ y = .bl false)) := by
 cases x <;> first | (cases h; done) | skip
 rename_i c n d
 refine ⟨c, n, d, rfl, ?_⟩
 have h' : (if c ∈ yes then R.ok (.bl true) else if c ∈ no then .ok (.bl false) else .bad) = .ok y := h
 by_cases h1 : c ∈ yes
 ·rw [if_pos h1] at h'; cases h'; exact .inl ⟨h1, rfl⟩
 ·rw [if_neg h1] at h'
  by_cases h2 : c ∈ no
  ·rw [if_pos h2] at h'; cases h'; exact .inr ⟨h2, rfl⟩
  ·rw [if_neg h2] at h'; cases h'
theorem i_isX {n : Str} {v2 : V} {u : Value} {yes no : List String} {p0 p1 : Pos} (hu : ∀ u', RelV v2 u' -> u' = u) (h2 : PE X (.Name n p1) (tC v2)) (hm : X.mg "isinstance" = none) (hy : ∀ c ∈ yes, IsK X.K u true c) (hn : ∀ c ∈ no, IsK X.K u false c) (ha : PE X a (tP X.K B f)) (hg : Gl X "isinstance" := by rfl)
  (hs : starEach [a, .Name n p1] X.env = (false, eval a X.env) :: starEach [.Name n p1] X.env := by rfl) (hs2 : starEach [.Name n p1] X.env = (false, eval (.Name n p1) X.env) :: starEach [] X.env := by rfl) :
  PE X (.Call (.Name "isinstance" p0) [a, .Name n p1] [] pos) (tI X.K B (e1 (dIsX yes no) f)) := by
 refine pe_imp (pe_callB (call_isX hu) hg hm boot_isinstance (pa_cons ha (pa_cons h2 pa_nil hs2) hs) (he := hs)) ?_
 rintro σ H Q ⟨A, st, d, rs, hd, q⟩
 obtain ⟨x, hx, h3⟩ := R.ok_of hd
 refine ⟨A, st, x, rs, hx, fun v H1 s1 r1 => ?_⟩
 obtain ⟨c, n', d', rfl, h4⟩ := dIsX_of h3
 obtain ⟨l, φ, C, rfl, hl, hφ, hC, _⟩ := rep_exn.mp r1.rep
 rcases h4 with ⟨hc, rfl⟩ | ⟨hc, rfl⟩
 ·exact ⟨l, φ, C, true, rfl, hl, hφ, hC.ic, hy c hc C hC, q _ H1 s1 (rep_bl.mpr rfl)⟩
 ·exact ⟨l, φ, C, false, rfl, hl, hφ, hC.ic, hn c hc C hC, q _ H1 s1 (rep_bl.mpr rfl)⟩
theorem i_isXo {d : String} {D' : Addr} {yes no : List String} {p0 p1 : Pos} (hD : X.mg (Str.ofString d) = some (.ref D')) (hm : X.mg "isinstance" = none) (hy : ∀ c ∈ yes, IsK X.K (.ref D') true c) (hn : ∀ c ∈ no, IsK X.K (.ref D') false c) (ha : PE X a (tP X.K B f)) (hg : Gl X "isinstance" := by rfl) (hg2 : Gl X (Str.ofString d) := by rfl) (hdb : (Str.ofString d == ("__debug__" : Str)) = false := by decide)
  (hs : starEach [a, .Name (Str.ofString d) p1] X.env = (false, eval a X.env) :: starEach [.Name (Str.ofString d) p1] X.env := by rfl) (hs2 : starEach [.Name (Str.ofString d) p1] X.env = (false, eval (.Name (Str.ofString d) p1) X.env) :: starEach [] X.env := by rfl) :
  PE X (.Call (.Name "isinstance" p0) [a, .Name (Str.ofString d) p1] [] pos) (tI X.K B (e1 (dIsX yes no) f)) :=
 i_isX (v2 := .ref D') (fun _ h => h) (pe_glob hg2 hD rfl hdb) hm hy hn ha hg hs hs2
theorem i_isXb {T : Str} {S : String} {yes no : List String} {p0 p1 : Pos} (hmT : X.mg T = none) (hm : X.mg "isinstance" = none) (hy : ∀ c ∈ yes, IsK X.K (.type S) true c) (hn : ∀ c ∈ no, IsK X.K (.type S) false c) (ha : PE X a (tP X.K B f)) (hST : bootBuiltins T = some (.type S) := by rfl) (hg : Gl X "isinstance" := by rfl) (hgT : Gl X T := by rfl) (hnT : T ≠ "__name__" := by decide) (hdT : (T == ("__debug__" : Str)) = false := by decide)
  (hs : starEach [a, .Name T p1] X.env = (false, eval a X.env) :: starEach [.Name T p1] X.env := by rfl) (hs2 : starEach [.Name T p1] X.env = (false, eval (.Name T p1) X.env) :: starEach [] X.env := by rfl) :
  PE X (.Call (.Name "isinstance" p0) [a, .Name T p1] [] pos) (tI X.K B (e1 (dIsX yes no) f)) :=
 i_isX (v2 := .ty S) (fun _ h => h) (pe_bltn hgT hmT hST rfl hnT hdT) hm hy hn ha hg hs hs2
end
section
variable {X : Cx} {B : List Addr} {pins : List (Addr × Obj)} {σ : L2.St} {H : Hp} {s : Shared} {ea C : Addr}
theorem inv_ext {σc : L2.St} {Hc : Hp} {sc : Shared} {u : HO} (I : Inv X pins σ H s) (Ic : Inv X pins σc Hc sc) (n0 : sc.heap.get? ea = none) (nH : H ea = none) (new : ObjOk X.prog X.w (upd H ea u) s.heap ea u) : Inv X pins σ (upd H ea u) s := by
 have ne : ∀ b o, sc.heap.get? b = some o -> b ≠ ea := fun b o e z => by rw [z, n0] at e; cases e
 refine ⟨I.ok, I.os, I.bare, ⟨I.base.keep, I.base.slot, fun b o e n hx => ?_, I.base.there, fun b xs e => ?_, fun b o u e => ?_, fun b ps e => ?_⟩, I.loc, I.cell, ?_, fun x c e => ?_, fun p hp => ?_, fun b u' e => ?_, I.len⟩
 ·obtain ⟨o', e'⟩ := Ic.base.there b o e hx
  rw [upd_ne (ne b o' e')]
  exact I.base.free b o e n hx
 ·have z := I.base.tups b xs e
  rw [upd_ne (ne_of_none z nH)]; exact z
 ·have z := I.base.frzs b o u e
  rw [upd_ne (ne_of_none z nH)]; exact z
 ·obtain ⟨more, z⟩ := I.base.tbls b ps e
  exact ⟨more, by rw [upd_ne (ne_of_none z nH)]; exact z⟩
 ·obtain ⟨m, ⟨o, es, ep, ho, _⟩, _⟩ := Ic.loc
  rw [upd_ne (ne _ _ ho)]; exact I.free
 ·obtain ⟨v, o, ho, _⟩ := Ic.cell x c e
  rw [upd_ne (ne _ _ ho)]; exact I.freeC x c e
 ·obtain ⟨h1, h2, h3⟩ := I.pin p hp
  exact ⟨h1, by rw [upd_ne (ne _ _ (Ic.pin p hp).1)]; exact h2, h3⟩
 ·by_cases hb : b = ea
  ·subst hb
   rw [upd_same] at e
   cases e
   exact new
  ·rw [upd_ne hb] at e
   exact (I.hok b u' e).stay (fun c v _ q => q) (fun c q => by rw [upd_ne (ne_of_none q nH)]; exact q) fun c xs q => by rw [upd_ne (ne_of_none q nH)]; exact q
end
end Pu
namespace Pu
open PySem PySem.Spec PyProof.Rows L2
section
variable {K : PySem.W.Frag} {h : Heap} {c : String} {C D' : Addr} {bmB : List Value} {B newId initId : String}
theorem excAt_mk (F : ExcBaseFacts B newId initId bmB) (a : PySem.W.nsIn K mainGlobals (Str.ofString c) = some (some (.ref C))) (q : PySem.W.excIn K C bmB newId = true) (g1 : PySem.W.findIn K (.ref C) "__getattribute__" = some (some (.builtin "BaseException.__getattribute__"))) (g6 : PySem.W.findIn K (.ref C) "__getattr__" = some none) (g7 : PySem.W.mroIn K C (.type "BaseException") = some true) (g2 : PySem.W.findIn K (.ref C) "__class__" = some (some (.builtin "object.__class__")))
  (g3 : PySem.W.specialIn K (.builtin "object.__class__") "__get__" = some (some (.builtin "getset_descriptor.__get__"))) (g4 : PySem.W.takesIn K (.builtin "object.__class__") = some true) (g5 : PySem.W.mroIn K C (.type "object") = some true) : ∃ bm, ExcAt K c C bm := by
 have cl : (PySem.W.clsIn K C).isSome = true := by
  unfold PySem.W.mroIn at g5
  cases e : PySem.W.clsIn K C with
  | none => rw [e] at g5; cases g5
  | some cd => rfl
 have ic : ExcCl K C := ⟨g1, g6, g7, cl, g2, g3, g4, g5⟩
 unfold PySem.W.excIn at q
 split at q
 ·rename_i dd cd sl ho
  split at q
  ·rename_i C' bm k0 k1 k2 k3 n k5 hm hsl
   simp only [Bool.not_eq_true', beq_iff_eq, Bool.and_eq_true] at q
   obtain ⟨⟨⟨⟨⟨e1, e2⟩, e3⟩, e4⟩, e5⟩, e6⟩ := q
   refine ⟨bm, a, ⟨B, newId, initId, bmB, F, fun h kin => ?_⟩, ic⟩
   obtain ⟨nm, bs, mro, ns, qn, hd, sn, sub, ab, col, del⟩ := cd
   dsimp only at hm e3 e5 e6
   have hsl' : sl = #[k0, k1, k2, k3, some (.builtin n), k5] := by rw [<- Array.toArray_toList (xs := sl), hsl]
   subst hsl'
   subst e1 e2 e3 hm
   exact ⟨ns, nm, qn, bs, hd, sn, sub, ab, col, dd, k0, k1, k2, k3, k5, h.nsMap ns, kin _ _ ho, .of_isNs (PySem.W.isNs_of_in kin e5), PySem.W.nsMap_none_of_in kin e5 e6, PySem.W.tail_of_in kin e4⟩
  ·cases q
 ·cases q
theorem ns_one {x : Str} {a b : Addr} (e : PySem.W.nsIn K mainGlobals x = some (some (.ref a))) (e' : PySem.W.nsIn K mainGlobals x = some (some (.ref b))) : a = b := by
 have z := e.symm.trans e'
 injection z with z
 injection z with z
 injection z
theorem isK_mk {u : Value} {b : Bool} (a : PySem.W.nsIn K mainGlobals (Str.ofString c) = some (some (.ref C))) (e : PySem.W.kitOne K (.ref C) u = some b) : IsK K u b c := fun C1 hE => by
 have := ns_one hE.ns a
 subst this
 exact e
end
section
variable {P : Program} {w : World} {K : PySem.W.Frag} {mg : Str -> Option Value} {base : Heap} {f : Addr} {fd : FuncData} {ps : List Str} {k : Nat}
theorem MakeOk.of {c : String} {C : Addr} {np n : Nat} {bd : Bd} (hc : ClsAt K c C) (hm : Mk K C f) (F : FnOk P w K mg base CX0 k f fd ps (spM K c np (runI c np n bd))) (b : Binds K fd ps []) (m : mg (Str.ofString c) = some (.ref C)) : MakeOk P w K mg base c k np (runI c np n bd) :=
 ⟨⟨C, f, fd, ps, hc, hm, F, b, m⟩, runI_len⟩
end
section
variable {α : Type} {P : List α -> Prop}
theorem of_len0 (h : P []) (us : List α) (hl : us.length = 0) : P us := by rw [List.length_eq_zero_iff.mp hl]; exact h
theorem of_lenS {n : Nat} (h : ∀ a us, us.length = n -> P (a :: us)) (us : List α) (hl : us.length = n + 1) : P us := by
 cases us with
 | nil => cases hl
 | cons a us => exact h a us (Nat.succ.inj hl)
theorem of_len1 (h : ∀ a, P [a]) (us : List α) (hl : us.length = 1) : P us := of_lenS (fun a => of_len0 (h a)) us hl
theorem of_len2 (h : ∀ a b, P [a, b]) (us : List α) (hl : us.length = 2) : P us := of_lenS (fun a => of_len1 (P := fun us => P (a :: us)) (h a)) us hl
theorem of_len3 (h : ∀ a b c, P [a, b, c]) (us : List α) (hl : us.length = 3) : P us := of_lenS (fun a => of_len2 (P := fun us => P (a :: us)) (h a)) us hl
theorem of_len4 (h : ∀ a b c d, P [a, b, c, d]) (us : List α) (hl : us.length = 4) : P us := of_lenS (fun a => of_len3 (P := fun us => P (a :: us)) (h a)) us hl
end
end Pu
namespace Pu
open PySem PySem.Spec PyProof.Rows L2
section
variable {X : Cx} {B : List Addr} {a b e o : Expr} {es : List Expr} {f g : Ex} {r : Exs} {pos cpos apos : Pos}
end
end Pu
namespace Pu
open PySem PySem.Spec PyProof.Rows L2
def Inn (K : PySem.W.Frag) (G H : Hp) : List (List D) -> List Addr -> Prop
 | [], ps => ps = []
 | xs :: xss, ps => ∃ p r vs, ps = p :: r /\ H p = some (.lst vs) /\ Reps K G xs vs /\ Inn K G H xss r
theorem Inn.len {K : PySem.W.Frag} {G H : Hp} : ∀ {xss : List (List D)} {ps : List Addr}, Inn K G H xss ps -> ps.length = xss.length
 | [], ps, h => by rw [show ps = [] from h]; rfl
 | xs :: xss, ps, h => by
  obtain ⟨p, r, vs, rfl, _, _, h2⟩ := h
  rw [List.length_cons, List.length_cons, Inn.len h2]
theorem Inn.get {K : PySem.W.Frag} {G H : Hp} : ∀ {xss : List (List D)} {ps : List Addr} {k : Nat} {xs : List D}, Inn K G H xss ps -> xss[k]? = some xs -> ∃ p vs, ps[k]? = some p /\ H p = some (.lst vs) /\ Reps K G xs vs
 | [], _, _, _, _, e => by simp at e
 | x :: xss, ps, 0, xs, h, e => by
  obtain ⟨p, r, vs, rfl, h1, h2, _⟩ := h
  simp at e; subst e
  exact ⟨p, vs, rfl, h1, h2⟩
 | x :: xss, ps, k + 1, xs, h, e => by
  obtain ⟨p, r, vs, rfl, _, _, h3⟩ := h
  obtain ⟨p', vs', e1, e2⟩ := Inn.get (k := k) h3 (by simpa using e)
  exact ⟨p', vs', by simpa using e1, e2⟩
theorem Inn.mono {K : PySem.W.Frag} {G G' H H' : Hp} (g : Same G G') : ∀ {xss : List (List D)} {ps : List Addr}, (∀ p ∈ ps, ∀ o, H p = some o -> H' p = some o) -> Inn K G H xss ps -> Inn K G' H' xss ps
 | [], _, _, h => h
 | x :: xss, ps, k, h => by
  obtain ⟨p, r, vs, rfl, h1, h2, h3⟩ := h
  exact ⟨p, r, vs, rfl, k p List.mem_cons_self _ h1, h2.mono g, Inn.mono g (fun q hq => k q (List.mem_cons_of_mem _ hq)) h3⟩
theorem Inn.put {K : PySem.W.Frag} {G H : Hp} {ys : List D} {ws : List V} (hr : Reps K G ys ws) {p : Addr} : ∀ {xss : List (List D)} {ps : List Addr} {k : Nat}, ps.Nodup -> ps[k]? = some p -> Inn K G H xss ps -> Inn K G (upd H p (.lst ws)) (xss.set k ys) ps
 | [], ps, k, _, e, h => by rw [show ps = [] from h] at e; simp at e
 | x :: xss, ps, 0, nd, e, h => by
  obtain ⟨q, r, vs, rfl, h1, h2, h3⟩ := h
  simp at e; subst e
  exact ⟨q, r, ws, rfl, upd_same, hr, h3.mono (Same.refl _) fun z hz o e => by rw [upd_ne (fun w : z = q => (List.nodup_cons.mp nd).1 (w ▸ hz))]; exact e⟩
 | x :: xss, ps, k + 1, nd, e, h => by
  obtain ⟨q, r, vs, rfl, h1, h2, h3⟩ := h
  have e' : r[k]? = some p := by simpa using e
  have hp : p ∈ r := List.mem_of_getElem? e'
  exact ⟨q, r, vs, rfl, by rw [upd_ne (fun w : q = p => (List.nodup_cons.mp nd).1 (by rw [w]; exact hp))]; exact h1, h2, Inn.put hr (List.nodup_cons.mp nd).2 e' h3⟩
structure NS (K : PySem.W.Frag) (B A Z : List Addr) (H : Hp) (st : PSt) (σ : LSt) (i : Nat) (P : Addr) (ps : List Addr) (xss : List (List D)) : Prop where
 rs : RS K (Z ++ B) A H st σ
 no : st[i]? = some none
 at_ : σ[i]? = some (some (.ref P))
 out : H P = some (.lst (ps.map V.ref))
 inn : Inn K (hide (A ++ (Z ++ B)) H) H xss ps
 zb : ∀ z ∈ Z, z ∉ B
 zp : P ∈ Z
 zs : ∀ p ∈ ps, p ∈ Z
 nd : (P :: ps).Nodup
def LeN (Z A : List Addr) (H : Hp) (A' : List Addr) (H' : Hp) : Prop := Same (hide (Z ++ A) H) (hide (Z ++ A') H')
theorem LeN.trans {Z A A1 A2 : List Addr} {H H1 H2 : Hp} (a : LeN Z A H A1 H1) (b : LeN Z A1 H1 A2 H2) : LeN Z A H A2 H2 := Same.trans a b
theorem LeN.refl {Z A : List Addr} {H : Hp} : LeN Z A H A H := Same.refl _
theorem LeN.of {Z A A' : List Addr} {H H' : Hp} (l : Le A H A' H') : LeN Z A H A' H' := fun b o e => by
 have e1 := hide_sub _ _ _ _ e
 have hb : b ∉ Z ++ A := fun z => by rw [hide_in z] at e; cases e
 have e2 : hide A H b = some o := by rw [hide_out fun z => hb (List.mem_append_right _ z)]; exact e1
 have e3 := l b o e2
 have e4 := hide_sub _ _ _ _ e3
 have hb' : b ∉ A' := fun z => by rw [hide_in z] at e3; cases e3
 rw [hide_out fun z => (List.mem_append.mp z).elim (fun z => hb (List.mem_append_left _ z)) hb']
 exact e4
def PostN (K : PySem.W.Frag) (B A Z : List Addr) (H : Hp) (i : Nat) (P : Addr) (ps : List Addr) (r : NFl) (Dn : Ends) : Prop := match r with
 | .nx xss st => ∀ A' σ' H', LeN Z A H A' H' -> NS K B A' Z H' st σ' i P ps xss -> Dn.nx σ' H'
 | .rt d => ∀ A' v H', LeN Z A H A' H' -> Rep K (hide (A' ++ B) H') d v -> Dn.rt v H'
theorem PostN.mono {K : PySem.W.Frag} {B A Z A1 : List Addr} {H H1 : Hp} {i : Nat} {P : Addr} {ps : List Addr} {r : NFl} {Dn : Ends} (l : LeN Z A H A1 H1) (h : PostN K B A Z H i P ps r Dn) : PostN K B A1 Z H1 i P ps r Dn := by
 cases r with
 | nx x s => exact fun A' σ' H' l' => h A' σ' H' (l.trans l')
 | rt d => exact fun A' v H' l' => h A' v H' (l.trans l')
theorem NS.step {K : PySem.W.Frag} {B A Z A' : List Addr} {H H' : Hp} {st st' : PSt} {σ σ' : LSt} {i : Nat} {P : Addr} {ps : List Addr} {xss : List (List D)} (n : NS K B A Z H st σ i P ps xss) (l : Le A H A' H') (rs : RS K (Z ++ B) A' H' st' σ') (no : st'[i]? = some none) (at_ : σ'[i]? = some (some (.ref P))) : NS K B A' Z H' st' σ' i P ps xss := by
 have kp : ∀ p ∈ Z, ∀ o, H p = some o -> H' p = some o := fun p hp o e => by
  have hA : p ∉ A := fun z => n.rs.dis p z (List.mem_append_left _ hp)
  exact hide_sub _ _ _ _ (l p o (by rw [hide_out hA]; exact e))
 have g : Same (hide (A ++ (Z ++ B)) H) (hide (A' ++ (Z ++ B)) H') := fun b o e => by
  have e1 := hide_sub _ _ _ _ e
  have hb : b ∉ A ++ (Z ++ B) := fun z => by rw [hide_in z] at e; cases e
  have e3 := l b o (by rw [hide_out fun z => hb (List.mem_append_left _ z)]; exact e1)
  have hb' : b ∉ A' := fun z => by rw [hide_in z] at e3; cases e3
  rw [hide_out fun z => (List.mem_append.mp z).elim hb' fun z => hb (List.mem_append_right _ z)]
  exact hide_sub _ _ _ _ e3
 exact ⟨rs, no, at_, kp P n.zp _ n.out, n.inn.mono g fun p hp => kp p (n.zs p hp), n.zb, n.zp, n.zs, n.nd⟩
theorem NS.same {K : PySem.W.Frag} {B A Z : List Addr} {H H' : Hp} {st : PSt} {σ : LSt} {i : Nat} {P : Addr} {ps : List Addr} {xss : List (List D)} (n : NS K B A Z H st σ i P ps xss) (s : Same H H') : NS K B A Z H' st σ i P ps xss := n.step (Le.of s) (n.rs.mono s) n.no n.at_
section
variable {X : Cx} {B : List Addr} {a b e o : Expr} {f g : Ex} {pos : Pos} {sm : Stmt} {rest : List Stmt} {i : Nat} {na nb : NB} {bd : Bd}
end
end Pu
namespace Pu
open PySem PySem.Spec PyProof.Rows L2
def spF (K : PySem.W.Frag) (np : Nat) (p : List D -> R D) : Sp := fun vs H Q _ => ∃ A ds xs, Own A H /\ Reps K (hide A H) ds vs /\ ds.length = np /\ p ds = .ok (.lst xs) /\ ∀ a ws H', Same H H' -> H a = none -> H' a = some (.lst ws) -> Reps K (hide (a :: A) H') xs ws -> Q (.ref a) H'
section
variable {X : Cx} {B : List Addr} {e o : Expr} {f g : Ex} {pos : Pos} {sm : Stmt} {rest : List Stmt} {bd bd' : Bd} {i : Nat}
end
section
variable {P : Program} {w : World} {K : PySem.W.Frag} {mg : Str -> Option Value} {base : Heap} {x qual : Str} {st : Stmt} {dV : Value} {f : Addr} {fd : FuncData} {N ps : List Str} {k : Nat}
theorem thenO_lst {np n i : Nat} {bd : Bd} {ds : List D} {d : D} (h : runD np n (thenO bd i) ds = .ok d) : ∃ xs, d = .lst xs := by
 obtain ⟨_, h2⟩ := guardR_of h
 obtain ⟨fl, hfl, h3⟩ := R.ok_of h2
 unfold thenO at hfl
 split at hfl
 ·unfold sRetO at hfl
  split at hfl
  ·cases hfl; cases h3; exact ⟨_, rfl⟩
  ·cases hfl
 ·cases hfl
theorem spF_plain {p : List D -> R D} (hp : ∀ ds d, p ds = .ok d -> ∃ xs, d = .lst xs) {np : Nat} (F : FnOk P w K mg base CX0 k f fd ps (spF K np p)) : FnOk P w K mg base CX0 k f fd ps (spI K np p) := by
 have up : ∀ vs H Q E, spI K np p vs H Q E -> spF K np p vs H Q E := by
  rintro vs H Q E ⟨A, ds, d, own, r, hl, he, q⟩
  obtain ⟨xs, rfl⟩ := hp ds d he
  refine ⟨A, ds, xs, own, r, hl, he, fun a ws H' sm ha hv rv => q _ H' sm (rep_lst.mpr ⟨a, ws, rfl, SqL.of (by rw [hide_out (own.free ha)]; exact hv), rv.mono (hide_more fun b hb => List.mem_cons_of_mem _ hb)⟩)⟩
 exact ⟨fun vs H Q E h => F.len vs H Q E (up vs H Q E h), fun A outer s H args us vs Q E hr e0 hb hv h => F.run A outer s H args us vs Q E hr e0 hb hv (up vs H Q E h)⟩
end
structure MethOkF (P : Program) (w : World) (K : PySem.W.Frag) (mg : Str -> Option Value) (base : Heap) (c m : String) (k np : Nat) (dv : List D) (p : List D -> R D) : Prop where
 ex : ∃ (C fa : Addr) (fd : FuncData) (ps : List Str) (dvs : List V) (ds : List Value), ClsAt K c C /\ Meth K C (Str.ofString m) fa /\ FnOk P w K mg base CX0 k fa fd ps (spF K np p) /\ Binds K fd ps ds /\ Vals dvs ds /\ ∀ H, Reps K H dv dvs
 len : ∀ ds d, p ds = .ok d -> ds.length = np
 lst : ∀ ds d, p ds = .ok d -> ∃ xs, d = .lst xs
theorem MethOkF.of {P : Program} {w : World} {K : PySem.W.Frag} {mg : Str -> Option Value} {base : Heap} {k : Nat} {f : Addr} {fd : FuncData} {ps : List Str} {c m : String} {C : Addr} {np n i : Nat} {dv : List D} {bd : Bd} {ds : List Value} {dvs : List V} (hc : ClsAt K c C) (hm : Meth K C (Str.ofString m) f) (F : FnOk P w K mg base CX0 k f fd ps (spF K np (runD np n (thenO bd i)))) (b : Binds K fd ps ds) (v : Vals dvs ds) (r : ∀ H, Reps K H dv dvs) : MethOkF P w K mg base c m k np dv (runD np n (thenO bd i)) :=
 ⟨⟨C, f, fd, ps, dvs, ds, hc, hm, F, b, v, r⟩, runD_len, fun _ _ h => thenO_lst h⟩
theorem MethOkF.plain {P : Program} {w : World} {K : PySem.W.Frag} {mg : Str -> Option Value} {base : Heap} {c m : String} {k np : Nat} {dv : List D} {p : List D -> R D} (h : MethOkF P w K mg base c m k np dv p) : MethOk P w K mg base c m k np dv p := by
 obtain ⟨C, fa, fd, ps, dvs, ds, hc, hm, F, b, v, r⟩ := h.ex
 exact ⟨⟨C, fa, fd, ps, dvs, ds, hc, hm, spF_plain h.lst F, b, v, r⟩, h.len⟩
section
variable {X : Cx} {B : List Addr} {e o : Expr} {f g : Ex} {pos : Pos}
end
end Pu
namespace Pu
open PySem PySem.Spec PyProof.Rows L2
section
variable {X : Cx} {B : List Addr} {a : Expr} {f : Ex} {pos : Pos}
end
end Pu
namespace Pu
open PySem PySem.Spec PyProof.Rows L2
theorem same_none {H H' : Hp} (s : Same H H') {a : Addr} (h : H' a = none) : H a = none := by
 cases e : H a with
 | none => rfl
 | some o => rw [s a o e] at h; cases h
structure Two (K : PySem.W.Frag) (A : List Addr) (H0 H' : Hp) (xs ys : List D) (p a b : Addr) (vs ws : List V) : Prop where
 sm : Same H0 H'
 na : H0 a = none
 nb : H0 b = none
 np : H0 p = none
 ne : a ≠ b
 ha : H' a = some (.lst vs)
 hb : H' b = some (.lst ws)
 hp : H' p = some (.tup [.ref a, .ref b])
 rx : Reps K (hide (a :: b :: A) H') xs vs
 ry : Reps K (hide (a :: b :: A) H') ys ws
theorem Two.back {K : PySem.W.Frag} {A A0 : List Addr} {H H0 H' : Hp} {xs ys : List D} {p a b : Addr} {vs ws : List V} (t : Two K A H0 H' xs ys p a b vs ws) (s : Same H H0) (h : ∀ c ∈ A0, c ∈ A) : Two K A0 H H' xs ys p a b vs ws :=
 have hm : Same (hide (a :: b :: A) H') (hide (a :: b :: A0) H') := hide_more fun c hc => by
  rcases List.mem_cons.mp hc with rfl | hc
  ·exact List.mem_cons_self
  ·rcases List.mem_cons.mp hc with rfl | hc
   ·exact List.mem_cons_of_mem _ List.mem_cons_self
   ·exact List.mem_cons_of_mem _ (List.mem_cons_of_mem _ (h c hc))
 ⟨s.trans t.sm, same_none s t.na, same_none s t.nb, same_none s t.np, t.ne, t.ha, t.hb, t.hp, t.rx.mono hm, t.ry.mono hm⟩
theorem Two.rep {K : PySem.W.Frag} {A : List Addr} {H0 H' : Hp} {xs ys : List D} {p a b : Addr} {vs ws : List V} (t : Two K A H0 H' xs ys p a b vs ws) (w : Own A H0) : Rep K (hide A H') (.tup [.lst xs, .lst ys]) (.ref p) := by
 have hm : Same (hide (a :: b :: A) H') (hide A H') := hide_more fun c hc => List.mem_cons_of_mem _ (List.mem_cons_of_mem _ hc)
 refine rep_tupD.mpr ⟨p, _, rfl, (by rw [hide_out (w.free t.np)]; exact t.hp), ?_⟩
 refine .cons (rep_lst.mpr ⟨a, vs, rfl, SqL.of (by rw [hide_out (w.free t.na)]; exact t.ha), t.rx.mono hm⟩) (.cons (rep_lst.mpr ⟨b, ws, rfl, SqL.of (by rw [hide_out (w.free t.nb)]; exact t.hb), t.ry.mono hm⟩) .nil)
section
variable {X : Cx} {B : List Addr} {e e1 e2 o : Expr} {f g : Ex} {pos : Pos} {sm : Stmt} {rest : List Stmt} {bd bd' : Bd} {W : XW} {s1 : Bool}
end
def spE2 (K : PySem.W.Frag) (np : Nat) (p : List D -> R D) : Sp := fun vs H Q E => ∃ A ds, Own A H /\ Reps K (hide A H) ds vs /\ ds.length = np /\ (match p ds with
 | .ok d => ∃ xs ys, d = .tup [.lst xs, .lst ys] /\ ∀ p a b vs ws H', Two K A H H' xs ys p a b vs ws -> Q (.ref p) H'
 | .exc x => ∀ C c bm H', x = .exn c [] [] -> ExcAt K c C bm -> Same H H' -> E (.ref C) none H'
 | .bad => False)
section
variable {P : Program} {w : World} {K : PySem.W.Frag} {mg : Str -> Option Value} {base : Heap} {x qual : Str} {st : Stmt} {dV : Value} {fa : Addr} {fd : FuncData} {N ps : List Str} {k np n : Nat} {bd : Bd} {f : Ex} {p : List D -> R D}
theorem thenT_two {ds : List D} {d : D} (h : runD np n (thenT bd f) ds = .ok d) : ∃ xs ys, d = .tup [.lst xs, .lst ys] := by
 obtain ⟨_, h2⟩ := guardR_of h
 obtain ⟨fl, hfl, h3⟩ := R.ok_of h2
 unfold thenT at hfl
 split at hfl
 ·split at hfl
  ·cases hfl; cases h3; exact ⟨_, _, rfl⟩
  ·cases hfl
 ·cases hfl
 ·cases hfl
theorem spE2_plain (hp : ∀ ds d, p ds = .ok d -> ∃ xs ys, d = .tup [.lst xs, .lst ys]) (F : FnOk P w K mg base (CX1 P w) k fa fd ps (spE2 K np p)) : FnOk P w K mg base (CX1 P w) k fa fd ps (spE K np p) := by
 have up : ∀ vs H Q E, spE K np p vs H Q E -> spE2 K np p vs H Q E := by
  rintro vs H Q E ⟨A, ds, own, r, hl, q⟩
  refine ⟨A, ds, own, r, hl, ?_⟩
  cases he : p ds with
  | ok d =>
   rw [he] at q
   obtain ⟨xs, ys, rfl⟩ := hp ds d he
   exact ⟨xs, ys, rfl, fun p a b vs ws H' t => q _ H' t.sm (t.rep own)⟩
  | exc x => rw [he] at q; exact q
  | bad => rw [he] at q; exact q
 exact ⟨fun vs H Q E h => F.len vs H Q E (up vs H Q E h), fun A outer s H args us vs Q E hr e0 hb hv h => F.run A outer s H args us vs Q E hr e0 hb hv (up vs H Q E h)⟩
end
structure MethOkT (P : Program) (w : World) (K : PySem.W.Frag) (mg : Str -> Option Value) (base : Heap) (c m : String) (k np : Nat) (dv : List D) (p : List D -> R D) : Prop where
 ex : ∃ (C fa : Addr) (fd : FuncData) (ps : List Str) (dvs : List V) (ds : List Value), ClsAt K c C /\ Meth K C (Str.ofString m) fa /\ FnOk P w K mg base (CX1 P w) k fa fd ps (spE2 K np p) /\ Binds K fd ps ds /\ Vals dvs ds /\ ∀ H, Reps K H dv dvs
 len : ∀ ds, p ds ≠ .bad -> ds.length = np
 two : ∀ ds d, p ds = .ok d -> ∃ xs ys, d = .tup [.lst xs, .lst ys]
theorem MethOkT.of {P : Program} {w : World} {K : PySem.W.Frag} {mg : Str -> Option Value} {base : Heap} {f : Addr} {fd : FuncData} {ps : List Str} {k : Nat} {c m : String} {C : Addr} {np n : Nat} {dv : List D} {bd : Bd} {g : Ex} {ds : List Value} {dvs : List V} (hc : ClsAt K c C) (hm : Meth K C (Str.ofString m) f) (F : FnOk P w K mg base (CX1 P w) k f fd ps (spE2 K np (runD np n (thenT bd g)))) (b : Binds K fd ps ds) (v : Vals dvs ds) (r : ∀ H, Reps K H dv dvs) : MethOkT P w K mg base c m k np dv (runD np n (thenT bd g)) :=
 ⟨⟨C, f, fd, ps, dvs, ds, hc, hm, F, b, v, r⟩, runD_len', fun _ _ h => thenT_two h⟩
theorem MethOkT.plain {P : Program} {w : World} {K : PySem.W.Frag} {mg : Str -> Option Value} {base : Heap} {c m : String} {k np : Nat} {dv : List D} {p : List D -> R D} (h : MethOkT P w K mg base c m k np dv p) : MethOkX P w K mg base c m k np dv p := by
 obtain ⟨C, fa, fd, ps, dvs, ds, hc, hm, F, b, v, r⟩ := h.ex
 exact ⟨⟨C, fa, fd, ps, dvs, ds, hc, hm, spE2_plain h.two F, b, v, r⟩, h.len⟩
section
variable {X : Cx} {B : List Addr} {e e1 e2 o : Expr} {f g : Ex} {pos : Pos}
end
section
variable {X : Cx} {B : List Addr} {e o : Expr} {f g : Ex} {pos : Pos}
end
end Pu
namespace Pu
open PySem PySem.Spec PyProof.Rows L2
section
variable {X : Cx} {B : List Addr} {a b e : Expr} {f g : Ex} {pos : Pos}
end
end Pu
namespace Pu
open PySem PySem.Spec PyProof.Rows L2
def noH : Hp := fun _ => none
def tC (K : PySem.W.Frag) (B : List Addr) (f : Ex) : TE := fun σ H Q => ∃ A st d xs, RS K B A H st σ /\ f st = .ok d /\ dCopy2 d = .ok (.lst xs) /\ ∀ P ps H', Same H H' -> (∀ p ∈ P :: ps, H p = none) -> (P :: ps).Nodup -> H' P = some (.lst (ps.map V.ref)) -> Inn K noH H' (xs.map unL) ps -> Q (.ref P) H'
theorem Inn.snoc {K : PySem.W.Frag} {G H : Hp} {ys : List D} {n : Addr} {ws : List V} (hn : H n = some (.lst ws)) (hr : Reps K G ys ws) : ∀ {xss : List (List D)} {ps : List Addr}, Inn K G H xss ps -> Inn K G H (xss ++ [ys]) (ps ++ [n])
 | [], ps, h => by rw [show ps = [] from h]; exact ⟨n, [], ws, rfl, hn, hr, rfl⟩
 | x :: xss, ps, h => by
  obtain ⟨p, r, vs, rfl, h1, h2, h3⟩ := h
  exact ⟨p, r ++ [n], vs, rfl, h1, h2, Inn.snoc hn hr h3⟩
section
variable {X : Cx} {B : List Addr} {scope : Scope} {iter : Expr} {pos pl p0 p1 p2 : Pos} {f : Ex} {r : Str} {j : Nat}
end
end Pu
namespace Pu
open PySem PySem.Spec PyProof.Rows L2
section
variable {X : Cx} {pos p0 p1 : Pos} {r : Str}
end
end Pu
namespace Pu
open PySem PySem.Spec PyProof.Rows L2
structure RM (K : PySem.W.Frag) (H0 : Hp) (x : Addr) (H : Hp) (st : PSt) (σ : LSt) : Prop where
 rs : RS K [] [x] H st σ
 sm : Same (hide [x] H0) H
 x0 : (H0 x).isSome = true
 fr : ∀ n c ns xs, st[0]? = some (some (.o (.i n c ns) xs)) -> σ[0]? = some (some (.ref x)) /\ ∀ C dx fs, H x = some (.ins C dx fs) -> ∀ Z, Own Z H0 -> Reps K (hide Z H) xs (fs.map (·.2))
theorem RM.mono {K : PySem.W.Frag} {H0 : Hp} {x : Addr} {H H' : Hp} {st : PSt} {σ : LSt} (m : RM K H0 x H st σ) (s : Same H H') : RM K H0 x H' st σ :=
 ⟨m.rs.mono s, m.sm.trans s, m.x0, fun n c ns xs e => by
  obtain ⟨h1, h2⟩ := m.fr n c ns xs e
  obtain ⟨a, o, vs, e1, _, h3, ko, _⟩ := m.rs.lst 0 _ _ e
  rw [h1] at e1; cases e1
  obtain ⟨_, C0, dx0, fs0, rfl, _⟩ := ko
  refine ⟨h1, fun C dx fs h Z hZ => ?_⟩
  have h' := s _ _ h3
  rw [h] at h'; cases h'
  exact (h2 _ _ _ h3 Z hZ).mono (Same.hide s)⟩
theorem RM.own {K : PySem.W.Frag} {H0 : Hp} {x : Addr} {H : Hp} {st : PSt} {σ : LSt} (m : RM K H0 x H st σ) {Z : List Addr} (hZ : Own Z H0) : Own Z H := fun z hz => by
 by_cases e : z = x
 ·rw [e]; exact m.rs.own x (by simp)
 ·obtain ⟨u, hu⟩ := Option.isSome_iff_exists.mp (hZ z hz)
  rw [m.sm z u (by rw [hide_out (by simpa using e)]; exact hu)]; rfl
section
variable {X : Cx} {a b e o : Expr} {f g : Ex} {pos : Pos} {sm : Stmt} {rest : List Stmt} {bd bd' : Bd} {W : XW} {H0 : Hp} {x : Addr}
end
def spMX (K : PySem.W.Frag) (c : String) (np : Nat) (p : List D -> R D) : Sp := fun vs H Q E => ∃ x ws A C dx ds, vs = .ref x :: ws /\ H x = some (.ins C dx []) /\ PySem.W.nsIn K mainGlobals (Str.ofString c) = some (some (.ref C)) /\ Own A H /\ x ∉ A /\ Reps K (hide [x] H) ds ws /\ ds.length = np /\ (match p ds with
 | .ok d => ∀ H', Same (hide [x] H) H' -> Rep K (hide A H') d (.ref x) -> Q .non H'
 | .exc e => ∀ C c bm H', e = .exn c [] [] -> ExcAt K c C bm -> Same (hide [x] H) H' -> E (.ref C) none H'
 | .bad => False)
structure MakeOkX (P : Program) (w : World) (K : PySem.W.Frag) (mg : Str -> Option Value) (base : Heap) (c : String) (k np : Nat) (p : List D -> R D) : Prop where
 ex : ∃ (C fa : Addr) (fd : FuncData) (ps : List Str), ClsAt K c C /\ Mk K C fa /\ FnOk P w K mg base (CX1 P w) k fa fd ps (spMX K c np p) /\ Binds K fd ps [] /\ mg (Str.ofString c) = some (.ref C)
 len : ∀ ds, p ds ≠ .bad -> ds.length = np
theorem runIX_len {c : String} {np n : Nat} {bd : Bd} (ds : List D) (h : runIX c np n bd ds ≠ .bad) : ds.length = np := by
 have e := runIX_of h 0
 by_cases hl : ds.length = np
 ·exact hl
 ·exact (h (by rw [<- e]; exact if_neg hl)).elim
theorem MakeOkX.of {P : Program} {w : World} {K : PySem.W.Frag} {mg : Str -> Option Value} {base : Heap} {f : Addr} {fd : FuncData} {ps : List Str} {k : Nat} {c : String} {C : Addr} {np n : Nat} {bd : Bd} (hc : ClsAt K c C) (hm : Mk K C f) (F : FnOk P w K mg base (CX1 P w) k f fd ps (spMX K c np (runIX c np n bd))) (b : Binds K fd ps []) (m : mg (Str.ofString c) = some (.ref C)) : MakeOkX P w K mg base c k np (runIX c np n bd) :=
 ⟨⟨C, f, fd, ps, hc, hm, F, b, m⟩, runIX_len⟩
def spMC (K : PySem.W.Frag) (c : String) (np : Nat) (p : List D -> R D) : Sp := fun vs H Q _ => ∃ x ws A C dx ds d, vs = .ref x :: ws /\ H x = some (.ins C dx []) /\ PySem.W.nsIn K mainGlobals (Str.ofString c) = some (some (.ref C)) /\ Own A H /\ x ∉ A /\ Reps K (hide [x] H) ds ws /\ ds.length = np /\ p ds = .ok d /\
 ∀ H', Same (hide [x] H) H' -> Rep K (hide A H') d (.ref x) -> Q .non H'
theorem calmM_of {P : Program} {w : World} {K : PySem.W.Frag} {mg : Str -> Option Value} {base : Heap} {k np : Nat} {c : String} {f : Addr} {fd : FuncData} {ps : List Str} {p : List D -> R D} (F : FnOk P w K mg base (CX1 P w) k f fd ps (spMX K c np p)) : FnOk P w K mg base CX0 k f fd ps (spMC K c np (pNX p)) := by
 have up : ∀ vs H Q E, spMC K c np (pNX p) vs H Q E -> spMX K c np p vs H Q E0 := by
  rintro vs H Q E ⟨x, ws, A, C, dx, ds, d, e, hx, hns, own, hxA, r, hl, hp, q⟩
  refine ⟨x, ws, A, C, dx, ds, e, hx, hns, own, hxA, r, hl, ?_⟩
  rw [R.nox_ok hp]
  exact q
 refine ⟨fun vs H Q E h => F.len vs H Q E0 (up vs H Q E h), fun A outer s H args us vs Q E hr e0 hb hv h => ?_⟩
 refine codeAny_mono (F.run A outer s H args us vs Q E0 hr e0 hb hv (up vs H Q E h)) fun r s' z => ?_
 cases r with
 | error e => obtain ⟨_, _, _, _, _, _, _, _, _, hE⟩ := z; exact hE.elim
 | ok fl => cases fl <;> exact z
theorem MakeOkX.calm {P : Program} {w : World} {K : PySem.W.Frag} {mg : Str -> Option Value} {base : Heap} {c : String} {k np : Nat} {p : List D -> R D} (h : MakeOkX P w K mg base c k np p) : MakeOk P w K mg base c k np (pNX p) := by
 obtain ⟨C, fa, fd, ps, hc, hm, F, b, m⟩ := h.ex
 have G := calmM_of F
 have up : ∀ vs H Q E, spM K c np (pNX p) vs H Q E -> spMC K c np (pNX p) vs H Q E := by
  rintro vs H Q E ⟨x, ws, A, C, dx, ds, d, e, hx, hns, own, hxA, r, hl, hp, q⟩
  exact ⟨x, ws, A, C, dx, ds, d, e, hx, hns, own, hxA, r.mono (hide_more fun a ha => by rw [List.mem_singleton.mp ha]; exact List.mem_cons_self), hl, hp, q⟩
 refine ⟨⟨C, fa, fd, ps, hc, hm, ⟨fun vs H Q E h => G.len vs H Q E (up vs H Q E h), fun A outer s H args us vs Q E hr e0 hb hv h => G.run A outer s H args us vs Q E hr e0 hb hv (up vs H Q E h)⟩, b, m⟩, fun ds d e => h.len ds fun z => ?_⟩
 rw [R.nox_ok e] at z
 cases z
section
variable {X : Cx} {B : List Addr} {a b e o : Expr} {f g : Ex} {pos : Pos} {W : XW}
end
end Pu
namespace Pu
open PySem PySem.Spec PyProof.Rows L2
section
variable {K : PySem.W.Frag} {B A Z : List Addr} {H H' : Hp} {st : PSt} {σ : LSt}
end
section
variable {X : Cx} {B : List Addr} {a b e o : Expr} {f g : Ex} {pos : Pos} {sm : Stmt} {rest : List Stmt} {i : Nat} {na nb : NB} {bd : Bd}
end
section
variable {X : Cx} {B : List Addr} {scope : Scope} {iter : Expr} {pos pl p0 p1 p2 : Pos} {f : Ex} {r : Str} {rest : List Stmt} {i : Nat} {nb : NB}
end
end Pu
namespace Pu
open PySem PySem.Spec PyProof.Rows L2
open Builtin
section
variable {prog : Program} {w : World} {A : Around} {E : Value -> Shared -> Prop} {s : Shared}
variable {z TI TO i1 i2 l : Addr} {fp : List Addr} {n k1 k2 : Nat} {P : Nat -> Value -> Prop} {St : Nat -> Heap -> Prop} {ys : Array Value} {y a b : Value}
end
section
variable {prog : Program} {w : World} {A : Around} {E : Value -> Shared -> Prop} {s : Shared}
end
section
variable {X : Cx} {B : List Addr} {a b : Expr} {f g : Ex} {pos : Pos}
end
end Pu
namespace Pu
open PySem PySem.Spec PyProof.Rows L2
section
variable {X : Cx} {B : List Addr} {a b e : Expr} {f g : Ex} {pos p0 p1 q : Pos}
end
end Pu
namespace Pu
open PySem PySem.Spec PyProof.Rows L2
section
variable {X : Cx} {B : List Addr} {a b e o : Expr} {f g : Ex} {pos apos cpos : Pos}
theorem vals_ints : ∀ {l : List Int} {us : List Value}, Vals (l.map V.int) us -> ∀ (j : Nat) (h : j < us.length), ∃ i t, l[j]? = some i /\ us[j] = .int i t
 | [], us, r, j, h => by cases r; simp at h
 | i :: l, us, r, j, h => by
  cases r with
  | cons ra rb =>
   obtain ⟨t, rfl⟩ := ra
   cases j with
   | zero => exact ⟨i, t, rfl, rfl⟩
   | succ j =>
    obtain ⟨i', t', h1, h2⟩ := vals_ints rb j (by simpa using h)
    exact ⟨i', t', by simpa using h1, by simpa using h2⟩
end
end Pu
namespace Pu
open PySem PySem.Spec PyProof.Rows L2
section
open PySem.SeqAt
open PySem.AutoSeq1 (wpAny_loadPart')
open PySem.MeetsSeq PySem.MeetsSeq2 PySem.MeetsSeq3
inductive LexW (A : Around) (s : Shared) : List Value -> List Value -> Bool -> Prop where
 | nn : LexW A s [] [] true
 | nc {w : Value} {ws : List Value} : LexW A s [] (w :: ws) true
 | cn {v : Value} {vs : List Value} : LexW A s (v :: vs) [] false
 | eq {v w : Value} {vs ws : List Value} {b : Bool} : EqAt A s v w true -> LexW A s vs ws b -> LexW A s (v :: vs) (w :: ws) b
 | lt {v w : Value} {vs ws : List Value} {b : Bool} : EqAt A s v w false -> (∀ (prog : Program) (wd : World) (E Q : Value -> Shared -> Prop), Q (.bool b) s -> wpAny (model prog wd) A (richCompare .LtE v w) Q E s) -> LexW A s (v :: vs) (w :: ws) b
end
section
variable {X : Cx}
end
end Pu
namespace Pu
open PySem PySem.Spec PyProof.Rows L2
section
variable {X : Cx} {B : List Addr} {a : Expr} {f : Ex} {pos p0 : Pos}
end
section
variable {X : Cx} {B : List Addr} {scope : Scope} {elt tg iter c : Expr} {pos : Pos} {t : Tg} {it : ItE} {f u : Ex}
end
end Pu
namespace Pu
open PySem PySem.Spec PyProof.Rows L2
section
variable {X : Cx} {B : List Addr} {a : Expr} {f : Ex} {pos : Pos}
end
end Pu
namespace Pu
open PySem PySem.Spec PyProof.Rows L2
section
variable {X : Cx} {B : List Addr} {a b : Expr} {f g : Ex} {pos : Pos} {W : XW}
end
end Pu
namespace Pu
section
open PySem PySem.Spec PyProof.Rows L2
variable {X : Cx} {B : List Addr} {a b : Expr} {f g : Ex} {pos : Pos}
theorem cmulI_of {i j : Int} (c : (-18446744073709551616 < i /\ i < 18446744073709551616) \/ (-18446744073709551616 < j /\ j < 18446744073709551616)) : CMul i j := by
 unfold CMul
 omega
theorem i_mulI (ha : PE X a (tP X.K B f)) (hb : PE X b (tP X.K B g)) : PE X (.BinOp a .Mult b pos) (tI X.K B (e2 dMulI f g)) := by
 refine i_op op_mul ?_ ha hb
 intro A H x y d v u Q w rx ry e q
 unfold dMulI at e
 split at e
 ·obtain ⟨c, e⟩ := guardR_of e
  cases e
  exact ⟨_, _, rx.int, ry.int, cmulI_of c, q _ H (Same.refl _) (rep_int.mpr rfl)⟩
 ·cases e
end
end Pu
namespace Pu
open PySem PySem.Spec PyProof.Rows L2
section
variable {X : Cx} {B : List Addr} {scope : Scope} {elt tg iter : Expr} {pos : Pos} {t : Tg} {it : ItE} {f g h : Ex} {rest : List Stmt} {i : Nat} {nb : NB}
end
end Pu
namespace Pu
open PySem PySem.Spec PyProof.Rows L2
section
variable {X : Cx} {pins : List (Addr × Obj)} {σ : List (Option V)} {H H' : Hp} {s : Shared} {h' : Heap}
end
section
variable {X : Cx} {B : List Addr} {a e : Expr} {es : List Expr} {f : Ex} {pos p0 apos cpos : Pos} {sm : Stmt} {rest : List Stmt} {bd bd' : Bd} {r : Exs}
end
section
variable {P : Program} {w : World} {K : PySem.W.Frag} {mg : Str -> Option Value} {base : Heap} {x qual : Str} {st : Stmt} {dV : Value} {f : Addr} {fd : FuncData} {N ps : List Str} {k : Nat}
theorem thenR_lst {np n : Nat} {bd : Bd} {g : Ex} (ds : List D) (d : D) (h : runD np n (thenR bd g) ds = .ok d) : ∃ xs, d = .lst xs := by
 obtain ⟨_, h2⟩ := guardR_of h
 obtain ⟨fl, hfl, h3⟩ := R.ok_of h2
 unfold thenR at hfl
 split at hfl
 ·obtain ⟨d, hd, h4⟩ := R.ok_of hfl
  split at h4
  ·cases h4; cases h3; exact ⟨_, rfl⟩
  ·cases h4
 ·cases hfl
end
structure DefOkF (P : Program) (w : World) (K : PySem.W.Frag) (mg : Str -> Option Value) (base : Heap) (x : Str) (k np : Nat) (p : List D -> R D) : Prop where
 ex : ∃ (fa : Addr) (fd : FuncData) (ps : List Str), FnOk P w K mg base CX0 k fa fd ps (spF K np p) /\ mg x = some (.ref fa) /\ PySem.W.keepIn K (.ref fa) = true /\ Binds K fd ps []
 len : ∀ ds d, p ds = .ok d -> ds.length = np
 lst : ∀ ds d, p ds = .ok d -> ∃ xs, d = .lst xs
theorem DefOkF.of {P : Program} {w : World} {K : PySem.W.Frag} {mg : Str -> Option Value} {base : Heap} {x : Str} {k np n : Nat} {bd : Bd} {g : Ex} {fa : Addr} {fd : FuncData} {ps : List Str} (h : FnOk P w K mg base CX0 k fa fd ps (spF K np (runD np n (thenR bd g)))) (m : mg x = some (.ref fa))
  (kp : PySem.W.keepIn K (.ref fa) = true) (b : Binds K fd ps []) : DefOkF P w K mg base x k np (runD np n (thenR bd g)) := ⟨⟨fa, fd, ps, h, m, kp, b⟩, runD_len, thenR_lst⟩
theorem DefOkF.plain {P : Program} {w : World} {K : PySem.W.Frag} {mg : Str -> Option Value} {base : Heap} {x : Str} {k np : Nat} {p : List D -> R D} (h : DefOkF P w K mg base x k np p) : DefOk P w K mg base x k np p := by
 obtain ⟨fa, fd, ps, F, m, kp, bd⟩ := h.ex
 exact ⟨⟨fa, fd, ps, spF_plain h.lst F, m, kp, bd⟩, h.len⟩
section
variable {X : Cx} {B : List Addr} {e : Expr} {es : List Expr} {r : Exs} {pos p0 : Pos}
end
section
variable {X : Cx} {B : List Addr} {e : Expr} {pos : Pos} {f : Ex}
end
end Pu
namespace Pu
open PySem PySem.Spec PyProof.Rows L2 PySem.Calls Builtin Builtin.ObjectAttr
def underVE : List Value -> Bool
 | [.type a, .type b, .type c, .type d] => a == "ValueError" && (b == "Exception" && (c == "BaseException" && d == "object"))
 | .ref _ :: r => underVE r
 | _ => false
theorem refuse_ve (self : Value) : ∀ {l : List Value}, underVE l = true -> refuseLoop self "__setattr__" l = pure ()
 | [.type a, .type b, .type c, .type d], e => by
  have e' : (a == "ValueError" && (b == "Exception" && (c == "BaseException" && d == "object"))) = true := e
  simp only [Bool.and_eq_true, beq_iff_eq] at e'
  obtain ⟨rfl, rfl, rfl, rfl⟩ := e'
  exact PySem.F.store_ValueError.passes self
 | .ref c :: r, e => by rw [refuseLoop_ref]; exact refuse_ve self (by cases r <;> exact e)
theorem ve_has : ∀ {l : List Value}, underVE l = true -> l.contains (.type "object") = true
 | [.type a, .type b, .type c, .type d], e => by
  have e' : (a == "ValueError" && (b == "Exception" && (c == "BaseException" && d == "object"))) = true := e
  simp only [Bool.and_eq_true, beq_iff_eq] at e'
  obtain ⟨rfl, rfl, rfl, rfl⟩ := e'
  decide
 | .ref c :: r, e => by rw [List.contains_cons, ve_has (l := r) (by cases r <;> exact e), Bool.or_true]
def xOver (K : PySem.W.Frag) (C : Addr) : Bool := (PySem.W.clsIn K C).any fun cd => underVE cd.mro && cd.hasDict
section
variable {prog : Program} {w : World} {A : Around} {E : Value -> Shared -> Prop} {R : Result -> Shared -> Prop} {s : Shared} {K : PySem.W.Frag} {x dx C : Addr} {mA : Str -> Option Value} {name : Str} {v : Value} {ox : Obj}
theorem xsa_open {od : Option Obj} {tk : Tok} (X : K.In s.heap) (I : PySem.W.InstAt s.heap x ox C od) (hp : xOver K C = true) (ht : PySem.W.takerIn K C name = some none)
  (h : ∀ b, wpAny (model prog w) A.in1 (storeInOwnDict (.ref x) (.ref C) (.str name tk) name v b)
   (fun fin s' => match fin with | .done f => R (.ok f) s' | .again c' => c'.quiet = true /\ codeAny (model prog w) A c' R s') (fun e s' => R (.error e) s') s) :
  codeAny (model prog w) A (.call (.builtin "object.__setattr__") ⟨[.ref x, .str name tk, v], []⟩) R s := by
 have SF := PySem.F.store_object
 obtain ⟨cd, hc, ho⟩ := PySem.W.any_some hp
 rw [Bool.and_eq_true] at ho
 have ne : cd.mro.isEmpty = false := by cases q : cd.mro with | nil => rw [q] at ho; cases ho.1 | cons _ _ => rfl
 have sub : PySem.W.Looks (model prog w) s.heap (isInstance (.ref x) (.type "object")) true := I.type.andThen (PySem.W.looks_mroIn X (by unfold PySem.W.mroIn; rw [hc, Option.bind_some, if_neg (by rw [ne]; decide), ve_has ho.1]))
 refine codeAny_call_builtin SF.slot.plain SF.entry (@PySem.W.check_slot (model prog w) _ _ s "object.__setattr__" "object" "__setattr__" (.ref x) [.str name tk, v] [] _ SF.kind SF.split sub (SF.args (.ref x) (.str name tk) v) ?_)
 obtain ⟨attr, ha, hr⟩ := Option.bind_eq_some_iff.mp ht
 have hm : PySem.W.Looks (model prog w) s.heap (mroOf (.ref C)) cd.mro := (PySem.W.looks_clsIn X hc).andThen .now
 have L3 : PySem.W.Looks (model prog w) s.heap (storeTaker? attr) none := by
  cases attr with
  | none => cases hr; exact .now
  | some a =>
   obtain ⟨b, hb, e⟩ := Option.map_eq_some_iff.mp hr
   refine (PySem.W.looks_takesIn X hb).andThen ?_
   cases b with
   | true => cases e
   | false => exact .now
 rw [PySem.W.osa_eq, refuse_eq]
 refine wpAny_bind (wpAny_bind (I.type.here (wpAny_bind (hm.here ?_))))
 rw [refuse_ve _ ho.1]
 refine wpAny_pure (wpAny_bind (I.type.here (wpAny_bind ((PySem.W.looks_findIn X ha).here (wpAny_bind (L3.here ?_))))))
 exact h _
theorem xset_dict {ns : List Str} {Q : Unit -> Shared -> Prop} (X : K.In s.heap) (hx : s.heap.get? x = some ox) (hcl : ox.cls = .ref C) (hno : PySem.W.notCls ox = true) (hd : ox.dict = some dx) (hN : s.heap.Ns1 dx mA)
  (hs : PySem.W.findIn K (.ref C) "__setattr__" = some (some (.builtin "object.__setattr__"))) (hp : xOver K C = true) (ht : PySem.W.takerIn K C name = some none)
  (hw : PySem.Within mA ns) (hsz : ns.length <= sizeLine)
  (h : ∀ h', h'.Ns1 dx (fun y => if y = name then some v else mA y) -> Heap.SameBut dx s.heap h' -> Q () { s with heap := h', toks := s.toks + 2 }) :
  wpAny (model prog w) A (setAttr (.ref x) name v) Q E s := by
 obtain ⟨od, ho, hl⟩ := lookIn_ns hN
 have J : PySem.W.InstAt s.heap x ox C (some od) := ⟨hx, hcl, hno, by rw [hd]; exact ho⟩
 refine PySem.W.set_plain X J hs (xsa_open (s := { s with toks := s.toks + 1 }) X J hp ht fun b => ?_)
 obtain ⟨cd, hc, hd'⟩ := PySem.W.any_some hp
 rw [Bool.and_eq_true] at hd'
 obtain ⟨oc, odi, oda, osl⟩ := ox
 dsimp only at hcl hd
 subst hcl hd
 refine wpAny_bind (wpAny_pure (wpAny_bind (wpAny_bind (wpAny_loadPart hx (wpAny_bind (PySem.W.Looks.here (s := { s with toks := s.toks + 1 }) (PySem.W.looks_clsIn X hc) ?_))))))
 rw [hd'.2]
 refine wpAny_pure (a := some dx) (wpAny_bind (wpAny_pure (wpAny_bind ?_)))
 refine wpAny_nsSet1 (s := { s with toks := s.toks + 1 }) hN fun h' hn2 hs2 => ?_
 obtain ⟨oD, esD, epD, hoD, hdD, hcD⟩ := hn2.count (PySem.Within.cons name v hw)
 refine wpAny_bind (wpAny_lookBehind hoD (by rw [hdD]; exact pastItsLine_dict (Nat.le_trans hcD (by rw [List.length_cons]; omega))) ?_)
 exact wpAny_pure (h _ hn2 hs2)
theorem xset_first {Q : Unit -> Shared -> Prop} (X : K.In s.heap) (hx : s.heap.get? x = some ox) (hcl : ox.cls = .ref C) (hno : PySem.W.notCls ox = true) (hd : ox.dict = none)
  (hs : PySem.W.findIn K (.ref C) "__setattr__" = some (some (.builtin "object.__setattr__"))) (hp : xOver K C = true) (ht : PySem.W.takerIn K C name = some none)
  (h : ∀ h', h'.get? x = some { ox with dict := some s.heap.objs.size } -> h'.Ns1 s.heap.objs.size (fun y => if y = name then some v else none) -> (∀ b o, b ≠ x -> s.heap.get? b = some o -> h'.get? b = some o) -> Q () { s with heap := h', toks := s.toks + 2 }) :
  wpAny (model prog w) A (setAttr (.ref x) name v) Q E s := by
 have J : PySem.W.InstAt s.heap x ox C none := ⟨hx, hcl, hno, by rw [hd]; exact True.intro⟩
 refine PySem.W.set_plain X J hs (xsa_open (s := { s with toks := s.toks + 1 }) X J hp ht fun b => ?_)
 obtain ⟨cd, hc, hd'⟩ := PySem.W.any_some hp
 rw [Bool.and_eq_true] at hd'
 obtain ⟨hp0, g, dr, tk, os⟩ := s
 obtain ⟨oc, odi, oda, osl⟩ := ox
 dsimp only at hcl hd
 subst hcl hd
 refine wpAny_bind (wpAny_pure (wpAny_bind (wpAny_bind (wpAny_loadPart hx (wpAny_bind (PySem.W.Looks.here (PySem.W.looks_clsIn X hc) ?_))))))
 rw [hd'.2]
 have hx₁ : (hp0.push { cls := .type "dict", data := .dict #[] }).get? x = some ⟨.ref C, none, oda, osl⟩ := Heap.get?_push_of_some _ hx
 have hxs : x ≠ hp0.objs.size := Nat.ne_of_lt (Heap.lt_size hx)
 have hfr : (⟨.ref C, some hp0.objs.size, oda, osl⟩ : Obj).isFreed = false := by
  have z := (Heap.get?_some_iff.mp hx).2
  cases oda <;> first | rfl | exact z
 have hx' : ((hp0.push { cls := .type "dict", data := .dict #[] }).update x fun o => { cls := o.cls, dict := some hp0.objs.size, data := o.data, slots := o.slots }).get? x = some ⟨.ref C, some hp0.objs.size, oda, osl⟩ := Heap.get?_update_self _ hx₁ hfr
 have hgd : ((hp0.push { cls := .type "dict", data := .dict #[] }).update x fun o => { cls := o.cls, dict := some hp0.objs.size, data := o.data, slots := o.slots }).get? hp0.objs.size
   = some { cls := .type "dict", data := .dict #[] } := (Heap.get?_update_ne _ _ _ _ hxs.symm).trans (Heap.get?_push_at rfl rfl)
 have hnd : ((hp0.push { cls := .type "dict", data := .dict #[] }).update x fun o => { cls := o.cls, dict := some hp0.objs.size, data := o.data, slots := o.slots }).Ns hp0.objs.size (fun _ => none) :=
  ⟨_, #[], _, hgd, rfl, fun e he => absurd he (by simp), fun _ => rfl⟩
 have fin : wpAny (model prog w) A.in1 (storeInDict hp0.objs.size (.str name tk) name v)
   (fun fin s' => match fin with | .done f => (match (Except.ok f : Result) with | .ok (.ret _) => Q () s' | .ok _ => False | .error e => E e s') | .again c' => c'.quiet = true /\ codeAny (model prog w) A c' (fun r s' => match r with | .ok (.ret _) => Q () s' | .ok _ => False | .error e => E e s') s') (fun e s' => match (Except.error e : Result) with | .ok (.ret _) => Q () s' | .ok _ => False | .error e => E e s')
   ⟨(hp0.push { cls := .type "dict", data := .dict #[] }).update x fun o => { cls := o.cls, dict := some hp0.objs.size, data := o.data, slots := o.slots }, g, dr, tk + 1, os⟩ := by
  unfold storeInDict newKeyGuard
  refine wpAny_bind (wpAny_pure (wpAny_bind (wpAny_nsSet1 (Heap.Ns1.of_empty hnd) fun h' hn' hs => ?_)))
  obtain ⟨oD, esD, epD, hoD, hdD, hcD⟩ := hn'.count (Within.cons name v Within.nil)
  refine wpAny_bind (wpAny_lookBehind hoD (by rw [hdD]; exact pastItsLine_dict (Nat.le_trans hcD (by rw [List.length_cons, List.length_nil, sizeLine_eq]; omega))) ?_)
  exact wpAny_pure (h h' ((hs.2 x hxs).trans hx') hn' fun b o hb e => (hs.2 b (Nat.ne_of_lt (Heap.lt_size e))).trans ((Heap.get?_update_ne _ _ _ _ hb).trans (Heap.get?_push_of_some _ e)))
 cases oda <;> first
  | (cases hno; done)
  | (refine wpAny_bind (wpAny_alloc' ?_)
     refine wpAny_bind (wpAny_update' hx₁ ?_)
     exact wpAny_pure fin)
theorem xget {od : Option Obj} {expr : Bool} {Q : Value -> Shared -> Prop} (kin : K.In s.heap) (I : PySem.W.InstAt s.heap x ox C od) (c : ExcCl K C) (hf : PySem.W.findObj K C od name = some (.value v)) (hh : PySem.W.handedIn v = true)
  (h : Q v { s with toks := s.toks + 1 }) : wpAny (model prog w) A (getAttr (.ref x) name expr) Q E s := by
 have p : ExcOb x C s.heap := ⟨ox, I.at_, I.cls, I.no⟩
 obtain ⟨hp, ge, dr, tk, os⟩ := s
 have k0 := exc_ty (M := model prog w) p
 have k1 := PySem.W.looks_findIn (M := model prog w) kin c.ga
 have k2 := PySem.W.looks_findIn (M := model prog w) kin c.gn
 have k3 := PySem.W.looks_find (M := model prog w) kin I hf
 have f3 := PySem.F.attr_ValueError.ga.bind (.ref x)
 have x2 : (Value.builtin "BaseException.__getattribute__" == Value.builtin "object.__getattribute__") = false := by decide +kernel
 have x1 : (onTheHeap (Value.ref C) && Value.builtin "BaseException.__getattribute__" == Value.builtin "object.__getattribute__") = false := by rw [x2]; rfl
 have x3 : (expr && onTheHeap (Value.builtin "BaseException.__getattribute__")) = false := by cases expr <;> rfl
 unfold getAttr; unfold getAttrBy
 refine wpAny_bind (wpAny_mkText (wpAny_holding (wpAny_bind (k0.at (wpAny_bind (k1.at ?_))))))
 dsimp only
 rw [x1, if_neg Bool.false_ne_true]
 unfold getAttrByItsOwn
 refine wpAny_bind (k2.at ?_)
 refine wpAny_bind (wpAny_attempt (wpAny_holding ?_))
 unfold callGetattribute
 rw [x3, if_neg Bool.false_ne_true]
 unfold boundAndCalled
 rw [f3]
 refine wpAny_bind (wpAny_pure ?_)
 show wpAny _ _ (call (.builtin "BaseException.__getattribute__") [.ref x, .str name tk]) _ _ _
 refine wpAny_call (codeAny_call_builtin PySem.F.attr_ValueError.ga.plain PySem.F.entry_bexc_ga (exc_check (s := ⟨hp, ge, dr, tk + 1, os⟩) kin p c ?_))
 refine wpAny_bind (wpAny_pure (wpAny_bind (wpAny_pure (wpAny_bind (k0.at (wpAny_bind (k3.at ?_)))))))
 refine wpAny_pure ?_
 show wpAny _ _ (handedOut v) _ _ _
 rw [PySem.W.handedOut_of hh]
 exact wpAny_pure h
end
section
variable {prog : Program} {w : World} {A : Around} {E : Value -> Shared -> Prop} {hp : Heap} {gs : Array GenState} {dn : Drawn} {tn : Nat} {os : OsState}
variable {n0 q : Str} {C N : Addr} {l0 l1 l2 : List Value} {z0 : Bool} {l3 : List Str} {l4 : List Value} {z1 : Bool} {z2 : Option Bool} {z3 : Option Addr} {k0 k1 k2 k3 k5 : Option Value} {B newId initId : String}
theorem type_call_xi (bf : ExcBaseFacts B newId initId l2) (tl : OwnTail hp l2 l1) {mp : Str -> Option Value} {us : List Value} {fa : Addr} {of : Obj} {Q : Fin -> Shared -> Prop}
  (oC : hp.get? C = some (excClassObj n0 q C N l0 l1 z0 l3 l4 z1 z2 z3 k0 k1 k2 k3 k5 newId)) (oN : hp.Ns N mp) (oi : mp "__init__" = some (.ref fa))
  (oF : hp.get? fa = some of) (fc : of.cls = .type "function")
  (go : ∀ hq' ea, (∀ b o, hp.get? b = some o -> hq'.get? b = some o) -> hp.objs.size <= ea -> (∃ o, hq'.get? ea = some o /\ o.cls = .ref C /\ PySem.W.notCls o = true /\ o.dict = none) ->
   wpAny (model prog w) A (call (.ref fa) (.ref ea :: us)) (fun r s' => r = .none /\ Q (.done (.ret (.ref ea))) s') E ⟨hq', gs, dn, tn, os⟩) (few : us.length <= sizeLine := by size_fits) :
  wpAny (model prog w) A (Builtin.«type.__call__» ⟨.ref C :: us, []⟩) Q E ⟨hp, gs, dn, tn, os⟩ := by
 repeat (first | with_reducible refine wpAny_loadPart_at oC ?_ | with_reducible refine wpAny_madeBy_exc oC ?_ | wp_step)
 refine codeAny_call_builtin_code (Code.quiet_builtin _ bf.quiet) (wpAny_check_new_subT bf tl oC ?_)
 refine codeAny_exc_new_subT bf tl oC ?_ few
 show wpAny _ _ _ _ _ _
 have oC1 := Heap.get?_push_of_some { cls := .ref C, data := .fields #[.ref hp.objs.size, .none, .none, .none, .bool false, .none] }
  (Heap.get?_push_of_some { cls := .type "tuple", data := .seq us.toArray } oC)
 have oF1 := Heap.get?_push_of_some { cls := .ref C, data := .fields #[.ref hp.objs.size, .none, .none, .none, .bool false, .none] }
  (Heap.get?_push_of_some { cls := .type "tuple", data := .seq us.toArray } oF)
 have oN1 : ((hp.push { cls := .type "tuple", data := .seq us.toArray }).push { cls := .ref C, data := .fields #[.ref hp.objs.size, .none, .none, .none, .bool false, .none] }).Ns N mp :=
  let ⟨o, es, ep, ea, r⟩ := oN; ⟨o, es, ep, Heap.get?_push_of_some _ (Heap.get?_push_of_some _ ea), r⟩
 have oe : ((hp.push { cls := .type "tuple", data := .seq us.toArray }).push
   { cls := .ref C, data := .fields #[.ref hp.objs.size, .none, .none, .none, .bool false, .none] }).get? (hp.objs.size + 1) = some
   { cls := .ref C, data := .fields #[.ref hp.objs.size, .none, .none, .none, .bool false, .none] } := by heap_get
 have inC : (Value.ref C :: l1).contains (.ref C) = true := by simp
 have tl1 := tl.keeps (h' := (hp.push { cls := .type "tuple", data := .seq us.toArray }).push { cls := .ref C, data := .fields #[.ref hp.objs.size, .none, .none, .none, .bool false, .none] })
  fun b o ea => Heap.get?_push_of_some _ (Heap.get?_push_of_some _ ea)
 unfold isInstance
 repeat (first | with_reducible refine wpAny_loadPart_at oe ?_ | (with_reducible refine wpAny_isSubtype_exc oC1 ?_; rw [inC]) | wp_step)
 show wpAny _ _ (typeLookup (.ref C) _) _ _ _
 refine wpAny_typeLookup_tail oC1 oN1 tl1 bf.mroIs bf.init.lookup ?_
 rw [oi]
 refine wpAny_holding (wpAny_bind ?_)
 unfold bindSpecial
 refine wpAny_bind (wpAny_typeOf (T := "function") ⟨_, oF1, fc⟩ ?_)
 rw [if_pos (by decide)]
 refine wpAny_pure (wpAny_bind (wpAny_mono (go _ (hp.objs.size + 1) (fun b o hb => Heap.get?_push_of_some _ (Heap.get?_push_of_some _ hb)) (Nat.le_succ _) ⟨_, oe, rfl, rfl, rfl⟩) (fun r s' back => ?_) fun _ _ x => x))
 obtain ⟨rfl, done⟩ := back
 wp_walk
 exact done
theorem call_xi (bf : ExcBaseFacts B newId initId l2) (tl : OwnTail hp l2 l1) {mp : Str -> Option Value} {us : List Value} {fa : Addr} {of : Obj} {Q : Value -> Shared -> Prop}
  (oC : hp.get? C = some (excClassObj n0 q C N l0 l1 z0 l3 l4 z1 z2 z3 k0 k1 k2 k3 k5 newId)) (oN : hp.Ns N mp) (oi : mp "__init__" = some (.ref fa))
  (oF : hp.get? fa = some of) (fc : of.cls = .type "function")
  (go : ∀ hq' ea, (∀ b o, hp.get? b = some o -> hq'.get? b = some o) -> hp.objs.size <= ea -> (∃ o, hq'.get? ea = some o /\ o.cls = .ref C /\ PySem.W.notCls o = true /\ o.dict = none) ->
   wpAny (model prog w) (A.under (.builtin "type.__call__" ⟨.ref C :: us, []⟩)) (call (.ref fa) (.ref ea :: us)) (fun r s' => r = .none /\ Q (.ref ea) s') E ⟨hq', gs, dn, tn, os⟩) (few : us.length <= sizeLine := by size_fits) :
  wpAny (model prog w) A (call (.ref C) us) Q E ⟨hp, gs, dn, tn, os⟩ := by
 have u1 := tc_lookup
 have u2 := tc_bind (.ref C)
 have ty : (⟨hp, gs, dn, tn, os⟩ : Shared).TypeIs (.ref C) "type" := ⟨_, oC, rfl⟩
 refine wpAny_call (codeAny_of_tree ?_)
 show wpAny _ _ (callAny (.ref C) _) _ _ _
 repeat (any_goals (first | assumption | with_reducible refine wpAny_loadPart_at oC ?_ | wp_step))
 refine ⟨rfl, ?_⟩
 refine codeAny_call_builtin_at (Code.quiet_builtin _ (by decide +kernel)) entry_typeCall (wpAny_check_type_call_sub oC (type_call_xi (few := few) bf tl oC oN oi oF fc fun hq' ea kk le ob => ?_))
 exact go hq' ea kk le ob
end
def xcIn (K : PySem.W.Frag) (C fI : Addr) (bmB : List Value) (newId : String) : Bool := match K.lookup C with
 | some ⟨.type "type", _, .cls cd, sl⟩ => (match cd.mro, sl.toList with
  | .ref C' :: bm, [_, _, _, _, some (.builtin n), _] => C' == C && n == newId && !cd.hasDel && PySem.W.tailIn K bmB bm && PySem.W.nsOkIn K cd.ns && PySem.W.nsIn K cd.ns "__init__" == some (some (.ref fI))
  | _, _ => false)
 | _ => false
theorem ns_some {K : PySem.W.Frag} {h : Heap} {N : Addr} {mg : Str -> Option Value} {n : Str} {v : Value} (X : K.In h) (G : h.Ns N mg) (e : PySem.W.nsIn K N n = some (some v)) : mg n = some v := by
 obtain ⟨o, es, ep, ho, hd, _, hf⟩ := G
 unfold PySem.W.nsIn at e
 split at e
 ·rename_i c d es' n' sl q
  have := X _ _ q
  rw [ho] at this
  cases this
  cases hd
  split at e
  ·rename_i en he
   cases e
   rw [<- hf]
   unfold nsFind findBy
   rw [<- Array.find?_toList, he]
   rfl
  ·split at e <;> cases e
 ·cases e
structure XAt (K : PySem.W.Frag) (c : String) (C fI : Addr) : Prop where
 is : ExcIs K c C
 sa : PySem.W.findIn K (.ref C) "__setattr__" = some (some (.builtin "object.__setattr__"))
 ov : xOver K C = true
 kp : PySem.W.keepIn K (.ref C) = true
 ob : ∃ (B newId initId : String) (bmB : List Value), ExcBaseFacts B newId initId bmB /\ ∀ h, K.In h -> ∃ bm N nm q bs hdct sn sub ab col dd k0 k1 k2 k3 k5 mN oI,
  h.get? C = some (excClassObj nm q C N bs bm hdct sn sub ab col dd k0 k1 k2 k3 k5 newId) /\ h.Ns N mN /\ mN "__init__" = some (.ref fI) /\ OwnTail h bmB bm /\ h.get? fI = some oI /\ oI.cls = .type "function"
theorem xAt_mk {K : PySem.W.Frag} {c : String} {C fI : Addr} {bmB : List Value} {B newId initId : String} (F : ExcBaseFacts B newId initId bmB) (a : PySem.W.nsIn K mainGlobals (Str.ofString c) = some (some (.ref C))) (q : xcIn K C fI bmB newId = true) (g1 : PySem.W.findIn K (.ref C) "__getattribute__" = some (some (.builtin "BaseException.__getattribute__"))) (g6 : PySem.W.findIn K (.ref C) "__getattr__" = some none) (g7 : PySem.W.mroIn K C (.type "BaseException") = some true) (g2 : PySem.W.findIn K (.ref C) "__class__" = some (some (.builtin "object.__class__")))
  (g3 : PySem.W.specialIn K (.builtin "object.__class__") "__get__" = some (some (.builtin "getset_descriptor.__get__"))) (g4 : PySem.W.takesIn K (.builtin "object.__class__") = some true) (g5 : PySem.W.mroIn K C (.type "object") = some true)
  (sa : PySem.W.findIn K (.ref C) "__setattr__" = some (some (.builtin "object.__setattr__"))) (ov : xOver K C = true) (kp : PySem.W.keepIn K (.ref C) = true) (fn : PySem.W.isFn K (.ref fI) = true) : XAt K c C fI := by
 have cl : (PySem.W.clsIn K C).isSome = true := by
  unfold PySem.W.mroIn at g5
  cases e : PySem.W.clsIn K C with
  | none => rw [e] at g5; cases g5
  | some cd => rfl
 have ic : ExcCl K C := ⟨g1, g6, g7, cl, g2, g3, g4, g5⟩
 have hf : ∃ oI, K.lookup fI = some oI /\ oI.cls = .type "function" := by
  have z : PySem.W.typeIn K (.ref fI) = some (.type "function") := beq_iff_eq.mp fn
  exact Option.map_eq_some_iff.mp z
 obtain ⟨oI, hl, hcl⟩ := hf
 unfold xcIn at q
 split at q
 ·rename_i dd cd sl ho
  split at q
  ·rename_i C' bm k0 k1 k2 k3 n k5 hm hsl
   simp only [Bool.not_eq_true', beq_iff_eq, Bool.and_eq_true] at q
   obtain ⟨⟨⟨⟨⟨e1, e2⟩, e3⟩, e4⟩, e5⟩, e6⟩ := q
   refine ⟨⟨a, ic⟩, sa, ov, kp, B, newId, initId, bmB, F, fun h kin => ?_⟩
   obtain ⟨nm, bs, mro, ns, qn, hd, sn, sub, ab, col, del⟩ := cd
   dsimp only at hm e3 e5 e6
   have hsl' : sl = #[k0, k1, k2, k3, some (.builtin n), k5] := by rw [<- Array.toArray_toList (xs := sl), hsl]
   subst hsl'
   subst e1 e2 e3 hm
   exact ⟨bm, ns, nm, qn, bs, hd, sn, sub, ab, col, dd, k0, k1, k2, k3, k5, h.nsMap ns, oI, kin _ _ ho, .of_isNs (PySem.W.isNs_of_in kin e5), ns_some kin (.of_isNs (PySem.W.isNs_of_in kin e5)) e6, PySem.W.tail_of_in kin e4, kin _ _ hl, hcl⟩
  ·cases q
 ·cases q
section
variable {X : Cx} {pins : List (Addr × Obj)} {σ : List (Option V)} {H : Hp} {s : Shared} {h' : Heap} {x dx C : Addr}
theorem inv_first {φ φ1 ψ : Heap -> Prop} {t' : Nat} (I : Inv X pins σ H s) (hH : H x = some (.ext φ)) (hge : s.heap.objs.size <= dx) (k : ∀ b o, b ≠ x -> s.heap.get? b = some o -> h'.get? b = some o) (n1 : ObjOk X.prog X.w H h' x (.ext φ1)) (n2 : ObjOk X.prog X.w H h' dx (.ext ψ)) :
  Inv X pins σ (upd (upd H x (.ext φ1)) dx (.ext ψ)) { s with heap := h', toks := t' } := by
 have hn := I.hok.fresh hge
 have hxd : x ≠ dx := ne_of_none hH hn
 have key : ∀ b, b ≠ x -> b ≠ dx -> upd (upd H x (.ext φ1)) dx (.ext ψ) b = H b := fun b h1 h2 => by rw [upd_ne h2, upd_ne h1]
 have nx : ∀ b u, H b = some u -> (∀ χ, u ≠ .ext χ) -> b ≠ x := fun b u e n z => by subst z; rw [hH] at e; cases e; exact n _ rfl
 have nd : ∀ b u, H b = some u -> b ≠ dx := fun b u e => ne_of_none e hn
 refine I.un ⟨fun b u q n _ _ => k b u (fun z => by subst z; rw [hH] at n; cases n) q, fun b u q n _ _ => ⟨u.slots, k b u (fun z => by subst z; rw [hH] at n; cases n) q⟩, fun b u q n _ => ?_, fun b u q _ => ?_, fun b xs q => ?_, fun b u xs q => ?_, fun b ps q => ⟨#[], ?_⟩⟩ fun a o e => ?_
 ·rw [key b (fun z => by subst z; rw [hH] at n; cases n) (Nat.ne_of_lt (Nat.lt_of_lt_of_le (Heap.lt_size q) hge))]
  exact n
 ·by_cases hb : b = x
  ·subst hb; exact n1.2.1
  ·exact ⟨u, k b u hb q⟩
 ·rw [key b (nx b _ q fun _ z => nomatch z) (nd b _ q)]; exact q
 ·rw [key b (nx b _ q fun _ z => nomatch z) (nd b _ q)]; exact q
 ·rw [key b (nx b _ q fun _ z => nomatch z) (nd b _ q), q]; simp
 ·by_cases h1 : a = dx
  ·subst h1; rw [upd_same] at e; cases e; exact n2
  ·rw [upd_ne h1] at e
   by_cases h2 : a = x
   ·subst h2; rw [upd_same] at e; cases e; exact n1
   ·rw [upd_ne h2] at e
    refine (I.hok a o e).stay (fun b u hb q => k b u ?_ q) (fun b q => ?_) fun b xs q => ?_
    ·rcases hb with rfl | hb
     ·exact h2
     ·exact nx b _ hb fun _ z => nomatch z
    ·rw [key b (nx b _ q fun _ z => nomatch z) (nd b _ q)]; exact q
    ·rw [key b (nx b _ q fun _ z => nomatch z) (nd b _ q)]; exact q
theorem xOb_ok {d : Option Addr} {P : Program} {w : World} {h : Heap} (e : xOb x C d h) : ObjOk P w H h x (.ext (xOb x C d)) :=
 ⟨e, let ⟨o, q, _⟩ := e; ⟨o, q⟩, fun _ _ ⟨o, q, r⟩ k => ⟨o, k o q, r⟩⟩
theorem xFs_ok {fs : List (Str × V)} {P : Program} {w : World} {h : Heap} (e : xFs dx fs h) : ObjOk P w H h dx (.ext (xFs dx fs)) :=
 ⟨e, let ⟨_, ⟨o, _, _, q, _⟩, _⟩ := e; ⟨o, q⟩, fun _ _ ⟨mA, ⟨o, es, ep, q, r⟩, z⟩ k => ⟨mA, ⟨o, es, ep, k o q, r⟩, z⟩⟩
end
def sXf (K : PySem.W.Frag) (ta tv : TE) (f : Str) : TS := fun D σ H => tv σ H fun y H1 => ta σ H1 fun x H2 => ∃ a C, x = .ref a /\ PySem.W.findIn K (.ref C) "__setattr__" = some (some (.builtin "object.__setattr__")) /\ xOver K C = true /\ PySem.W.findIn K (.ref C) f = some none /\
 ((H2 a = some (.ext (xOb a C none)) /\ ∀ dx, H2 dx = none -> D.nx σ (upd (upd H2 a (.ext (xOb a C (some dx)))) dx (.ext (xFs dx [(f, y)])))) \/
  ∃ dx fs, H2 a = some (.ext (xOb a C (some dx))) /\ H2 dx = some (.ext (xFs dx fs)) /\ fs.length < 1000 /\ D.nx σ (upd H2 dx (.ext (xFs dx (putF f y fs)))))
def tXf (K : PySem.W.Frag) (ta : TE) (f : Str) : TE := fun σ H Q => ta σ H fun x H1 => ∃ a C dx fs v, x = .ref a /\ H1 a = some (.ext (xOb a C (some dx))) /\ H1 dx = some (.ext (xFs dx fs)) /\ ExcCl K C /\ xOver K C = true /\ PySem.W.findIn K (.ref C) f = some none /\ fs.lookup f = some v /\ Q v H1
theorem taker_none {K : PySem.W.Frag} {C : Addr} {f : Str} (h : PySem.W.findIn K (.ref C) f = some none) : PySem.W.takerIn K C f = some none := by unfold PySem.W.takerIn; rw [h]; rfl
section
variable {X : Cx} {B : List Addr} {o e value : Expr} {f : Str} {pos pos' : Pos} {ta tv : TE}
theorem ps_xf (ha : PE X o ta) (hv : PE X value tv) (hs : swapsWith value (some (.Attribute o f pos')) pos.line X.env = pure false := by rfl) : PS X (.Assign [.Attribute o f pos'] value pos) (sXf X.K ta tv f) := by
 intro pins s σ H D I h
 refine plainObj_wpAny_Assign_Attribute (thn (hv pins s σ H _ I h) fun u s1 ⟨y, H1, I1, ry, q⟩ => thn (ha pins s1 σ H1 _ I1 q) fun ov s2 ⟨x, H2, I2, rx, a, C, ex, hsa, hov, hf, q2⟩ => ?_) hs
 subst ex
 obtain rfl : ov = Value.ref a := rx
 rcases q2 with ⟨ea, q2⟩ | ⟨dx, fs, ea, ed, hl, q2⟩
 ·obtain ⟨⟨ox, hx, hc, hn, hd⟩, _, _⟩ := I2.hok a _ ea
  refine xset_first I2.kIn hx hc hn hd hsa hov (taker_none hf) fun h' hx' hN hk => ?_
  refine ⟨σ, _, inv_first (t' := s2.toks + 2) (φ1 := xOb a C (some s2.heap.objs.size)) (ψ := xFs s2.heap.objs.size [(f, y)]) I2 ea (Nat.le_refl _) hk (xOb_ok ⟨_, hx', hc, ?_, rfl⟩) (xFs_ok ⟨_, hN, fun g => ?_, ?_⟩), q2 _ (I2.hok.fresh (Nat.le_refl _))⟩
  ·exact hn
  ·show RelO (List.lookup g [(f, y)]) (if g = f then some u else none)
   rw [List.lookup_cons]
   by_cases hg : g = f
   ·rw [if_pos hg, beq_iff_eq.mpr hg]
    exact ry
   ·rw [if_neg hg, beq_false_of_ne hg]
    exact True.intro
  ·exact Within.cons f u Within.nil
 ·obtain ⟨⟨ox, hx, hc, hn, hd⟩, _, _⟩ := I2.hok a _ ea
  obtain ⟨⟨mA, hN, hr, hw⟩, _, _⟩ := I2.hok dx _ ed
  refine xset_dict (ns := fs.map (·.1)) I2.kIn hx hc hn hd hN hsa hov (taker_none hf) hw (by rw [List.length_map, sizeLine_eq]; omega) fun h' hN' sb => ?_
  refine ⟨σ, _, I2.write (x := dx) (e := dx) (t' := s2.toks + 2) (by rw [ed]; exact True.intro) (.inl rfl) (fun b q hb z => (sb.2 b hb).trans z) (let ⟨o', _, _, e', _⟩ := hN'; ⟨o', e'⟩) (xFs_ok ⟨_, hN', fun g => ?_, fun g hg => ?_⟩), q2⟩
  ·show RelO ((putF f y fs).lookup g) (if g = f then some u else mA g)
   rw [lookup_putF]
   by_cases q : g = f
   ·rw [if_pos q, if_pos q]; exact ry
   ·rw [if_neg q, if_neg q]; exact hr g
  ·by_cases q : g = f
   ·rw [q]; exact (keys_putF f y fs).1
   ·refine (keys_putF f y fs).2 g (hw g fun z => hg ?_)
    show (if g = f then some u else mA g) = none
    rw [if_neg q]; exact z
theorem ps_xfv (i j : Nat) {x y : Str} {p1 p2 : Pos} (hN : X.N[i]? = some x := by rfl) (hv : Vis X.env.scope x := by first | exact Or.inl rfl | exact Or.inr (Or.inl rfl) | exact Or.inr (Or.inr rfl)) (hd : (x == ("__debug__" : Str)) = false := by decide) (hcd : (x == ("__classdict__" : Str)) = false := by decide)
  (hN' : X.N[j]? = some y := by rfl) (hv' : Vis X.env.scope y := by first | exact Or.inl rfl | exact Or.inr (Or.inl rfl) | exact Or.inr (Or.inr rfl)) (hd' : (y == ("__debug__" : Str)) = false := by decide) (hcd' : (y == ("__classdict__" : Str)) = false := by decide)
  (hs : swapsWith (.Name y p2) (some (.Attribute (.Name x p1) f pos')) pos.line X.env = pure false := by rfl) : PS X (.Assign [.Attribute (.Name x p1) f pos'] (.Name y p2) pos) (sXf X.K (tVar i) (tVar j) f) := ps_xf (pe_var hN hv hd hcd) (pe_var hN' hv' hd' hcd') hs
theorem pe_xf (he : PE X e ta) (hb : attributeBase e f X.env (eval e X.env) = eval e X.env := by rfl) : PE X (.Attribute e f pos) (tXf X.K ta f) := by
 intro pins s σ H Q I h
 refine attr_of hb (thn (he pins s σ H _ I h) fun u s1 ⟨x, H1, I1, rx, a, C, dx, fs, v, ex, ea, ed, hc, hov, hf, hl, q⟩ => ?_)
 subst ex
 obtain rfl : u = Value.ref a := rx
 obtain ⟨⟨ox, hx, hcl, hn, hd⟩, _, _⟩ := I1.hok a _ ea
 obtain ⟨⟨mA, hN, hr, hw⟩, _, _⟩ := I1.hok dx _ ed
 obtain ⟨u, hu, ru⟩ := RelO.some_of (v := v) (o := mA f) (by rw [<- hl]; exact hr f)
 obtain ⟨od, ho, hk⟩ := lookIn_ns hN
 have hh : PySem.W.hasDictIn X.K C = true := by
  obtain ⟨cd, e1, e2⟩ := PySem.W.any_some hov
  rw [Bool.and_eq_true] at e2
  unfold PySem.W.hasDictIn
  rw [e1]
  exact e2.2
 exact xget (od := some od) I1.kIn ⟨hx, hcl, hn, by rw [hd]; exact ho⟩ hc (PySem.W.findObj_own hh hf rfl (by rw [hk, hu])) (handed_of ru) ⟨v, H1, I1.tok _, ru, q⟩
theorem i_xf {c f' : String} {C fI : Addr} {g : Ex} (hc : XAt X.K c C fI) (hn : PySem.W.findIn X.K (.ref C) (Str.ofString f') = some none) (ho : PE X o (tI X.K B g)) (hb : attributeBase o (Str.ofString f') X.env (eval o X.env) = eval o X.env := by rfl) :
  PE X (.Attribute o (Str.ofString f') pos) (tI X.K B (e1 (dXFld c f') g)) := by
 refine pe_imp (pe_xf ho hb) ?_
 rintro σ H Q ⟨A, st, d, rs, hd, q⟩
 obtain ⟨x, hx, h2⟩ := R.ok_of hd
 refine ⟨A, st, x, rs, hx, fun v H1 s1 r1 => ?_⟩
 cases x <;> first | (cases h2; done) | skip
 obtain ⟨e1, h3⟩ := guardR_of h2
 subst e1
 obtain ⟨a, φ, C', e2, h4, _, h5, dx, fs, vs, h6, h7⟩ := rep_exn.mp r1
 have hC : C' = C := by have z := h5.ns.symm.trans hc.is.ns; injection z with z; injection z with z; injection z
 subst hC
 rcases h6 with ⟨rfl, rfl⟩ | ⟨rfl, h8, h9, h10, rfl⟩
 ·cases ofO_of h3
 ·obtain ⟨w, h11, h12⟩ := lookup_fld h10 h7 (ofO_of h3)
  exact ⟨a, C', dx, fs, w, e2, hide_sub _ _ _ _ h4, hide_sub _ _ _ _ h9, hc.is.ic, hc.ov, hn, h11, q w H1 s1 h12⟩
end
theorem obj_there {P : Program} {w : World} {H : Hp} {h : Heap} {a : Addr} {o : HO} (x : ObjOk P w H h a o) : ∃ u, h.get? a = some u := by
 cases o with
 | lst xs => obtain ⟨_, _, _, _, e⟩ := x; exact ⟨_, e⟩
 | tup xs => obtain ⟨_, _, _, o, e, _⟩ := x; exact ⟨_, e⟩
 | dK kvs => obtain ⟨_, _, _, _, o, _, _, e, _⟩ := x; exact ⟨_, e⟩
 | dT kvs => obtain ⟨_, _, _, _, o, _, _, e, _⟩ := x; exact ⟨_, e⟩
 | set S n => obtain ⟨o, _, _, _, e, _⟩ := x; exact ⟨_, e⟩
 | ins C dx fs => obtain ⟨_, _, _, e, _⟩ := x; exact ⟨_, e⟩
 | own y => obtain ⟨_, e⟩ := x; exact ⟨_, e⟩
 | xd fs => obtain ⟨_, ⟨_, _, _, e, _⟩, _⟩ := x; exact ⟨_, e⟩
 | rng lo hi => obtain ⟨_, _, _, e⟩ := x; exact ⟨_, e⟩
 | frz ob u => obtain ⟨e, _⟩ := x; exact ⟨_, e⟩
 | tbl ps => exact ⟨_, (show h.get? a = some _ from x)⟩
 | met f y => exact ⟨_, (show h.get? a = some _ from x)⟩
 | ext φ => obtain ⟨_, ⟨_, e⟩, _⟩ := x; exact ⟨_, e⟩
section
variable {X : Cx} {B : List Addr} {e : Expr} {es : List Expr} {r : Exs} {pos p0 : Pos}
theorem i_exn {c : String} {C : Addr} {tl : List Value} (hc : ExcAt X.K c C tl) (kp : PySem.W.keepIn X.K (.ref C) = true) (hm : X.mg (Str.ofString c) = some (.ref C)) (ha : PA X (e :: es) (tA X.K B r)) (hg : Gl X (Str.ofString c) := by rfl) (hdb : (Str.ofString c == ("__debug__" : Str)) = false := by decide)
  (he : starEach (e :: es) X.env = (false, eval e X.env) :: starEach es X.env := by rfl) (hpl : (backTo pos (starEach es X.env)).any (·.1) = false := by rfl) : PE X (.Call (.Name (Str.ofString c) p0) (e :: es) [] pos) (tI X.K B (eExn c r)) := by
 intro pins s σ H Q I h
 obtain ⟨A, st, d, rs, hd, q⟩ := h
 obtain ⟨xs, hx, h2⟩ := R.ok_of hd
 obtain ⟨hl, h3⟩ := guardR_of h2
 cases h3
 refine wpAny_Call_Name_kw (ld_glob I hg hm ?_ hdb)
 refine PySem.W.callWith_K (h₀ := X.base) I.ok.mod.kin kp (thn (ha pos pins s σ H _ I ⟨A, st, xs, rs, hx, fun vs H1 s1 r1 => (⟨s1, r1⟩ : Same H H1 /\ Reps X.K (hide (A ++ B) H1) xs vs)⟩) fun us s1 ⟨vs, H1, I1, rv, sm, rr⟩ => ⟨I1.kIn, ?_⟩) he hpl
 obtain ⟨Bn, newId, initId, bmB, F, hob⟩ := hc.ob
 obtain ⟨N, nm, qn, bs, hdct, sn, sub, ab, col, dd, k0, k1, k2, k3, k5, mN, hC, hN, hni, T⟩ := hob s1.heap I1.kIn
 obtain ⟨hp, ge, dr, tk, os⟩ := s1
 refine wpAny_call_exc_subT F T hC hN hni (fun h' ea hmade => ?_) (by have := rv.length; have := rr.length; show us.length <= sizeLine; rw [sizeLine_eq]; omega)
 obtain ⟨hk, hnone, tp, hob', _, _⟩ := hmade
 have nH : H1 ea = none := by
  cases hH : H1 ea with
  | none => rfl
  | some o =>
   obtain ⟨u, eu⟩ := obj_there (I1.hok ea o hH)
   rw [hnone] at eu; cases eu
 have ob1 : ExcOb ea C h' := ⟨_, hob', rfl, rfl⟩
 have J : Inv X pins σ (upd H1 ea (.ext (ExcOb ea C))) ⟨h', ge, dr, tk, os⟩ := inv_ext (I1.kept (t' := tk) hk) I1 hnone nH ⟨ob1, ⟨_, hob'⟩, fun h1 h2 ⟨o, z1, z2⟩ k => ⟨o, k o z1, z2⟩⟩
 have sm2 := sm.trans (same_upd (o := .ext (ExcOb ea C)) nH)
 refine ⟨.ref ea, _, J, rfl, q _ _ sm2 (rep_exn.mpr ⟨ea, _, C, rfl, ?_, fun _ z => z, hc.is, ea, [], [], .inl ⟨rfl, rfl⟩, .nil⟩)⟩
 rw [hide_out ((rs.own.mono sm).free nH)]
 exact upd_same
end
def spXi (K : PySem.W.Frag) (c : String) (f1 f2 f3 : Str) : Sp := fun vs H Q _ => ∃ x C fI v1 v2 v3, vs = [.ref x, v1, v2, v3] /\ XAt K c C fI /\ PySem.W.findIn K (.ref C) f1 = some none /\ PySem.W.findIn K (.ref C) f2 = some none /\ PySem.W.findIn K (.ref C) f3 = some none /\
 H x = some (.ext (xOb x C none)) /\ ∀ dx, H dx = none -> Q .non (upd (upd H x (.ext (xOb x C (some dx)))) dx (.ext (xFs dx [(f1, v1), (f2, v2), (f3, v3)])))
section
variable {P : Program} {w : World} {K : PySem.W.Frag} {mg : Str -> Option Value} {base : Heap} {x qual : Str} {st : Stmt} {dV : Value} {f : Addr} {fd : FuncData} {N ps : List Str} {k : Nat}
theorem fn_xi (F : FunD K x qual st dV f fd) (S : FnScope N ps (defScope st)) (c : String) (f1 f2 f3 : Str) (hps : ps.length = 4) (h12 : f1 ≠ f2) (h13 : f1 ≠ f3) (h23 : f2 ≠ f3)
  (hb : ∀ (cdv : Value) (A : Around) (outer : List Env) (s : Shared) (H : Hp) (E : XK), Room k (A.deeper (envOfC qual (defScope st) s.heap.objs.size f cdv)) ->
   PSs (cxOf CX0 P w K mg base N qual (defScope st) f cdv A outer s H E).nox (defBody st) (tSeq (sXf K (tVar 0) (tVar 1) f1) (tSeq (sXf K (tVar 0) (tVar 2) f2) (sXf K (tVar 0) (tVar 3) f3)))) : FnOk P w K mg base CX0 (k + 1) f fd ps (spXi K c f1 f2 f3) := by
 refine F.okX S (fun vs H Q E h => ?_) (fun cdv A outer s H vs Q E hr h => ?_)
 ·obtain ⟨x, C, fI, v1, v2, v3, rfl, _⟩ := h
  exact hps.symm
 ·obtain ⟨x, C, fI, v1, v2, v3, rfl, hc, n1, n2, n3, hx, q⟩ := h
  refine ⟨_, hb cdv A outer s H E hr, ?_⟩
  refine ⟨v1, rfl, .ref x, rfl, x, C, rfl, hc.sa, hc.ov, n1, .inl ⟨hx, fun dx hd => ?_⟩⟩
  have hne : x ≠ dx := ne_of_none hx hd
  refine ⟨v2, rfl, .ref x, rfl, x, C, rfl, hc.sa, hc.ov, n2, .inr ⟨dx, _, by rw [upd_ne hne, upd_same], upd_same, (by show 1 < 1000; decide), ?_⟩⟩
  refine ⟨v3, rfl, .ref x, rfl, x, C, rfl, hc.sa, hc.ov, n3, .inr ⟨dx, _, by rw [upd_ne hne, upd_ne hne, upd_same], upd_same, ?_, ?_⟩⟩
  ·have := length_putF f2 v2 [(f1, v1)]
   rw [List.length_singleton] at this
   omega
  ·have e : putF f3 v3 (putF f2 v2 [(f1, v1)]) = [(f1, v1), (f2, v2), (f3, v3)] := by simp [putF, h12, h13, h23]
   have z := q dx hd
   show Q .non (upd (upd (upd (upd H x (.ext (xOb x C (some dx)))) dx (.ext (xFs dx [(f1, v1)]))) dx (.ext (xFs dx (putF f2 v2 [(f1, v1)])))) dx (.ext (xFs dx (putF f3 v3 (putF f2 v2 [(f1, v1)])))))
   rw [upd_upd, upd_upd, e]
   exact z
end
structure XMakeOk (P : Program) (w : World) (K : PySem.W.Frag) (mg : Str -> Option Value) (base : Heap) (c f1 f2 f3 : String) (k : Nat) : Prop where
 ex : ∃ (C fI : Addr) (fd : FuncData) (ps : List Str), XAt K c C fI /\ PySem.W.findIn K (.ref C) (Str.ofString f1) = some none /\ PySem.W.findIn K (.ref C) (Str.ofString f2) = some none /\ PySem.W.findIn K (.ref C) (Str.ofString f3) = some none /\
  FnOk P w K mg base CX0 k fI fd ps (spXi K c (Str.ofString f1) (Str.ofString f2) (Str.ofString f3)) /\ Binds K fd ps [] /\ mg (Str.ofString c) = some (.ref C)
section
variable {X : Cx} {B : List Addr} {e : Expr} {es : List Expr} {r : Exs} {pos p0 : Pos}
theorem i_xmake {c f1 f2 f3 : String} {k j : Nat} (h : XMakeOk X.prog X.w X.K X.mg X.base c f1 f2 f3 k) (hr : Room j X.A) (hk : k + 1 <= j) (ha : PA X (e :: es) (tA X.K B r)) (hg : Gl X (Str.ofString c) := by rfl) (hdb : (Str.ofString c == ("__debug__" : Str)) = false := by decide)
  (he : starEach (e :: es) X.env = (false, eval e X.env) :: starEach es X.env := by rfl) (hpl : (backTo pos (starEach es X.env)).any (·.1) = false := by rfl) : PE X (.Call (.Name (Str.ofString c) p0) (e :: es) [] pos) (tI X.K B (eExnF c [f1, f2, f3] r)) := by
 obtain ⟨C, fI, fd, ps, hc, n1, n2, n3, F, hb, hm⟩ := h.ex
 intro pins s σ H Q I h
 obtain ⟨A, st, d, rs, hd, q⟩ := h
 obtain ⟨xs, hx, h2⟩ := R.ok_of hd
 obtain ⟨hl, h3⟩ := guardR_of h2
 cases h3
 refine wpAny_Call_Name_kw (ld_glob I hg hm ?_ hdb)
 refine PySem.W.callWith_K (h₀ := X.base) I.ok.mod.kin hc.kp (thn (ha pos pins s σ H _ I ⟨A, st, xs, rs, hx, fun vs H1 s1 r1 => (⟨s1, r1⟩ : Same H H1 /\ Reps X.K (hide (A ++ B) H1) xs vs)⟩) fun us s1 ⟨vs, H1, I1, rv, sm, rr⟩ => ⟨I1.kIn, ?_⟩) he hpl
 obtain ⟨Bn, newId, initId, bmB, FB, hob⟩ := hc.ob
 obtain ⟨bm, N, nm, qn, bs, hdct, sn, sub, ab, col, dd, k0, k1, k2, k3, k5, mN, oI, hC, hN, hni, T, hfI, hfc⟩ := hob s1.heap I1.kIn
 obtain ⟨v1, v2, v3, rfl⟩ : ∃ v1 v2 v3, vs = [v1, v2, v3] := by
  have := rr.length
  rw [hl] at this
  match vs, this with
  | [v1, v2, v3], _ => exact ⟨v1, v2, v3, rfl⟩
 obtain ⟨hp, ge, dr, tk, os⟩ := s1
 refine call_xi FB T hC hN hni hfI hfc (fun h' ea hkp hge hob' => ?_) (by have z := rv.length; show us.length <= sizeLine; rw [<- z, sizeLine_eq]; show 3 <= 16777216; decide)
 have nH : H1 ea = none := I1.hok.fresh hge
 have I2 : Inv X pins σ (upd H1 ea (.ext (xOb ea C none))) ⟨h', ge, dr, tk, os⟩ := I1.laid (t' := tk) hkp hge (xOb_ok hob')
 have r2 : Vals [V.ref ea, v1, v2, v3] (Value.ref ea :: us) := .cons rfl rv
 have hq : spXi X.K c (Str.ofString f1) (Str.ofString f2) (Str.ofString f3) [V.ref ea, v1, v2, v3] (upd H1 ea (.ext (xOb ea C none))) (fun v H2 => v = .non /\ Q (.ref ea) H2) E0 := by
  refine ⟨ea, C, fI, v1, v2, v3, rfl, hc, n1, n2, n3, upd_same, fun dx hdx => ⟨rfl, ?_⟩⟩
  have hne : dx ≠ ea := fun z => by rw [z, upd_same] at hdx; cases hdx
  rw [upd_ne hne] at hdx
  rw [upd_upd]
  have s3 : Same H1 (upd H1 ea (.ext (xOb ea C (some dx)))) := same_upd nH
  have hd2 : upd H1 ea (.ext (xOb ea C (some dx))) dx = none := by rw [upd_ne hne]; exact hdx
  have s4 := s3.trans (same_upd (o := .ext (xFs dx [(Str.ofString f1, v1), (Str.ofString f2, v2), (Str.ofString f3, v3)])) hd2)
  refine q _ _ (sm.trans s4) (rep_exn.mpr ⟨ea, xOb ea C (some dx), C, rfl, ?_, fun h ⟨o, z1, z2, z3, _⟩ => ⟨o, z1, z2, z3⟩, hc.is, dx, [(Str.ofString f1, v1), (Str.ofString f2, v2), (Str.ofString f3, v3)], [v1, v2, v3], .inr ⟨rfl, hne, ?_, rfl, rfl⟩, rr.mono (Same.hide s4)⟩)
  ·rw [hide_out ((rs.own.mono sm).free nH), upd_ne (Ne.symm hne), upd_same]
  ·rw [hide_out ((rs.own.mono sm).free hdx), upd_same]
 have hlen : (Value.ref ea :: us ++ []).length = ps.length := by
  have z := r2.length
  rw [F.len _ _ _ _ hq] at z
  rw [List.append_nil]
  exact z.symm
 have hb' := hb ⟨h', ge, dr, tk, os⟩ (Value.ref ea :: us) I2.kIn hlen
 rw [List.append_nil] at hb'
 refine wpAny_call (codeAny_mono (F.run _ X.stack _ _ ⟨Value.ref ea :: us, []⟩ (Value.ref ea :: us) _ _ E0 ((hr.mono hk).make C us []) (I2.env0.make C us []) hb' r2 hq) fun r s' hq' => ?_)
 cases r with
 | error e => exact pass0 pins σ _ _ e s' I2 hq'
 | ok fl =>
  cases fl with
  | ret u =>
   obtain ⟨v, H', I3, rv', ev, q3⟩ := I2.after hq'
   subst ev
   exact ⟨rv', ⟨V.ref ea, H', I3, rfl, q3⟩⟩
  | next => exact False.elim hq'
  | brk => exact False.elim hq'
  | cont => exact False.elim hq'
end
end Pu
set_option maxHeartbeats 4000000
namespace Pu
open PySem PySem.Spec PyProof.Rows L2
def top (i : Nat) : Stmt := PySem.Challenge.pw_looprank_k08_refusals_told_apart.main.body.getD i (.Pass ⟨0, 0, 0, 0⟩)
def inCls (s : Stmt) (j : Nat) : Stmt := match s with
 | .ClassDef _ _ _ b _ _ _ _ _ _ _ => b.getD j (.Pass ⟨0, 0, 0, 0⟩)
 | _ => .Pass ⟨0, 0, 0, 0⟩
abbrev s__law_text : Stmt := top 17
abbrev s__law_first : Stmt := top 18
abbrev s__law_second : Stmt := top 19
abbrev s_NotSettled___init__ : Stmt := inCls (top 14) 0
abbrev s__law_made : Stmt := top 20
abbrev s__law_kinds : Stmt := top 21
abbrev s_law : Stmt := top 22
theorem sc__law_text : FnScope ["_law_cell", "_law_size", "_law_many", "_law_made_here", "_law_digits", "_law_number", "_law_k"] ["_law_cell", "_law_size", "_law_many"] (defScope s__law_text) := ⟨rfl, rfl, rfl, by decide +kernel, rfl, by decide +kernel, by decide +kernel⟩
theorem sc__law_first : FnScope ["_law_k"] ["_law_k"] (defScope s__law_first) := ⟨rfl, rfl, rfl, by decide +kernel, rfl, by decide +kernel, by decide +kernel⟩
theorem sc__law_second : FnScope ["_law_k"] ["_law_k"] (defScope s__law_second) := ⟨rfl, rfl, rfl, by decide +kernel, rfl, by decide +kernel, by decide +kernel⟩
theorem sc_NotSettled___init__ : FnScope ["self", "front", "one", "other"] ["self", "front", "one", "other"] (defScope s_NotSettled___init__) := ⟨rfl, rfl, rfl, by decide +kernel, rfl, by decide +kernel, by decide +kernel⟩
theorem sc__law_made : FnScope ["_law_k", "_law_words"] ["_law_k", "_law_words"] (defScope s__law_made) := ⟨rfl, rfl, rfl, by decide +kernel, rfl, by decide +kernel, by decide +kernel⟩
theorem sc__law_kinds : FnScope ["_law_e", "_law_kinds_here"] ["_law_e"] (defScope s__law_kinds) := ⟨rfl, rfl, rfl, by decide +kernel, rfl, by decide +kernel, by decide +kernel⟩
theorem sc_law : FnScope ["_law_script", "_law_cells", "_law_kept", "_law_cell", "_law_k", "_law_words", "_law_e", "_law_j"] ["_law_script"] (defScope s_law) := ⟨rfl, rfl, rfl, by decide +kernel, rfl, by decide +kernel, by decide +kernel⟩
section
variable {P : Program} {w : World} {K : PySem.W.Frag} {mg : Str -> Option Value} {base : Heap}
theorem d__law_text {fa : Addr} {fd : FuncData} {dV : Value} (F : FunD K "_law_text" "_law_text" s__law_text dV fa fd)
  (b_range : mg "range" = none) : FnOk P w K mg base CX0 1 fa fd ["_law_cell", "_law_size", "_law_many"] (spI K 3 p__law_text) := by
 refine fn_iD (k := 0) F sc__law_text 3 7 b__law_text rfl rfl fun cdv A outer s H E B hr => ?_
 have nd := sc__law_text.nd
 refine s_cons ?_ ?_
 ·exact s_set 3 (i_str []) nd
 refine s_cons ?_ ?_
 ·exact s_set 4 (i_fdiv (toP (i_var 0)) (toP (i_int))) nd
 refine s_cons ?_ ?_
 ·exact s_set 5 (i_add (toP (i_mod (toP (i_fdiv (toP (i_var 0)) (toP (i_int)))) (toP (i_int)))) (toP (i_int))) nd
 refine s_cons ?_ ?_
 ·exact s_for (it_r1 b_range (toP (i_var 1))) (g_name 6 nd) (s_cons (by exact s_set 5 (i_mod (toP (i_add (toP (i_add (toP (i_add (toP (i_mulI (toP (i_var 5)) (toP (i_var 5)))) (toP (i_mulI (toP (i_int)) (toP (i_var 5)))))) (toP (i_mulI (toP (i_int)) (toP (i_var 6)))))) (toP (i_int)))) (toP (i_int))) nd) (by exact s_one (s_if (i_cmpT (op_eqD hr.units) sem_eq (toP (i_mod (toP (i_var 0)) (toP (i_int)))) (toP (i_int)) (nomark _)) (s_cons (by exact s_set 3 (i_add (toP (i_var 3)) (toP (i_ix hr.units (toP (i_str [97, 98, 99])) (toP (i_mod (toP (i_var 4)) (toP (i_var 2))))))) nd) (by exact s_one (s_set 4 (i_fdiv (toP (i_var 4)) (toP (i_var 2))) nd))) (s_one (s_set 3 (i_add (toP (i_var 3)) (toP (i_ix hr.units (toP (i_str [97, 98, 99])) (toP (i_mod (toP (i_fdiv (toP (i_mod (toP (i_mulI (toP (i_var 5)) (toP (i_var 5)))) (toP (i_int)))) (toP (i_int)))) (toP (i_var 2))))))) nd))))) PassesOwn.never rfl
 exact s_one (s_ret (i_var 3))
theorem d__law_first {fa : Addr} {fd : FuncData} {dV : Value} (F : FunD K "_law_first" "_law_first" s__law_first dV fa fd)
  {X_NoWord : Addr} {bm_NoWord : List Value} (e_NoWord : ExcAt K "NoWord" X_NoWord bm_NoWord)
  (ge_NoWord : mg (Str.ofString "NoWord") = some (.ref X_NoWord))
  {X_NoMachine : Addr} {bm_NoMachine : List Value} (e_NoMachine : ExcAt K "NoMachine" X_NoMachine bm_NoMachine)
  (ge_NoMachine : mg (Str.ofString "NoMachine") = some (.ref X_NoMachine))
  {X_NoRoom : Addr} {bm_NoRoom : List Value} (e_NoRoom : ExcAt K "NoRoom" X_NoRoom bm_NoRoom)
  (ge_NoRoom : mg (Str.ofString "NoRoom") = some (.ref X_NoRoom))
  {X_NoText : Addr} {bm_NoText : List Value} (e_NoText : ExcAt K "NoText" X_NoText bm_NoText)
  (ge_NoText : mg (Str.ofString "NoText") = some (.ref X_NoText))
  {X_NoLoop : Addr} {bm_NoLoop : List Value} (e_NoLoop : ExcAt K "NoLoop" X_NoLoop bm_NoLoop)
  (ge_NoLoop : mg (Str.ofString "NoLoop") = some (.ref X_NoLoop))
  {X_NoKind : Addr} {bm_NoKind : List Value} (e_NoKind : ExcAt K "NoKind" X_NoKind bm_NoKind)
  (ge_NoKind : mg (Str.ofString "NoKind") = some (.ref X_NoKind))
  (kq_NoWord : PySem.W.keepIn K (.ref X_NoWord) = true)
  (kq_NoMachine : PySem.W.keepIn K (.ref X_NoMachine) = true)
  (kq_NoRoom : PySem.W.keepIn K (.ref X_NoRoom) = true)
  (kq_NoText : PySem.W.keepIn K (.ref X_NoText) = true)
  (kq_NoLoop : PySem.W.keepIn K (.ref X_NoLoop) = true)
  (kq_NoKind : PySem.W.keepIn K (.ref X_NoKind) = true) : FnOk P w K mg base CX0 1 fa fd ["_law_k"] (spI K 1 p__law_first) := by
 refine fn_iD (k := 0) F sc__law_first 1 1 b__law_first rfl rfl fun cdv A outer s H E B hr => ?_
 have nd := sc__law_first.nd
 refine s_cons ?_ ?_
 ·exact s_if (i_cmpT (op_eqD hr.units) sem_eq (toP (i_var 0)) (toP (i_int)) (nomark _)) (s_one (s_ret (i_exn e_NoWord kq_NoWord ge_NoWord (a_cons (i_str [97]) (a_nil))))) (s_nil)
 refine s_cons ?_ ?_
 ·exact s_if (i_cmpT (op_eqD hr.units) sem_eq (toP (i_var 0)) (toP (i_int)) (nomark _)) (s_one (s_ret (i_exn e_NoMachine kq_NoMachine ge_NoMachine (a_cons (i_str [98]) (a_nil))))) (s_nil)
 refine s_cons ?_ ?_
 ·exact s_if (i_cmpT (op_eqD hr.units) sem_eq (toP (i_var 0)) (toP (i_int)) (nomark _)) (s_one (s_ret (i_exn e_NoRoom kq_NoRoom ge_NoRoom (a_cons (i_str [99]) (a_nil))))) (s_nil)
 refine s_cons ?_ ?_
 ·exact s_if (i_cmpT (op_eqD hr.units) sem_eq (toP (i_var 0)) (toP (i_int)) (nomark _)) (s_one (s_ret (i_exn e_NoText kq_NoText ge_NoText (a_cons (i_str [100]) (a_nil))))) (s_nil)
 refine s_cons ?_ ?_
 ·exact s_if (i_cmpT (op_eqD hr.units) sem_eq (toP (i_var 0)) (toP (i_int)) (nomark _)) (s_one (s_ret (i_exn e_NoLoop kq_NoLoop ge_NoLoop (a_cons (i_str [101]) (a_nil))))) (s_nil)
 exact s_one (s_ret (i_exn e_NoKind kq_NoKind ge_NoKind (a_cons (i_str [102]) (a_nil))))
theorem d__law_second {fa : Addr} {fd : FuncData} {dV : Value} (F : FunD K "_law_second" "_law_second" s__law_second dV fa fd)
  {X_NoPaper : Addr} {bm_NoPaper : List Value} (e_NoPaper : ExcAt K "NoPaper" X_NoPaper bm_NoPaper)
  (ge_NoPaper : mg (Str.ofString "NoPaper") = some (.ref X_NoPaper))
  {X_OtherLetters : Addr} {bm_OtherLetters : List Value} (e_OtherLetters : ExcAt K "OtherLetters" X_OtherLetters bm_OtherLetters)
  (ge_OtherLetters : mg (Str.ofString "OtherLetters") = some (.ref X_OtherLetters))
  {X_NoFraction : Addr} {bm_NoFraction : List Value} (e_NoFraction : ExcAt K "NoFraction" X_NoFraction bm_NoFraction)
  (ge_NoFraction : mg (Str.ofString "NoFraction") = some (.ref X_NoFraction))
  {X_NoLine : Addr} {bm_NoLine : List Value} (e_NoLine : ExcAt K "NoLine" X_NoLine bm_NoLine)
  (ge_NoLine : mg (Str.ofString "NoLine") = some (.ref X_NoLine))
  {X_NoName : Addr} {bm_NoName : List Value} (e_NoName : ExcAt K "NoName" X_NoName bm_NoName)
  (ge_NoName : mg (Str.ofString "NoName") = some (.ref X_NoName))
  {X_NoEnd : Addr} {bm_NoEnd : List Value} (e_NoEnd : ExcAt K "NoEnd" X_NoEnd bm_NoEnd)
  (ge_NoEnd : mg (Str.ofString "NoEnd") = some (.ref X_NoEnd))
  (kq_NoPaper : PySem.W.keepIn K (.ref X_NoPaper) = true)
  (kq_OtherLetters : PySem.W.keepIn K (.ref X_OtherLetters) = true)
  (kq_NoFraction : PySem.W.keepIn K (.ref X_NoFraction) = true)
  (kq_NoLine : PySem.W.keepIn K (.ref X_NoLine) = true)
  (kq_NoName : PySem.W.keepIn K (.ref X_NoName) = true)
  (kq_NoEnd : PySem.W.keepIn K (.ref X_NoEnd) = true) : FnOk P w K mg base CX0 1 fa fd ["_law_k"] (spI K 1 p__law_second) := by
 refine fn_iD (k := 0) F sc__law_second 1 1 b__law_second rfl rfl fun cdv A outer s H E B hr => ?_
 have nd := sc__law_second.nd
 refine s_cons ?_ ?_
 ·exact s_if (i_cmpT (op_eqD hr.units) sem_eq (toP (i_var 0)) (toP (i_int)) (nomark _)) (s_one (s_ret (i_exn e_NoPaper kq_NoPaper ge_NoPaper (a_cons (i_str [103]) (a_nil))))) (s_nil)
 refine s_cons ?_ ?_
 ·exact s_if (i_cmpT (op_eqD hr.units) sem_eq (toP (i_var 0)) (toP (i_int)) (nomark _)) (s_one (s_ret (i_exn e_OtherLetters kq_OtherLetters ge_OtherLetters (a_cons (i_str [104]) (a_nil))))) (s_nil)
 refine s_cons ?_ ?_
 ·exact s_if (i_cmpT (op_eqD hr.units) sem_eq (toP (i_var 0)) (toP (i_int)) (nomark _)) (s_one (s_ret (i_exn e_NoFraction kq_NoFraction ge_NoFraction (a_cons (i_str [105]) (a_nil))))) (s_nil)
 refine s_cons ?_ ?_
 ·exact s_if (i_cmpT (op_eqD hr.units) sem_eq (toP (i_var 0)) (toP (i_int)) (nomark _)) (s_one (s_ret (i_exn e_NoLine kq_NoLine ge_NoLine (a_cons (i_str [106]) (a_nil))))) (s_nil)
 refine s_cons ?_ ?_
 ·exact s_if (i_cmpT (op_eqD hr.units) sem_eq (toP (i_var 0)) (toP (i_int)) (nomark _)) (s_one (s_ret (i_exn e_NoName kq_NoName ge_NoName (a_cons (i_str [107]) (a_nil))))) (s_nil)
 exact s_one (s_ret (i_exn e_NoEnd kq_NoEnd ge_NoEnd (a_cons (i_str [108]) (a_nil))))
theorem d_NotSettled___init__ {fa : Addr} {fd : FuncData} {dV : Value} (F : FunD K "__init__" "NotSettled.__init__" s_NotSettled___init__ dV fa fd) : FnOk P w K mg base CX0 1 fa fd ["self", "front", "one", "other"] (spXi K "NotSettled" (Str.ofString "front") (Str.ofString "one") (Str.ofString "other")) := by
 refine fn_xi (k := 0) F sc_NotSettled___init__ "NotSettled" _ _ _ rfl (by decide) (by decide) (by decide) fun cdv A outer s H E hr => ?_
 have nd := sc_NotSettled___init__.nd
 exact pss_cons (ps_xfv 0 1) (pss_cons (ps_xfv 0 2) (pss_one (ps_xfv 0 3)))
theorem d__law_made {fa : Addr} {fd : FuncData} {dV : Value} (F : FunD K "_law_made" "_law_made" s__law_made dV fa fd)
  (h__law_first : DefOk P w K mg base "_law_first" 1 1 p__law_first)
  (h__law_second : DefOk P w K mg base "_law_second" 1 1 p__law_second)
  (xm_NotSettled : XMakeOk P w K mg base "NotSettled" "front" "one" "other" 1) : FnOk P w K mg base CX0 3 fa fd ["_law_k", "_law_words"] (spI K 2 p__law_made) := by
 refine fn_iD (k := 2) F sc__law_made 2 2 b__law_made rfl rfl fun cdv A outer s H E B hr => ?_
 have nd := sc__law_made.nd
 refine s_cons ?_ ?_
 ·exact s_if (i_cmpT (op_ltD hr.units) sem_ltD (toP (i_var 0)) (toP (i_int)) (nomark _)) (s_one (s_ret (i_callD h__law_first hr (by decide) (a_cons (i_var 0) (a_nil))))) (s_nil)
 refine s_cons ?_ ?_
 ·exact s_if (i_cmpT (op_ltD hr.units) sem_ltD (toP (i_var 0)) (toP (i_int)) (nomark _)) (s_one (s_ret (i_callD h__law_second hr (by decide) (a_cons (i_var 0) (a_nil))))) (s_nil)
 exact s_one (s_ret (i_xmake xm_NotSettled hr (by decide) (a_cons (i_ix hr.units (toP (i_var 1)) (toP (i_int))) (a_cons (i_ix hr.units (toP (i_var 1)) (toP (i_int))) (a_cons (i_ix hr.units (toP (i_var 1)) (toP (i_int))) (a_nil))))))
theorem d__law_kinds {fa : Addr} {fd : FuncData} {dV : Value} (F : FunD K "_law_kinds" "_law_kinds" s__law_kinds dV fa fd)
  {X_NoText : Addr} {bm_NoText : List Value} (e_NoText : ExcAt K "NoText" X_NoText bm_NoText)
  (ge_NoText : mg (Str.ofString "NoText") = some (.ref X_NoText))
  {X_NoRoom : Addr} {bm_NoRoom : List Value} (e_NoRoom : ExcAt K "NoRoom" X_NoRoom bm_NoRoom)
  (ge_NoRoom : mg (Str.ofString "NoRoom") = some (.ref X_NoRoom))
  {X_NoMachine : Addr} {bm_NoMachine : List Value} (e_NoMachine : ExcAt K "NoMachine" X_NoMachine bm_NoMachine)
  (ge_NoMachine : mg (Str.ofString "NoMachine") = some (.ref X_NoMachine))
  {X_NoWord : Addr} {bm_NoWord : List Value} (e_NoWord : ExcAt K "NoWord" X_NoWord bm_NoWord)
  (ge_NoWord : mg (Str.ofString "NoWord") = some (.ref X_NoWord))
  {X_OtherLetters : Addr} {bm_OtherLetters : List Value} (e_OtherLetters : ExcAt K "OtherLetters" X_OtherLetters bm_OtherLetters)
  (ge_OtherLetters : mg (Str.ofString "OtherLetters") = some (.ref X_OtherLetters))
  {X_NoPaper : Addr} {bm_NoPaper : List Value} (e_NoPaper : ExcAt K "NoPaper" X_NoPaper bm_NoPaper)
  (ge_NoPaper : mg (Str.ofString "NoPaper") = some (.ref X_NoPaper))
  {X_NoKind : Addr} {bm_NoKind : List Value} (e_NoKind : ExcAt K "NoKind" X_NoKind bm_NoKind)
  (ge_NoKind : mg (Str.ofString "NoKind") = some (.ref X_NoKind))
  {X_NoLoop : Addr} {bm_NoLoop : List Value} (e_NoLoop : ExcAt K "NoLoop" X_NoLoop bm_NoLoop)
  (ge_NoLoop : mg (Str.ofString "NoLoop") = some (.ref X_NoLoop))
  {X_NoEnd : Addr} {bm_NoEnd : List Value} (e_NoEnd : ExcAt K "NoEnd" X_NoEnd bm_NoEnd)
  (ge_NoEnd : mg (Str.ofString "NoEnd") = some (.ref X_NoEnd))
  {X_NoName : Addr} {bm_NoName : List Value} (e_NoName : ExcAt K "NoName" X_NoName bm_NoName)
  (ge_NoName : mg (Str.ofString "NoName") = some (.ref X_NoName))
  {X_NoLine : Addr} {bm_NoLine : List Value} (e_NoLine : ExcAt K "NoLine" X_NoLine bm_NoLine)
  (ge_NoLine : mg (Str.ofString "NoLine") = some (.ref X_NoLine))
  {X_NoFraction : Addr} {bm_NoFraction : List Value} (e_NoFraction : ExcAt K "NoFraction" X_NoFraction bm_NoFraction)
  (ge_NoFraction : mg (Str.ofString "NoFraction") = some (.ref X_NoFraction))
  {X_NotSettled XI_NotSettled : Addr} (xa_NotSettled : XAt K "NotSettled" X_NotSettled XI_NotSettled)
  (ge_NotSettled : mg (Str.ofString "NotSettled") = some (.ref X_NotSettled))
  (ik_NoText_NoText : IsK K (.ref X_NoText) true "NoText")
  (ik_NoText_NoEnd : IsK K (.ref X_NoText) false "NoEnd")
  (ik_NoText_NoFraction : IsK K (.ref X_NoText) false "NoFraction")
  (ik_NoText_NoKind : IsK K (.ref X_NoText) false "NoKind")
  (ik_NoText_NoLine : IsK K (.ref X_NoText) false "NoLine")
  (ik_NoText_NoLoop : IsK K (.ref X_NoText) false "NoLoop")
  (ik_NoText_NoMachine : IsK K (.ref X_NoText) false "NoMachine")
  (ik_NoText_NoName : IsK K (.ref X_NoText) false "NoName")
  (ik_NoText_NoPaper : IsK K (.ref X_NoText) false "NoPaper")
  (ik_NoText_NoRoom : IsK K (.ref X_NoText) false "NoRoom")
  (ik_NoText_NoWord : IsK K (.ref X_NoText) false "NoWord")
  (ik_NoText_NotSettled : IsK K (.ref X_NoText) false "NotSettled")
  (ik_NoText_OtherLetters : IsK K (.ref X_NoText) false "OtherLetters")
  (ik_NoRoom_NoRoom : IsK K (.ref X_NoRoom) true "NoRoom")
  (ik_NoRoom_NoEnd : IsK K (.ref X_NoRoom) false "NoEnd")
  (ik_NoRoom_NoFraction : IsK K (.ref X_NoRoom) false "NoFraction")
  (ik_NoRoom_NoKind : IsK K (.ref X_NoRoom) false "NoKind")
  (ik_NoRoom_NoLine : IsK K (.ref X_NoRoom) false "NoLine")
  (ik_NoRoom_NoLoop : IsK K (.ref X_NoRoom) false "NoLoop")
  (ik_NoRoom_NoMachine : IsK K (.ref X_NoRoom) false "NoMachine")
  (ik_NoRoom_NoName : IsK K (.ref X_NoRoom) false "NoName")
  (ik_NoRoom_NoPaper : IsK K (.ref X_NoRoom) false "NoPaper")
  (ik_NoRoom_NoText : IsK K (.ref X_NoRoom) false "NoText")
  (ik_NoRoom_NoWord : IsK K (.ref X_NoRoom) false "NoWord")
  (ik_NoRoom_NotSettled : IsK K (.ref X_NoRoom) false "NotSettled")
  (ik_NoRoom_OtherLetters : IsK K (.ref X_NoRoom) false "OtherLetters")
  (ik_NoMachine_NoMachine : IsK K (.ref X_NoMachine) true "NoMachine")
  (ik_NoMachine_NoEnd : IsK K (.ref X_NoMachine) false "NoEnd")
  (ik_NoMachine_NoFraction : IsK K (.ref X_NoMachine) false "NoFraction")
  (ik_NoMachine_NoKind : IsK K (.ref X_NoMachine) false "NoKind")
  (ik_NoMachine_NoLine : IsK K (.ref X_NoMachine) false "NoLine")
  (ik_NoMachine_NoLoop : IsK K (.ref X_NoMachine) false "NoLoop")
  (ik_NoMachine_NoName : IsK K (.ref X_NoMachine) false "NoName")
  (ik_NoMachine_NoPaper : IsK K (.ref X_NoMachine) false "NoPaper")
  (ik_NoMachine_NoRoom : IsK K (.ref X_NoMachine) false "NoRoom")
  (ik_NoMachine_NoText : IsK K (.ref X_NoMachine) false "NoText")
  (ik_NoMachine_NoWord : IsK K (.ref X_NoMachine) false "NoWord")
  (ik_NoMachine_NotSettled : IsK K (.ref X_NoMachine) false "NotSettled")
  (ik_NoMachine_OtherLetters : IsK K (.ref X_NoMachine) false "OtherLetters")
  (ik_NoWord_NoWord : IsK K (.ref X_NoWord) true "NoWord")
  (ik_NoWord_NoEnd : IsK K (.ref X_NoWord) false "NoEnd")
  (ik_NoWord_NoFraction : IsK K (.ref X_NoWord) false "NoFraction")
  (ik_NoWord_NoKind : IsK K (.ref X_NoWord) false "NoKind")
  (ik_NoWord_NoLine : IsK K (.ref X_NoWord) false "NoLine")
  (ik_NoWord_NoLoop : IsK K (.ref X_NoWord) false "NoLoop")
  (ik_NoWord_NoMachine : IsK K (.ref X_NoWord) false "NoMachine")
  (ik_NoWord_NoName : IsK K (.ref X_NoWord) false "NoName")
  (ik_NoWord_NoPaper : IsK K (.ref X_NoWord) false "NoPaper")
  (ik_NoWord_NoRoom : IsK K (.ref X_NoWord) false "NoRoom")
  (ik_NoWord_NoText : IsK K (.ref X_NoWord) false "NoText")
  (ik_NoWord_NotSettled : IsK K (.ref X_NoWord) false "NotSettled")
  (ik_NoWord_OtherLetters : IsK K (.ref X_NoWord) false "OtherLetters")
  (ik_OtherLetters_OtherLetters : IsK K (.ref X_OtherLetters) true "OtherLetters")
  (ik_OtherLetters_NoEnd : IsK K (.ref X_OtherLetters) false "NoEnd")
  (ik_OtherLetters_NoFraction : IsK K (.ref X_OtherLetters) false "NoFraction")
  (ik_OtherLetters_NoKind : IsK K (.ref X_OtherLetters) false "NoKind")
  (ik_OtherLetters_NoLine : IsK K (.ref X_OtherLetters) false "NoLine")
  (ik_OtherLetters_NoLoop : IsK K (.ref X_OtherLetters) false "NoLoop")
  (ik_OtherLetters_NoMachine : IsK K (.ref X_OtherLetters) false "NoMachine")
  (ik_OtherLetters_NoName : IsK K (.ref X_OtherLetters) false "NoName")
  (ik_OtherLetters_NoPaper : IsK K (.ref X_OtherLetters) false "NoPaper")
  (ik_OtherLetters_NoRoom : IsK K (.ref X_OtherLetters) false "NoRoom")
  (ik_OtherLetters_NoText : IsK K (.ref X_OtherLetters) false "NoText")
  (ik_OtherLetters_NoWord : IsK K (.ref X_OtherLetters) false "NoWord")
  (ik_OtherLetters_NotSettled : IsK K (.ref X_OtherLetters) false "NotSettled")
  (ik_NoPaper_NoPaper : IsK K (.ref X_NoPaper) true "NoPaper")
  (ik_NoPaper_NoEnd : IsK K (.ref X_NoPaper) false "NoEnd")
  (ik_NoPaper_NoFraction : IsK K (.ref X_NoPaper) false "NoFraction")
  (ik_NoPaper_NoKind : IsK K (.ref X_NoPaper) false "NoKind")
  (ik_NoPaper_NoLine : IsK K (.ref X_NoPaper) false "NoLine")
  (ik_NoPaper_NoLoop : IsK K (.ref X_NoPaper) false "NoLoop")
  (ik_NoPaper_NoMachine : IsK K (.ref X_NoPaper) false "NoMachine")
  (ik_NoPaper_NoName : IsK K (.ref X_NoPaper) false "NoName")
  (ik_NoPaper_NoRoom : IsK K (.ref X_NoPaper) false "NoRoom")
  (ik_NoPaper_NoText : IsK K (.ref X_NoPaper) false "NoText")
  (ik_NoPaper_NoWord : IsK K (.ref X_NoPaper) false "NoWord")
  (ik_NoPaper_NotSettled : IsK K (.ref X_NoPaper) false "NotSettled")
  (ik_NoPaper_OtherLetters : IsK K (.ref X_NoPaper) false "OtherLetters")
  (ik_NoKind_NoKind : IsK K (.ref X_NoKind) true "NoKind")
  (ik_NoKind_NoEnd : IsK K (.ref X_NoKind) false "NoEnd")
  (ik_NoKind_NoFraction : IsK K (.ref X_NoKind) false "NoFraction")
  (ik_NoKind_NoLine : IsK K (.ref X_NoKind) false "NoLine")
  (ik_NoKind_NoLoop : IsK K (.ref X_NoKind) false "NoLoop")
  (ik_NoKind_NoMachine : IsK K (.ref X_NoKind) false "NoMachine")
  (ik_NoKind_NoName : IsK K (.ref X_NoKind) false "NoName")
  (ik_NoKind_NoPaper : IsK K (.ref X_NoKind) false "NoPaper")
  (ik_NoKind_NoRoom : IsK K (.ref X_NoKind) false "NoRoom")
  (ik_NoKind_NoText : IsK K (.ref X_NoKind) false "NoText")
  (ik_NoKind_NoWord : IsK K (.ref X_NoKind) false "NoWord")
  (ik_NoKind_NotSettled : IsK K (.ref X_NoKind) false "NotSettled")
  (ik_NoKind_OtherLetters : IsK K (.ref X_NoKind) false "OtherLetters")
  (ik_NoLoop_NoLoop : IsK K (.ref X_NoLoop) true "NoLoop")
  (ik_NoLoop_NoEnd : IsK K (.ref X_NoLoop) false "NoEnd")
  (ik_NoLoop_NoFraction : IsK K (.ref X_NoLoop) false "NoFraction")
  (ik_NoLoop_NoKind : IsK K (.ref X_NoLoop) false "NoKind")
  (ik_NoLoop_NoLine : IsK K (.ref X_NoLoop) false "NoLine")
  (ik_NoLoop_NoMachine : IsK K (.ref X_NoLoop) false "NoMachine")
  (ik_NoLoop_NoName : IsK K (.ref X_NoLoop) false "NoName")
  (ik_NoLoop_NoPaper : IsK K (.ref X_NoLoop) false "NoPaper")
  (ik_NoLoop_NoRoom : IsK K (.ref X_NoLoop) false "NoRoom")
  (ik_NoLoop_NoText : IsK K (.ref X_NoLoop) false "NoText")
  (ik_NoLoop_NoWord : IsK K (.ref X_NoLoop) false "NoWord")
  (ik_NoLoop_NotSettled : IsK K (.ref X_NoLoop) false "NotSettled")
  (ik_NoLoop_OtherLetters : IsK K (.ref X_NoLoop) false "OtherLetters")
  (ik_NoEnd_NoEnd : IsK K (.ref X_NoEnd) true "NoEnd")
  (ik_NoEnd_NoFraction : IsK K (.ref X_NoEnd) false "NoFraction")
  (ik_NoEnd_NoKind : IsK K (.ref X_NoEnd) false "NoKind")
  (ik_NoEnd_NoLine : IsK K (.ref X_NoEnd) false "NoLine")
  (ik_NoEnd_NoLoop : IsK K (.ref X_NoEnd) false "NoLoop")
  (ik_NoEnd_NoMachine : IsK K (.ref X_NoEnd) false "NoMachine")
  (ik_NoEnd_NoName : IsK K (.ref X_NoEnd) false "NoName")
  (ik_NoEnd_NoPaper : IsK K (.ref X_NoEnd) false "NoPaper")
  (ik_NoEnd_NoRoom : IsK K (.ref X_NoEnd) false "NoRoom")
  (ik_NoEnd_NoText : IsK K (.ref X_NoEnd) false "NoText")
  (ik_NoEnd_NoWord : IsK K (.ref X_NoEnd) false "NoWord")
  (ik_NoEnd_NotSettled : IsK K (.ref X_NoEnd) false "NotSettled")
  (ik_NoEnd_OtherLetters : IsK K (.ref X_NoEnd) false "OtherLetters")
  (ik_NoName_NoName : IsK K (.ref X_NoName) true "NoName")
  (ik_NoName_NoEnd : IsK K (.ref X_NoName) false "NoEnd")
  (ik_NoName_NoFraction : IsK K (.ref X_NoName) false "NoFraction")
  (ik_NoName_NoKind : IsK K (.ref X_NoName) false "NoKind")
  (ik_NoName_NoLine : IsK K (.ref X_NoName) false "NoLine")
  (ik_NoName_NoLoop : IsK K (.ref X_NoName) false "NoLoop")
  (ik_NoName_NoMachine : IsK K (.ref X_NoName) false "NoMachine")
  (ik_NoName_NoPaper : IsK K (.ref X_NoName) false "NoPaper")
  (ik_NoName_NoRoom : IsK K (.ref X_NoName) false "NoRoom")
  (ik_NoName_NoText : IsK K (.ref X_NoName) false "NoText")
  (ik_NoName_NoWord : IsK K (.ref X_NoName) false "NoWord")
  (ik_NoName_NotSettled : IsK K (.ref X_NoName) false "NotSettled")
  (ik_NoName_OtherLetters : IsK K (.ref X_NoName) false "OtherLetters")
  (ik_NoLine_NoLine : IsK K (.ref X_NoLine) true "NoLine")
  (ik_NoLine_NoEnd : IsK K (.ref X_NoLine) false "NoEnd")
  (ik_NoLine_NoFraction : IsK K (.ref X_NoLine) false "NoFraction")
  (ik_NoLine_NoKind : IsK K (.ref X_NoLine) false "NoKind")
  (ik_NoLine_NoLoop : IsK K (.ref X_NoLine) false "NoLoop")
  (ik_NoLine_NoMachine : IsK K (.ref X_NoLine) false "NoMachine")
  (ik_NoLine_NoName : IsK K (.ref X_NoLine) false "NoName")
  (ik_NoLine_NoPaper : IsK K (.ref X_NoLine) false "NoPaper")
  (ik_NoLine_NoRoom : IsK K (.ref X_NoLine) false "NoRoom")
  (ik_NoLine_NoText : IsK K (.ref X_NoLine) false "NoText")
  (ik_NoLine_NoWord : IsK K (.ref X_NoLine) false "NoWord")
  (ik_NoLine_NotSettled : IsK K (.ref X_NoLine) false "NotSettled")
  (ik_NoLine_OtherLetters : IsK K (.ref X_NoLine) false "OtherLetters")
  (ik_NoFraction_NoFraction : IsK K (.ref X_NoFraction) true "NoFraction")
  (ik_NoFraction_NoEnd : IsK K (.ref X_NoFraction) false "NoEnd")
  (ik_NoFraction_NoKind : IsK K (.ref X_NoFraction) false "NoKind")
  (ik_NoFraction_NoLine : IsK K (.ref X_NoFraction) false "NoLine")
  (ik_NoFraction_NoLoop : IsK K (.ref X_NoFraction) false "NoLoop")
  (ik_NoFraction_NoMachine : IsK K (.ref X_NoFraction) false "NoMachine")
  (ik_NoFraction_NoName : IsK K (.ref X_NoFraction) false "NoName")
  (ik_NoFraction_NoPaper : IsK K (.ref X_NoFraction) false "NoPaper")
  (ik_NoFraction_NoRoom : IsK K (.ref X_NoFraction) false "NoRoom")
  (ik_NoFraction_NoText : IsK K (.ref X_NoFraction) false "NoText")
  (ik_NoFraction_NoWord : IsK K (.ref X_NoFraction) false "NoWord")
  (ik_NoFraction_NotSettled : IsK K (.ref X_NoFraction) false "NotSettled")
  (ik_NoFraction_OtherLetters : IsK K (.ref X_NoFraction) false "OtherLetters")
  (ik_NotSettled_NotSettled : IsK K (.ref X_NotSettled) true "NotSettled")
  (ik_NotSettled_NoEnd : IsK K (.ref X_NotSettled) false "NoEnd")
  (ik_NotSettled_NoFraction : IsK K (.ref X_NotSettled) false "NoFraction")
  (ik_NotSettled_NoKind : IsK K (.ref X_NotSettled) false "NoKind")
  (ik_NotSettled_NoLine : IsK K (.ref X_NotSettled) false "NoLine")
  (ik_NotSettled_NoLoop : IsK K (.ref X_NotSettled) false "NoLoop")
  (ik_NotSettled_NoMachine : IsK K (.ref X_NotSettled) false "NoMachine")
  (ik_NotSettled_NoName : IsK K (.ref X_NotSettled) false "NoName")
  (ik_NotSettled_NoPaper : IsK K (.ref X_NotSettled) false "NoPaper")
  (ik_NotSettled_NoRoom : IsK K (.ref X_NotSettled) false "NoRoom")
  (ik_NotSettled_NoText : IsK K (.ref X_NotSettled) false "NoText")
  (ik_NotSettled_NoWord : IsK K (.ref X_NotSettled) false "NoWord")
  (ik_NotSettled_OtherLetters : IsK K (.ref X_NotSettled) false "OtherLetters")
  (b_isinstance : mg "isinstance" = none) : FnOk P w K mg base CX0 1 fa fd ["_law_e"] (spI K 1 p__law_kinds) := by
 refine fn_iD (k := 0) F sc__law_kinds 1 2 b__law_kinds rfl rfl fun cdv A outer s H E B hr => ?_
 have nd := sc__law_kinds.nd
 refine s_cons ?_ ?_
 ·exact s_set 1 (i_lst (a_cons (i_isXo ge_NoWord b_isinstance (by intro c hc; simp only [List.mem_cons, List.not_mem_nil, or_false] at hc; rcases hc with rfl <;> assumption) (by intro c hc; simp only [List.mem_cons, List.not_mem_nil, or_false] at hc; rcases hc with rfl | rfl | rfl | rfl | rfl | rfl | rfl | rfl | rfl | rfl | rfl | rfl <;> assumption) (toP (i_var 0))) (a_cons (i_isXo ge_NoMachine b_isinstance (by intro c hc; simp only [List.mem_cons, List.not_mem_nil, or_false] at hc; rcases hc with rfl <;> assumption) (by intro c hc; simp only [List.mem_cons, List.not_mem_nil, or_false] at hc; rcases hc with rfl | rfl | rfl | rfl | rfl | rfl | rfl | rfl | rfl | rfl | rfl | rfl <;> assumption) (toP (i_var 0))) (a_cons (i_isXo ge_NoRoom b_isinstance (by intro c hc; simp only [List.mem_cons, List.not_mem_nil, or_false] at hc; rcases hc with rfl <;> assumption) (by intro c hc; simp only [List.mem_cons, List.not_mem_nil, or_false] at hc; rcases hc with rfl | rfl | rfl | rfl | rfl | rfl | rfl | rfl | rfl | rfl | rfl | rfl <;> assumption) (toP (i_var 0))) (a_cons (i_isXo ge_NoText b_isinstance (by intro c hc; simp only [List.mem_cons, List.not_mem_nil, or_false] at hc; rcases hc with rfl <;> assumption) (by intro c hc; simp only [List.mem_cons, List.not_mem_nil, or_false] at hc; rcases hc with rfl | rfl | rfl | rfl | rfl | rfl | rfl | rfl | rfl | rfl | rfl | rfl <;> assumption) (toP (i_var 0))) (a_nil)))))) nd
 refine s_cons ?_ ?_
 ·exact s_set 1 (i_add (toP (i_var 1)) (toP (i_lst (a_cons (i_isXo ge_NoLoop b_isinstance (by intro c hc; simp only [List.mem_cons, List.not_mem_nil, or_false] at hc; rcases hc with rfl <;> assumption) (by intro c hc; simp only [List.mem_cons, List.not_mem_nil, or_false] at hc; rcases hc with rfl | rfl | rfl | rfl | rfl | rfl | rfl | rfl | rfl | rfl | rfl | rfl <;> assumption) (toP (i_var 0))) (a_cons (i_isXo ge_NoKind b_isinstance (by intro c hc; simp only [List.mem_cons, List.not_mem_nil, or_false] at hc; rcases hc with rfl <;> assumption) (by intro c hc; simp only [List.mem_cons, List.not_mem_nil, or_false] at hc; rcases hc with rfl | rfl | rfl | rfl | rfl | rfl | rfl | rfl | rfl | rfl | rfl | rfl <;> assumption) (toP (i_var 0))) (a_cons (i_isXo ge_NoPaper b_isinstance (by intro c hc; simp only [List.mem_cons, List.not_mem_nil, or_false] at hc; rcases hc with rfl <;> assumption) (by intro c hc; simp only [List.mem_cons, List.not_mem_nil, or_false] at hc; rcases hc with rfl | rfl | rfl | rfl | rfl | rfl | rfl | rfl | rfl | rfl | rfl | rfl <;> assumption) (toP (i_var 0))) (a_cons (i_isXo ge_OtherLetters b_isinstance (by intro c hc; simp only [List.mem_cons, List.not_mem_nil, or_false] at hc; rcases hc with rfl <;> assumption) (by intro c hc; simp only [List.mem_cons, List.not_mem_nil, or_false] at hc; rcases hc with rfl | rfl | rfl | rfl | rfl | rfl | rfl | rfl | rfl | rfl | rfl | rfl <;> assumption) (toP (i_var 0))) (a_nil)))))))) nd
 refine s_cons ?_ ?_
 ·exact s_set 1 (i_add (toP (i_var 1)) (toP (i_lst (a_cons (i_isXo ge_NoFraction b_isinstance (by intro c hc; simp only [List.mem_cons, List.not_mem_nil, or_false] at hc; rcases hc with rfl <;> assumption) (by intro c hc; simp only [List.mem_cons, List.not_mem_nil, or_false] at hc; rcases hc with rfl | rfl | rfl | rfl | rfl | rfl | rfl | rfl | rfl | rfl | rfl | rfl <;> assumption) (toP (i_var 0))) (a_cons (i_isXo ge_NoLine b_isinstance (by intro c hc; simp only [List.mem_cons, List.not_mem_nil, or_false] at hc; rcases hc with rfl <;> assumption) (by intro c hc; simp only [List.mem_cons, List.not_mem_nil, or_false] at hc; rcases hc with rfl | rfl | rfl | rfl | rfl | rfl | rfl | rfl | rfl | rfl | rfl | rfl <;> assumption) (toP (i_var 0))) (a_cons (i_isXo ge_NoName b_isinstance (by intro c hc; simp only [List.mem_cons, List.not_mem_nil, or_false] at hc; rcases hc with rfl <;> assumption) (by intro c hc; simp only [List.mem_cons, List.not_mem_nil, or_false] at hc; rcases hc with rfl | rfl | rfl | rfl | rfl | rfl | rfl | rfl | rfl | rfl | rfl | rfl <;> assumption) (toP (i_var 0))) (a_cons (i_isXo ge_NoEnd b_isinstance (by intro c hc; simp only [List.mem_cons, List.not_mem_nil, or_false] at hc; rcases hc with rfl <;> assumption) (by intro c hc; simp only [List.mem_cons, List.not_mem_nil, or_false] at hc; rcases hc with rfl | rfl | rfl | rfl | rfl | rfl | rfl | rfl | rfl | rfl | rfl | rfl <;> assumption) (toP (i_var 0))) (a_nil)))))))) nd
 exact s_one (s_ret (i_add (toP (i_var 1)) (toP (i_lst (a_cons (i_isXo ge_NotSettled b_isinstance (by intro c hc; simp only [List.mem_cons, List.not_mem_nil, or_false] at hc; rcases hc with rfl <;> assumption) (by intro c hc; simp only [List.mem_cons, List.not_mem_nil, or_false] at hc; rcases hc with rfl | rfl | rfl | rfl | rfl | rfl | rfl | rfl | rfl | rfl | rfl | rfl <;> assumption) (toP (i_var 0))) (a_nil))))))
theorem d_law {fa : Addr} {fd : FuncData} {dV : Value} (F : FunD K "law" "law" s_law dV fa fd)
  (h__law_text : DefOk P w K mg base "_law_text" 1 3 p__law_text)
  (h__law_made : DefOk P w K mg base "_law_made" 3 2 p__law_made)
  (h__law_kinds : DefOk P w K mg base "_law_kinds" 1 1 p__law_kinds)
  {X_RankError : Addr} {bm_RankError : List Value} (e_RankError : ExcAt K "RankError" X_RankError bm_RankError)
  (ge_RankError : mg (Str.ofString "RankError") = some (.ref X_RankError))
  {X_NotSettled XI_NotSettled : Addr} (xa_NotSettled : XAt K "NotSettled" X_NotSettled XI_NotSettled)
  (ge_NotSettled : mg (Str.ofString "NotSettled") = some (.ref X_NotSettled))
  (xn_NotSettled_other : PySem.W.findIn K (.ref X_NotSettled) (Str.ofString "other") = some none)
  (xn_NotSettled_one : PySem.W.findIn K (.ref X_NotSettled) (Str.ofString "one") = some none)
  (xn_NotSettled_front : PySem.W.findIn K (.ref X_NotSettled) (Str.ofString "front") = some none)
  (ik_RankError_NoEnd : IsK K (.ref X_RankError) true "NoEnd")
  (ik_RankError_NoFraction : IsK K (.ref X_RankError) true "NoFraction")
  (ik_RankError_NoKind : IsK K (.ref X_RankError) true "NoKind")
  (ik_RankError_NoLine : IsK K (.ref X_RankError) true "NoLine")
  (ik_RankError_NoLoop : IsK K (.ref X_RankError) true "NoLoop")
  (ik_RankError_NoMachine : IsK K (.ref X_RankError) true "NoMachine")
  (ik_RankError_NoName : IsK K (.ref X_RankError) true "NoName")
  (ik_RankError_NoPaper : IsK K (.ref X_RankError) true "NoPaper")
  (ik_RankError_NoRoom : IsK K (.ref X_RankError) true "NoRoom")
  (ik_RankError_NoText : IsK K (.ref X_RankError) true "NoText")
  (ik_RankError_NoWord : IsK K (.ref X_RankError) true "NoWord")
  (ik_RankError_NotSettled : IsK K (.ref X_RankError) true "NotSettled")
  (ik_RankError_OtherLetters : IsK K (.ref X_RankError) true "OtherLetters")
  (ik_ValueError_NoEnd : IsK K (.type "ValueError") true "NoEnd")
  (ik_ValueError_NoFraction : IsK K (.type "ValueError") true "NoFraction")
  (ik_ValueError_NoKind : IsK K (.type "ValueError") true "NoKind")
  (ik_ValueError_NoLine : IsK K (.type "ValueError") true "NoLine")
  (ik_ValueError_NoLoop : IsK K (.type "ValueError") true "NoLoop")
  (ik_ValueError_NoMachine : IsK K (.type "ValueError") true "NoMachine")
  (ik_ValueError_NoName : IsK K (.type "ValueError") true "NoName")
  (ik_ValueError_NoPaper : IsK K (.type "ValueError") true "NoPaper")
  (ik_ValueError_NoRoom : IsK K (.type "ValueError") true "NoRoom")
  (ik_ValueError_NoText : IsK K (.type "ValueError") true "NoText")
  (ik_ValueError_NoWord : IsK K (.type "ValueError") true "NoWord")
  (ik_ValueError_NotSettled : IsK K (.type "ValueError") true "NotSettled")
  (ik_ValueError_OtherLetters : IsK K (.type "ValueError") true "OtherLetters")
  (b_range : mg "range" = none)
  (b_isinstance : mg "isinstance" = none)
  (b_ValueError : mg "ValueError" = none) : FnOk P w K mg base CX0 4 fa fd ["_law_script"] (spI K 1 p_law) := by
 refine fn_iD (k := 3) F sc_law 1 8 b_law rfl rfl fun cdv A outer s H E B hr => ?_
 have nd := sc_law.nd
 refine s_cons ?_ ?_
 ·exact s_set 1 (i_sl (toP (i_var 0)) (o_none) (o_some (toP (i_int)))) nd
 refine s_cons ?_ ?_
 ·exact s_if (i_cmpT (op_eqD hr.units) sem_eq (toP (i_var 1)) (toP (i_lst (a_nil))) (nomark _)) (s_one (s_set 1 (i_lst (a_cons (i_int) (a_nil))) nd)) (s_nil)
 refine s_cons ?_ ?_
 ·exact s_setO 2 (f_lst (a_nil)) nd
 refine s_cons ?_ ?_
 ·exact s_for (it_e (i_var 1)) (g_name 3 nd) (s_cons (by exact s_set 4 (i_mod (toP (i_var 3)) (toP (i_int))) nd) (by exact s_cons (by exact s_setC 5 [7] sub_N (.of rfl) (it_r1 b_range (toP (i_int))) (fun _ _ _ _ _ => g_name 7 nd) (fun _ _ _ _ _ => i_callD h__law_text hr (by decide) (a_cons (i_add (toP (i_fdiv (toP (i_var 3)) (toP (i_int)))) (toP (i_mulI (toP (i_int)) (toP (i_var 7))))) (a_cons (i_add (toP (i_mod (toP (i_fdiv (toP (i_var 3)) (toP (i_int)))) (toP (i_int)))) (toP (i_var 7))) (a_cons (i_int) (a_nil))))) rfl nd) (by exact s_cons (by exact s_set 6 (i_callD h__law_made hr (by decide) (a_cons (i_var 4) (a_cons (i_var 5) (a_nil)))) nd) (by exact s_cons (by exact s_if (PW.pt (t_or (t_not (i_test (i_isXo ge_RankError b_isinstance (by intro c hc; simp only [List.mem_cons, List.not_mem_nil, or_false] at hc; rcases hc with rfl | rfl | rfl | rfl | rfl | rfl | rfl | rfl | rfl | rfl | rfl | rfl | rfl <;> assumption) (by intro c hc; cases hc) (toP (i_var 6))))) (t_or1 (t_not (i_test (i_isXb b_ValueError b_isinstance (by intro c hc; simp only [List.mem_cons, List.not_mem_nil, or_false] at hc; rcases hc with rfl | rfl | rfl | rfl | rfl | rfl | rfl | rfl | rfl | rfl | rfl | rfl | rfl <;> assumption) (by intro c hc; cases hc) (toP (i_var 6)))))))) (s_one (s_ret (i_bl))) (s_nil)) (by exact s_cons (by exact s_if (i_cmpT (op_neD hr.units) sem_ne (toP (i_callD h__law_kinds hr (by decide) (a_cons (i_var 6) (a_nil)))) (toP (i_comp [7] sub_N (.of rfl) (it_r1 b_range (toP (i_int))) (fun _ _ _ _ _ => g_name 7 nd) (fun _ _ _ _ _ => i_cmpG (op_eqD hr.units) sem_eq (toP (i_var 7)) (toP (i_var 4)) (nomark _)) rfl)) (nomark _)) (s_one (s_ret (i_bl))) (s_nil)) (by exact s_one (s_if (i_cmpT (op_eqD hr.units) sem_eq (toP (i_var 4)) (toP (i_int)) (nomark _)) (s_one (s_app 2 (i_tup (a_cons (i_var 6) (a_cons (i_var 5) (a_nil)))))) (s_nil)))))))) PassesOwn.never rfl
 refine s_cons ?_ ?_
 ·exact s_fz [2] (s_for (it_e (i_var 2)) (g_tup rfl (gs_cons 6 (gs_cons 5 (gs_nil) nd) nd)) (s_one (s_if (i_cmpT (op_neD hr.units) sem_ne (toP (i_lst (a_cons (i_xf xa_NotSettled xn_NotSettled_front (i_var 6)) (a_cons (i_xf xa_NotSettled xn_NotSettled_one (i_var 6)) (a_cons (i_xf xa_NotSettled xn_NotSettled_other (i_var 6)) (a_nil)))))) (toP (i_var 5)) (nomark _)) (s_one (s_ret (i_bl))) (s_nil))) PassesOwn.never rfl)
 exact s_one (s_ret (i_bl))
end
theorem all_mk {l : PySem.W.OpenLaw} {w : World} {K : PySem.W.Frag} {h : Heap} {mg : Str -> Option Value} {fa : Addr} {BE newE initE : String} {bmE : List Value} (FE : ExcBaseFacts BE newE initE bmE) (X : K.In h) (G : h.Ns mainGlobals mg) (hfa : mg "law" = some (.ref fa))
  {X_NoEnd : Addr} {X_NoFraction : Addr} {X_NoKind : Addr} {X_NoLine : Addr} {X_NoLoop : Addr} {X_NoMachine : Addr} {X_NoName : Addr} {X_NoPaper : Addr} {X_NoRoom : Addr} {X_NoText : Addr} {X_NoWord : Addr} {X_NotSettled : Addr} {f4 : Addr} {X_OtherLetters : Addr} {X_RankError : Addr} {f1 : Addr} {od1 an1 : Option Addr} {sl1 : Array (Option Value)} {oc1 kV1 dc1 pm1 cd1 ct1 : Value} {f2 : Addr} {od2 an2 : Option Addr} {sl2 : Array (Option Value)} {oc2 kV2 dc2 pm2 cd2 ct2 : Value} {f3 : Addr} {od3 an3 : Option Addr} {sl3 : Array (Option Value)} {oc3 kV3 dc3 pm3 cd3 ct3 : Value} {od4 an4 : Option Addr} {sl4 : Array (Option Value)} {oc4 kV4 dc4 pm4 cd4 ct4 : Value} {f5 : Addr} {od5 an5 : Option Addr} {sl5 : Array (Option Value)} {oc5 kV5 dc5 pm5 cd5 ct5 : Value} {f6 : Addr} {od6 an6 : Option Addr} {sl6 : Array (Option Value)} {oc6 kV6 dc6 pm6 cd6 ct6 : Value} {f7 : Addr} {od7 an7 : Option Addr} {sl7 : Array (Option Value)} {oc7 kV7 dc7 pm7 cd7 ct7 : Value}
  (y3 : PySem.W.specialIn K (.builtin "object.__class__") "__get__" = some (some (.builtin "getset_descriptor.__get__")))
  (y4 : PySem.W.takesIn K (.builtin "object.__class__") = some true)
  (y_NoEnd : PySem.W.nsIn K mainGlobals (Str.ofString "NoEnd") = some (some (.ref X_NoEnd)))
  (y0_NoEnd : PySem.W.excIn K X_NoEnd bmE newE = true)
  (kq_NoEnd : PySem.W.keepIn K (.ref X_NoEnd) = true)
  (y1_NoEnd : PySem.W.findIn K (.ref X_NoEnd) "__getattribute__" = some (some (.builtin "BaseException.__getattribute__")))
  (y6_NoEnd : PySem.W.findIn K (.ref X_NoEnd) "__getattr__" = some none)
  (y7_NoEnd : PySem.W.mroIn K X_NoEnd (.type "BaseException") = some true)
  (y2_NoEnd : PySem.W.findIn K (.ref X_NoEnd) "__class__" = some (some (.builtin "object.__class__")))
  (y5_NoEnd : PySem.W.mroIn K X_NoEnd (.type "object") = some true)
  (y_NoFraction : PySem.W.nsIn K mainGlobals (Str.ofString "NoFraction") = some (some (.ref X_NoFraction)))
  (y0_NoFraction : PySem.W.excIn K X_NoFraction bmE newE = true)
  (kq_NoFraction : PySem.W.keepIn K (.ref X_NoFraction) = true)
  (y1_NoFraction : PySem.W.findIn K (.ref X_NoFraction) "__getattribute__" = some (some (.builtin "BaseException.__getattribute__")))
  (y6_NoFraction : PySem.W.findIn K (.ref X_NoFraction) "__getattr__" = some none)
  (y7_NoFraction : PySem.W.mroIn K X_NoFraction (.type "BaseException") = some true)
  (y2_NoFraction : PySem.W.findIn K (.ref X_NoFraction) "__class__" = some (some (.builtin "object.__class__")))
  (y5_NoFraction : PySem.W.mroIn K X_NoFraction (.type "object") = some true)
  (y_NoKind : PySem.W.nsIn K mainGlobals (Str.ofString "NoKind") = some (some (.ref X_NoKind)))
  (y0_NoKind : PySem.W.excIn K X_NoKind bmE newE = true)
  (kq_NoKind : PySem.W.keepIn K (.ref X_NoKind) = true)
  (y1_NoKind : PySem.W.findIn K (.ref X_NoKind) "__getattribute__" = some (some (.builtin "BaseException.__getattribute__")))
  (y6_NoKind : PySem.W.findIn K (.ref X_NoKind) "__getattr__" = some none)
  (y7_NoKind : PySem.W.mroIn K X_NoKind (.type "BaseException") = some true)
  (y2_NoKind : PySem.W.findIn K (.ref X_NoKind) "__class__" = some (some (.builtin "object.__class__")))
  (y5_NoKind : PySem.W.mroIn K X_NoKind (.type "object") = some true)
  (y_NoLine : PySem.W.nsIn K mainGlobals (Str.ofString "NoLine") = some (some (.ref X_NoLine)))
  (y0_NoLine : PySem.W.excIn K X_NoLine bmE newE = true)
  (kq_NoLine : PySem.W.keepIn K (.ref X_NoLine) = true)
  (y1_NoLine : PySem.W.findIn K (.ref X_NoLine) "__getattribute__" = some (some (.builtin "BaseException.__getattribute__")))
  (y6_NoLine : PySem.W.findIn K (.ref X_NoLine) "__getattr__" = some none)
  (y7_NoLine : PySem.W.mroIn K X_NoLine (.type "BaseException") = some true)
  (y2_NoLine : PySem.W.findIn K (.ref X_NoLine) "__class__" = some (some (.builtin "object.__class__")))
  (y5_NoLine : PySem.W.mroIn K X_NoLine (.type "object") = some true)
  (y_NoLoop : PySem.W.nsIn K mainGlobals (Str.ofString "NoLoop") = some (some (.ref X_NoLoop)))
  (y0_NoLoop : PySem.W.excIn K X_NoLoop bmE newE = true)
  (kq_NoLoop : PySem.W.keepIn K (.ref X_NoLoop) = true)
  (y1_NoLoop : PySem.W.findIn K (.ref X_NoLoop) "__getattribute__" = some (some (.builtin "BaseException.__getattribute__")))
  (y6_NoLoop : PySem.W.findIn K (.ref X_NoLoop) "__getattr__" = some none)
  (y7_NoLoop : PySem.W.mroIn K X_NoLoop (.type "BaseException") = some true)
  (y2_NoLoop : PySem.W.findIn K (.ref X_NoLoop) "__class__" = some (some (.builtin "object.__class__")))
  (y5_NoLoop : PySem.W.mroIn K X_NoLoop (.type "object") = some true)
  (y_NoMachine : PySem.W.nsIn K mainGlobals (Str.ofString "NoMachine") = some (some (.ref X_NoMachine)))
  (y0_NoMachine : PySem.W.excIn K X_NoMachine bmE newE = true)
  (kq_NoMachine : PySem.W.keepIn K (.ref X_NoMachine) = true)
  (y1_NoMachine : PySem.W.findIn K (.ref X_NoMachine) "__getattribute__" = some (some (.builtin "BaseException.__getattribute__")))
  (y6_NoMachine : PySem.W.findIn K (.ref X_NoMachine) "__getattr__" = some none)
  (y7_NoMachine : PySem.W.mroIn K X_NoMachine (.type "BaseException") = some true)
  (y2_NoMachine : PySem.W.findIn K (.ref X_NoMachine) "__class__" = some (some (.builtin "object.__class__")))
  (y5_NoMachine : PySem.W.mroIn K X_NoMachine (.type "object") = some true)
  (y_NoName : PySem.W.nsIn K mainGlobals (Str.ofString "NoName") = some (some (.ref X_NoName)))
  (y0_NoName : PySem.W.excIn K X_NoName bmE newE = true)
  (kq_NoName : PySem.W.keepIn K (.ref X_NoName) = true)
  (y1_NoName : PySem.W.findIn K (.ref X_NoName) "__getattribute__" = some (some (.builtin "BaseException.__getattribute__")))
  (y6_NoName : PySem.W.findIn K (.ref X_NoName) "__getattr__" = some none)
  (y7_NoName : PySem.W.mroIn K X_NoName (.type "BaseException") = some true)
  (y2_NoName : PySem.W.findIn K (.ref X_NoName) "__class__" = some (some (.builtin "object.__class__")))
  (y5_NoName : PySem.W.mroIn K X_NoName (.type "object") = some true)
  (y_NoPaper : PySem.W.nsIn K mainGlobals (Str.ofString "NoPaper") = some (some (.ref X_NoPaper)))
  (y0_NoPaper : PySem.W.excIn K X_NoPaper bmE newE = true)
  (kq_NoPaper : PySem.W.keepIn K (.ref X_NoPaper) = true)
  (y1_NoPaper : PySem.W.findIn K (.ref X_NoPaper) "__getattribute__" = some (some (.builtin "BaseException.__getattribute__")))
  (y6_NoPaper : PySem.W.findIn K (.ref X_NoPaper) "__getattr__" = some none)
  (y7_NoPaper : PySem.W.mroIn K X_NoPaper (.type "BaseException") = some true)
  (y2_NoPaper : PySem.W.findIn K (.ref X_NoPaper) "__class__" = some (some (.builtin "object.__class__")))
  (y5_NoPaper : PySem.W.mroIn K X_NoPaper (.type "object") = some true)
  (y_NoRoom : PySem.W.nsIn K mainGlobals (Str.ofString "NoRoom") = some (some (.ref X_NoRoom)))
  (y0_NoRoom : PySem.W.excIn K X_NoRoom bmE newE = true)
  (kq_NoRoom : PySem.W.keepIn K (.ref X_NoRoom) = true)
  (y1_NoRoom : PySem.W.findIn K (.ref X_NoRoom) "__getattribute__" = some (some (.builtin "BaseException.__getattribute__")))
  (y6_NoRoom : PySem.W.findIn K (.ref X_NoRoom) "__getattr__" = some none)
  (y7_NoRoom : PySem.W.mroIn K X_NoRoom (.type "BaseException") = some true)
  (y2_NoRoom : PySem.W.findIn K (.ref X_NoRoom) "__class__" = some (some (.builtin "object.__class__")))
  (y5_NoRoom : PySem.W.mroIn K X_NoRoom (.type "object") = some true)
  (y_NoText : PySem.W.nsIn K mainGlobals (Str.ofString "NoText") = some (some (.ref X_NoText)))
  (y0_NoText : PySem.W.excIn K X_NoText bmE newE = true)
  (kq_NoText : PySem.W.keepIn K (.ref X_NoText) = true)
  (y1_NoText : PySem.W.findIn K (.ref X_NoText) "__getattribute__" = some (some (.builtin "BaseException.__getattribute__")))
  (y6_NoText : PySem.W.findIn K (.ref X_NoText) "__getattr__" = some none)
  (y7_NoText : PySem.W.mroIn K X_NoText (.type "BaseException") = some true)
  (y2_NoText : PySem.W.findIn K (.ref X_NoText) "__class__" = some (some (.builtin "object.__class__")))
  (y5_NoText : PySem.W.mroIn K X_NoText (.type "object") = some true)
  (y_NoWord : PySem.W.nsIn K mainGlobals (Str.ofString "NoWord") = some (some (.ref X_NoWord)))
  (y0_NoWord : PySem.W.excIn K X_NoWord bmE newE = true)
  (kq_NoWord : PySem.W.keepIn K (.ref X_NoWord) = true)
  (y1_NoWord : PySem.W.findIn K (.ref X_NoWord) "__getattribute__" = some (some (.builtin "BaseException.__getattribute__")))
  (y6_NoWord : PySem.W.findIn K (.ref X_NoWord) "__getattr__" = some none)
  (y7_NoWord : PySem.W.mroIn K X_NoWord (.type "BaseException") = some true)
  (y2_NoWord : PySem.W.findIn K (.ref X_NoWord) "__class__" = some (some (.builtin "object.__class__")))
  (y5_NoWord : PySem.W.mroIn K X_NoWord (.type "object") = some true)
  (y_NotSettled : PySem.W.nsIn K mainGlobals (Str.ofString "NotSettled") = some (some (.ref X_NotSettled)))
  (a4 : PySem.W.findIn K (.ref X_NotSettled) (Str.ofString "__init__") = some (some (.ref f4)))
  (e4 : PySem.W.isFn K (.ref f4) = true)
  (y0_NotSettled : xcIn K X_NotSettled f4 bmE newE = true)
  (y8_NotSettled : PySem.W.findIn K (.ref X_NotSettled) "__setattr__" = some (some (.builtin "object.__setattr__")))
  (y9_NotSettled : xOver K X_NotSettled = true)
  (xn_NotSettled_front : PySem.W.findIn K (.ref X_NotSettled) (Str.ofString "front") = some none)
  (xn_NotSettled_one : PySem.W.findIn K (.ref X_NotSettled) (Str.ofString "one") = some none)
  (xn_NotSettled_other : PySem.W.findIn K (.ref X_NotSettled) (Str.ofString "other") = some none)
  (kq_NotSettled : PySem.W.keepIn K (.ref X_NotSettled) = true)
  (y1_NotSettled : PySem.W.findIn K (.ref X_NotSettled) "__getattribute__" = some (some (.builtin "BaseException.__getattribute__")))
  (y6_NotSettled : PySem.W.findIn K (.ref X_NotSettled) "__getattr__" = some none)
  (y7_NotSettled : PySem.W.mroIn K X_NotSettled (.type "BaseException") = some true)
  (y2_NotSettled : PySem.W.findIn K (.ref X_NotSettled) "__class__" = some (some (.builtin "object.__class__")))
  (y5_NotSettled : PySem.W.mroIn K X_NotSettled (.type "object") = some true)
  (y_OtherLetters : PySem.W.nsIn K mainGlobals (Str.ofString "OtherLetters") = some (some (.ref X_OtherLetters)))
  (y0_OtherLetters : PySem.W.excIn K X_OtherLetters bmE newE = true)
  (kq_OtherLetters : PySem.W.keepIn K (.ref X_OtherLetters) = true)
  (y1_OtherLetters : PySem.W.findIn K (.ref X_OtherLetters) "__getattribute__" = some (some (.builtin "BaseException.__getattribute__")))
  (y6_OtherLetters : PySem.W.findIn K (.ref X_OtherLetters) "__getattr__" = some none)
  (y7_OtherLetters : PySem.W.mroIn K X_OtherLetters (.type "BaseException") = some true)
  (y2_OtherLetters : PySem.W.findIn K (.ref X_OtherLetters) "__class__" = some (some (.builtin "object.__class__")))
  (y5_OtherLetters : PySem.W.mroIn K X_OtherLetters (.type "object") = some true)
  (y_RankError : PySem.W.nsIn K mainGlobals (Str.ofString "RankError") = some (some (.ref X_RankError)))
  (y0_RankError : PySem.W.excIn K X_RankError bmE newE = true)
  (y1_RankError : PySem.W.findIn K (.ref X_RankError) "__getattribute__" = some (some (.builtin "BaseException.__getattribute__")))
  (y6_RankError : PySem.W.findIn K (.ref X_RankError) "__getattr__" = some none)
  (y7_RankError : PySem.W.mroIn K X_RankError (.type "BaseException") = some true)
  (y2_RankError : PySem.W.findIn K (.ref X_RankError) "__class__" = some (some (.builtin "object.__class__")))
  (y5_RankError : PySem.W.mroIn K X_RankError (.type "object") = some true)
  (jk_NoEnd_NoEnd : PySem.W.kitOne K (.ref X_NoEnd) (.ref X_NoEnd) = some true)
  (jk_NoEnd_NoFraction : PySem.W.kitOne K (.ref X_NoFraction) (.ref X_NoEnd) = some false)
  (jk_NoEnd_NoKind : PySem.W.kitOne K (.ref X_NoKind) (.ref X_NoEnd) = some false)
  (jk_NoEnd_NoLine : PySem.W.kitOne K (.ref X_NoLine) (.ref X_NoEnd) = some false)
  (jk_NoEnd_NoLoop : PySem.W.kitOne K (.ref X_NoLoop) (.ref X_NoEnd) = some false)
  (jk_NoEnd_NoMachine : PySem.W.kitOne K (.ref X_NoMachine) (.ref X_NoEnd) = some false)
  (jk_NoEnd_NoName : PySem.W.kitOne K (.ref X_NoName) (.ref X_NoEnd) = some false)
  (jk_NoEnd_NoPaper : PySem.W.kitOne K (.ref X_NoPaper) (.ref X_NoEnd) = some false)
  (jk_NoEnd_NoRoom : PySem.W.kitOne K (.ref X_NoRoom) (.ref X_NoEnd) = some false)
  (jk_NoEnd_NoText : PySem.W.kitOne K (.ref X_NoText) (.ref X_NoEnd) = some false)
  (jk_NoEnd_NoWord : PySem.W.kitOne K (.ref X_NoWord) (.ref X_NoEnd) = some false)
  (jk_NoEnd_NotSettled : PySem.W.kitOne K (.ref X_NotSettled) (.ref X_NoEnd) = some false)
  (jk_NoEnd_OtherLetters : PySem.W.kitOne K (.ref X_OtherLetters) (.ref X_NoEnd) = some false)
  (jk_NoFraction_NoEnd : PySem.W.kitOne K (.ref X_NoEnd) (.ref X_NoFraction) = some false)
  (jk_NoFraction_NoFraction : PySem.W.kitOne K (.ref X_NoFraction) (.ref X_NoFraction) = some true)
  (jk_NoFraction_NoKind : PySem.W.kitOne K (.ref X_NoKind) (.ref X_NoFraction) = some false)
  (jk_NoFraction_NoLine : PySem.W.kitOne K (.ref X_NoLine) (.ref X_NoFraction) = some false)
  (jk_NoFraction_NoLoop : PySem.W.kitOne K (.ref X_NoLoop) (.ref X_NoFraction) = some false)
  (jk_NoFraction_NoMachine : PySem.W.kitOne K (.ref X_NoMachine) (.ref X_NoFraction) = some false)
  (jk_NoFraction_NoName : PySem.W.kitOne K (.ref X_NoName) (.ref X_NoFraction) = some false)
  (jk_NoFraction_NoPaper : PySem.W.kitOne K (.ref X_NoPaper) (.ref X_NoFraction) = some false)
  (jk_NoFraction_NoRoom : PySem.W.kitOne K (.ref X_NoRoom) (.ref X_NoFraction) = some false)
  (jk_NoFraction_NoText : PySem.W.kitOne K (.ref X_NoText) (.ref X_NoFraction) = some false)
  (jk_NoFraction_NoWord : PySem.W.kitOne K (.ref X_NoWord) (.ref X_NoFraction) = some false)
  (jk_NoFraction_NotSettled : PySem.W.kitOne K (.ref X_NotSettled) (.ref X_NoFraction) = some false)
  (jk_NoFraction_OtherLetters : PySem.W.kitOne K (.ref X_OtherLetters) (.ref X_NoFraction) = some false)
  (jk_NoKind_NoEnd : PySem.W.kitOne K (.ref X_NoEnd) (.ref X_NoKind) = some false)
  (jk_NoKind_NoFraction : PySem.W.kitOne K (.ref X_NoFraction) (.ref X_NoKind) = some false)
  (jk_NoKind_NoKind : PySem.W.kitOne K (.ref X_NoKind) (.ref X_NoKind) = some true)
  (jk_NoKind_NoLine : PySem.W.kitOne K (.ref X_NoLine) (.ref X_NoKind) = some false)
  (jk_NoKind_NoLoop : PySem.W.kitOne K (.ref X_NoLoop) (.ref X_NoKind) = some false)
  (jk_NoKind_NoMachine : PySem.W.kitOne K (.ref X_NoMachine) (.ref X_NoKind) = some false)
  (jk_NoKind_NoName : PySem.W.kitOne K (.ref X_NoName) (.ref X_NoKind) = some false)
  (jk_NoKind_NoPaper : PySem.W.kitOne K (.ref X_NoPaper) (.ref X_NoKind) = some false)
  (jk_NoKind_NoRoom : PySem.W.kitOne K (.ref X_NoRoom) (.ref X_NoKind) = some false)
  (jk_NoKind_NoText : PySem.W.kitOne K (.ref X_NoText) (.ref X_NoKind) = some false)
  (jk_NoKind_NoWord : PySem.W.kitOne K (.ref X_NoWord) (.ref X_NoKind) = some false)
  (jk_NoKind_NotSettled : PySem.W.kitOne K (.ref X_NotSettled) (.ref X_NoKind) = some false)
  (jk_NoKind_OtherLetters : PySem.W.kitOne K (.ref X_OtherLetters) (.ref X_NoKind) = some false)
  (jk_NoLine_NoEnd : PySem.W.kitOne K (.ref X_NoEnd) (.ref X_NoLine) = some false)
  (jk_NoLine_NoFraction : PySem.W.kitOne K (.ref X_NoFraction) (.ref X_NoLine) = some false)
  (jk_NoLine_NoKind : PySem.W.kitOne K (.ref X_NoKind) (.ref X_NoLine) = some false)
  (jk_NoLine_NoLine : PySem.W.kitOne K (.ref X_NoLine) (.ref X_NoLine) = some true)
  (jk_NoLine_NoLoop : PySem.W.kitOne K (.ref X_NoLoop) (.ref X_NoLine) = some false)
  (jk_NoLine_NoMachine : PySem.W.kitOne K (.ref X_NoMachine) (.ref X_NoLine) = some false)
  (jk_NoLine_NoName : PySem.W.kitOne K (.ref X_NoName) (.ref X_NoLine) = some false)
  (jk_NoLine_NoPaper : PySem.W.kitOne K (.ref X_NoPaper) (.ref X_NoLine) = some false)
  (jk_NoLine_NoRoom : PySem.W.kitOne K (.ref X_NoRoom) (.ref X_NoLine) = some false)
  (jk_NoLine_NoText : PySem.W.kitOne K (.ref X_NoText) (.ref X_NoLine) = some false)
  (jk_NoLine_NoWord : PySem.W.kitOne K (.ref X_NoWord) (.ref X_NoLine) = some false)
  (jk_NoLine_NotSettled : PySem.W.kitOne K (.ref X_NotSettled) (.ref X_NoLine) = some false)
  (jk_NoLine_OtherLetters : PySem.W.kitOne K (.ref X_OtherLetters) (.ref X_NoLine) = some false)
  (jk_NoLoop_NoEnd : PySem.W.kitOne K (.ref X_NoEnd) (.ref X_NoLoop) = some false)
  (jk_NoLoop_NoFraction : PySem.W.kitOne K (.ref X_NoFraction) (.ref X_NoLoop) = some false)
  (jk_NoLoop_NoKind : PySem.W.kitOne K (.ref X_NoKind) (.ref X_NoLoop) = some false)
  (jk_NoLoop_NoLine : PySem.W.kitOne K (.ref X_NoLine) (.ref X_NoLoop) = some false)
  (jk_NoLoop_NoLoop : PySem.W.kitOne K (.ref X_NoLoop) (.ref X_NoLoop) = some true)
  (jk_NoLoop_NoMachine : PySem.W.kitOne K (.ref X_NoMachine) (.ref X_NoLoop) = some false)
  (jk_NoLoop_NoName : PySem.W.kitOne K (.ref X_NoName) (.ref X_NoLoop) = some false)
  (jk_NoLoop_NoPaper : PySem.W.kitOne K (.ref X_NoPaper) (.ref X_NoLoop) = some false)
  (jk_NoLoop_NoRoom : PySem.W.kitOne K (.ref X_NoRoom) (.ref X_NoLoop) = some false)
  (jk_NoLoop_NoText : PySem.W.kitOne K (.ref X_NoText) (.ref X_NoLoop) = some false)
  (jk_NoLoop_NoWord : PySem.W.kitOne K (.ref X_NoWord) (.ref X_NoLoop) = some false)
  (jk_NoLoop_NotSettled : PySem.W.kitOne K (.ref X_NotSettled) (.ref X_NoLoop) = some false)
  (jk_NoLoop_OtherLetters : PySem.W.kitOne K (.ref X_OtherLetters) (.ref X_NoLoop) = some false)
  (jk_NoMachine_NoEnd : PySem.W.kitOne K (.ref X_NoEnd) (.ref X_NoMachine) = some false)
  (jk_NoMachine_NoFraction : PySem.W.kitOne K (.ref X_NoFraction) (.ref X_NoMachine) = some false)
  (jk_NoMachine_NoKind : PySem.W.kitOne K (.ref X_NoKind) (.ref X_NoMachine) = some false)
  (jk_NoMachine_NoLine : PySem.W.kitOne K (.ref X_NoLine) (.ref X_NoMachine) = some false)
  (jk_NoMachine_NoLoop : PySem.W.kitOne K (.ref X_NoLoop) (.ref X_NoMachine) = some false)
  (jk_NoMachine_NoMachine : PySem.W.kitOne K (.ref X_NoMachine) (.ref X_NoMachine) = some true)
  (jk_NoMachine_NoName : PySem.W.kitOne K (.ref X_NoName) (.ref X_NoMachine) = some false)
  (jk_NoMachine_NoPaper : PySem.W.kitOne K (.ref X_NoPaper) (.ref X_NoMachine) = some false)
  (jk_NoMachine_NoRoom : PySem.W.kitOne K (.ref X_NoRoom) (.ref X_NoMachine) = some false)
  (jk_NoMachine_NoText : PySem.W.kitOne K (.ref X_NoText) (.ref X_NoMachine) = some false)
  (jk_NoMachine_NoWord : PySem.W.kitOne K (.ref X_NoWord) (.ref X_NoMachine) = some false)
  (jk_NoMachine_NotSettled : PySem.W.kitOne K (.ref X_NotSettled) (.ref X_NoMachine) = some false)
  (jk_NoMachine_OtherLetters : PySem.W.kitOne K (.ref X_OtherLetters) (.ref X_NoMachine) = some false)
  (jk_NoName_NoEnd : PySem.W.kitOne K (.ref X_NoEnd) (.ref X_NoName) = some false)
  (jk_NoName_NoFraction : PySem.W.kitOne K (.ref X_NoFraction) (.ref X_NoName) = some false)
  (jk_NoName_NoKind : PySem.W.kitOne K (.ref X_NoKind) (.ref X_NoName) = some false)
  (jk_NoName_NoLine : PySem.W.kitOne K (.ref X_NoLine) (.ref X_NoName) = some false)
  (jk_NoName_NoLoop : PySem.W.kitOne K (.ref X_NoLoop) (.ref X_NoName) = some false)
  (jk_NoName_NoMachine : PySem.W.kitOne K (.ref X_NoMachine) (.ref X_NoName) = some false)
  (jk_NoName_NoName : PySem.W.kitOne K (.ref X_NoName) (.ref X_NoName) = some true)
  (jk_NoName_NoPaper : PySem.W.kitOne K (.ref X_NoPaper) (.ref X_NoName) = some false)
  (jk_NoName_NoRoom : PySem.W.kitOne K (.ref X_NoRoom) (.ref X_NoName) = some false)
  (jk_NoName_NoText : PySem.W.kitOne K (.ref X_NoText) (.ref X_NoName) = some false)
  (jk_NoName_NoWord : PySem.W.kitOne K (.ref X_NoWord) (.ref X_NoName) = some false)
  (jk_NoName_NotSettled : PySem.W.kitOne K (.ref X_NotSettled) (.ref X_NoName) = some false)
  (jk_NoName_OtherLetters : PySem.W.kitOne K (.ref X_OtherLetters) (.ref X_NoName) = some false)
  (jk_NoPaper_NoEnd : PySem.W.kitOne K (.ref X_NoEnd) (.ref X_NoPaper) = some false)
  (jk_NoPaper_NoFraction : PySem.W.kitOne K (.ref X_NoFraction) (.ref X_NoPaper) = some false)
  (jk_NoPaper_NoKind : PySem.W.kitOne K (.ref X_NoKind) (.ref X_NoPaper) = some false)
  (jk_NoPaper_NoLine : PySem.W.kitOne K (.ref X_NoLine) (.ref X_NoPaper) = some false)
  (jk_NoPaper_NoLoop : PySem.W.kitOne K (.ref X_NoLoop) (.ref X_NoPaper) = some false)
  (jk_NoPaper_NoMachine : PySem.W.kitOne K (.ref X_NoMachine) (.ref X_NoPaper) = some false)
  (jk_NoPaper_NoName : PySem.W.kitOne K (.ref X_NoName) (.ref X_NoPaper) = some false)
  (jk_NoPaper_NoPaper : PySem.W.kitOne K (.ref X_NoPaper) (.ref X_NoPaper) = some true)
  (jk_NoPaper_NoRoom : PySem.W.kitOne K (.ref X_NoRoom) (.ref X_NoPaper) = some false)
  (jk_NoPaper_NoText : PySem.W.kitOne K (.ref X_NoText) (.ref X_NoPaper) = some false)
  (jk_NoPaper_NoWord : PySem.W.kitOne K (.ref X_NoWord) (.ref X_NoPaper) = some false)
  (jk_NoPaper_NotSettled : PySem.W.kitOne K (.ref X_NotSettled) (.ref X_NoPaper) = some false)
  (jk_NoPaper_OtherLetters : PySem.W.kitOne K (.ref X_OtherLetters) (.ref X_NoPaper) = some false)
  (jk_NoRoom_NoEnd : PySem.W.kitOne K (.ref X_NoEnd) (.ref X_NoRoom) = some false)
  (jk_NoRoom_NoFraction : PySem.W.kitOne K (.ref X_NoFraction) (.ref X_NoRoom) = some false)
  (jk_NoRoom_NoKind : PySem.W.kitOne K (.ref X_NoKind) (.ref X_NoRoom) = some false)
  (jk_NoRoom_NoLine : PySem.W.kitOne K (.ref X_NoLine) (.ref X_NoRoom) = some false)
  (jk_NoRoom_NoLoop : PySem.W.kitOne K (.ref X_NoLoop) (.ref X_NoRoom) = some false)
  (jk_NoRoom_NoMachine : PySem.W.kitOne K (.ref X_NoMachine) (.ref X_NoRoom) = some false)
  (jk_NoRoom_NoName : PySem.W.kitOne K (.ref X_NoName) (.ref X_NoRoom) = some false)
  (jk_NoRoom_NoPaper : PySem.W.kitOne K (.ref X_NoPaper) (.ref X_NoRoom) = some false)
  (jk_NoRoom_NoRoom : PySem.W.kitOne K (.ref X_NoRoom) (.ref X_NoRoom) = some true)
  (jk_NoRoom_NoText : PySem.W.kitOne K (.ref X_NoText) (.ref X_NoRoom) = some false)
  (jk_NoRoom_NoWord : PySem.W.kitOne K (.ref X_NoWord) (.ref X_NoRoom) = some false)
  (jk_NoRoom_NotSettled : PySem.W.kitOne K (.ref X_NotSettled) (.ref X_NoRoom) = some false)
  (jk_NoRoom_OtherLetters : PySem.W.kitOne K (.ref X_OtherLetters) (.ref X_NoRoom) = some false)
  (jk_NoText_NoEnd : PySem.W.kitOne K (.ref X_NoEnd) (.ref X_NoText) = some false)
  (jk_NoText_NoFraction : PySem.W.kitOne K (.ref X_NoFraction) (.ref X_NoText) = some false)
  (jk_NoText_NoKind : PySem.W.kitOne K (.ref X_NoKind) (.ref X_NoText) = some false)
  (jk_NoText_NoLine : PySem.W.kitOne K (.ref X_NoLine) (.ref X_NoText) = some false)
  (jk_NoText_NoLoop : PySem.W.kitOne K (.ref X_NoLoop) (.ref X_NoText) = some false)
  (jk_NoText_NoMachine : PySem.W.kitOne K (.ref X_NoMachine) (.ref X_NoText) = some false)
  (jk_NoText_NoName : PySem.W.kitOne K (.ref X_NoName) (.ref X_NoText) = some false)
  (jk_NoText_NoPaper : PySem.W.kitOne K (.ref X_NoPaper) (.ref X_NoText) = some false)
  (jk_NoText_NoRoom : PySem.W.kitOne K (.ref X_NoRoom) (.ref X_NoText) = some false)
  (jk_NoText_NoText : PySem.W.kitOne K (.ref X_NoText) (.ref X_NoText) = some true)
  (jk_NoText_NoWord : PySem.W.kitOne K (.ref X_NoWord) (.ref X_NoText) = some false)
  (jk_NoText_NotSettled : PySem.W.kitOne K (.ref X_NotSettled) (.ref X_NoText) = some false)
  (jk_NoText_OtherLetters : PySem.W.kitOne K (.ref X_OtherLetters) (.ref X_NoText) = some false)
  (jk_NoWord_NoEnd : PySem.W.kitOne K (.ref X_NoEnd) (.ref X_NoWord) = some false)
  (jk_NoWord_NoFraction : PySem.W.kitOne K (.ref X_NoFraction) (.ref X_NoWord) = some false)
  (jk_NoWord_NoKind : PySem.W.kitOne K (.ref X_NoKind) (.ref X_NoWord) = some false)
  (jk_NoWord_NoLine : PySem.W.kitOne K (.ref X_NoLine) (.ref X_NoWord) = some false)
  (jk_NoWord_NoLoop : PySem.W.kitOne K (.ref X_NoLoop) (.ref X_NoWord) = some false)
  (jk_NoWord_NoMachine : PySem.W.kitOne K (.ref X_NoMachine) (.ref X_NoWord) = some false)
  (jk_NoWord_NoName : PySem.W.kitOne K (.ref X_NoName) (.ref X_NoWord) = some false)
  (jk_NoWord_NoPaper : PySem.W.kitOne K (.ref X_NoPaper) (.ref X_NoWord) = some false)
  (jk_NoWord_NoRoom : PySem.W.kitOne K (.ref X_NoRoom) (.ref X_NoWord) = some false)
  (jk_NoWord_NoText : PySem.W.kitOne K (.ref X_NoText) (.ref X_NoWord) = some false)
  (jk_NoWord_NoWord : PySem.W.kitOne K (.ref X_NoWord) (.ref X_NoWord) = some true)
  (jk_NoWord_NotSettled : PySem.W.kitOne K (.ref X_NotSettled) (.ref X_NoWord) = some false)
  (jk_NoWord_OtherLetters : PySem.W.kitOne K (.ref X_OtherLetters) (.ref X_NoWord) = some false)
  (jk_NotSettled_NoEnd : PySem.W.kitOne K (.ref X_NoEnd) (.ref X_NotSettled) = some false)
  (jk_NotSettled_NoFraction : PySem.W.kitOne K (.ref X_NoFraction) (.ref X_NotSettled) = some false)
  (jk_NotSettled_NoKind : PySem.W.kitOne K (.ref X_NoKind) (.ref X_NotSettled) = some false)
  (jk_NotSettled_NoLine : PySem.W.kitOne K (.ref X_NoLine) (.ref X_NotSettled) = some false)
  (jk_NotSettled_NoLoop : PySem.W.kitOne K (.ref X_NoLoop) (.ref X_NotSettled) = some false)
  (jk_NotSettled_NoMachine : PySem.W.kitOne K (.ref X_NoMachine) (.ref X_NotSettled) = some false)
  (jk_NotSettled_NoName : PySem.W.kitOne K (.ref X_NoName) (.ref X_NotSettled) = some false)
  (jk_NotSettled_NoPaper : PySem.W.kitOne K (.ref X_NoPaper) (.ref X_NotSettled) = some false)
  (jk_NotSettled_NoRoom : PySem.W.kitOne K (.ref X_NoRoom) (.ref X_NotSettled) = some false)
  (jk_NotSettled_NoText : PySem.W.kitOne K (.ref X_NoText) (.ref X_NotSettled) = some false)
  (jk_NotSettled_NoWord : PySem.W.kitOne K (.ref X_NoWord) (.ref X_NotSettled) = some false)
  (jk_NotSettled_NotSettled : PySem.W.kitOne K (.ref X_NotSettled) (.ref X_NotSettled) = some true)
  (jk_NotSettled_OtherLetters : PySem.W.kitOne K (.ref X_OtherLetters) (.ref X_NotSettled) = some false)
  (jk_OtherLetters_NoEnd : PySem.W.kitOne K (.ref X_NoEnd) (.ref X_OtherLetters) = some false)
  (jk_OtherLetters_NoFraction : PySem.W.kitOne K (.ref X_NoFraction) (.ref X_OtherLetters) = some false)
  (jk_OtherLetters_NoKind : PySem.W.kitOne K (.ref X_NoKind) (.ref X_OtherLetters) = some false)
  (jk_OtherLetters_NoLine : PySem.W.kitOne K (.ref X_NoLine) (.ref X_OtherLetters) = some false)
  (jk_OtherLetters_NoLoop : PySem.W.kitOne K (.ref X_NoLoop) (.ref X_OtherLetters) = some false)
  (jk_OtherLetters_NoMachine : PySem.W.kitOne K (.ref X_NoMachine) (.ref X_OtherLetters) = some false)
  (jk_OtherLetters_NoName : PySem.W.kitOne K (.ref X_NoName) (.ref X_OtherLetters) = some false)
  (jk_OtherLetters_NoPaper : PySem.W.kitOne K (.ref X_NoPaper) (.ref X_OtherLetters) = some false)
  (jk_OtherLetters_NoRoom : PySem.W.kitOne K (.ref X_NoRoom) (.ref X_OtherLetters) = some false)
  (jk_OtherLetters_NoText : PySem.W.kitOne K (.ref X_NoText) (.ref X_OtherLetters) = some false)
  (jk_OtherLetters_NoWord : PySem.W.kitOne K (.ref X_NoWord) (.ref X_OtherLetters) = some false)
  (jk_OtherLetters_NotSettled : PySem.W.kitOne K (.ref X_NotSettled) (.ref X_OtherLetters) = some false)
  (jk_OtherLetters_OtherLetters : PySem.W.kitOne K (.ref X_OtherLetters) (.ref X_OtherLetters) = some true)
  (jk_RankError_NoEnd : PySem.W.kitOne K (.ref X_NoEnd) (.ref X_RankError) = some true)
  (jk_RankError_NoFraction : PySem.W.kitOne K (.ref X_NoFraction) (.ref X_RankError) = some true)
  (jk_RankError_NoKind : PySem.W.kitOne K (.ref X_NoKind) (.ref X_RankError) = some true)
  (jk_RankError_NoLine : PySem.W.kitOne K (.ref X_NoLine) (.ref X_RankError) = some true)
  (jk_RankError_NoLoop : PySem.W.kitOne K (.ref X_NoLoop) (.ref X_RankError) = some true)
  (jk_RankError_NoMachine : PySem.W.kitOne K (.ref X_NoMachine) (.ref X_RankError) = some true)
  (jk_RankError_NoName : PySem.W.kitOne K (.ref X_NoName) (.ref X_RankError) = some true)
  (jk_RankError_NoPaper : PySem.W.kitOne K (.ref X_NoPaper) (.ref X_RankError) = some true)
  (jk_RankError_NoRoom : PySem.W.kitOne K (.ref X_NoRoom) (.ref X_RankError) = some true)
  (jk_RankError_NoText : PySem.W.kitOne K (.ref X_NoText) (.ref X_RankError) = some true)
  (jk_RankError_NoWord : PySem.W.kitOne K (.ref X_NoWord) (.ref X_RankError) = some true)
  (jk_RankError_NotSettled : PySem.W.kitOne K (.ref X_NotSettled) (.ref X_RankError) = some true)
  (jk_RankError_OtherLetters : PySem.W.kitOne K (.ref X_OtherLetters) (.ref X_RankError) = some true)
  (jk_ValueError_NoEnd : PySem.W.kitOne K (.ref X_NoEnd) (.type "ValueError") = some true)
  (jk_ValueError_NoFraction : PySem.W.kitOne K (.ref X_NoFraction) (.type "ValueError") = some true)
  (jk_ValueError_NoKind : PySem.W.kitOne K (.ref X_NoKind) (.type "ValueError") = some true)
  (jk_ValueError_NoLine : PySem.W.kitOne K (.ref X_NoLine) (.type "ValueError") = some true)
  (jk_ValueError_NoLoop : PySem.W.kitOne K (.ref X_NoLoop) (.type "ValueError") = some true)
  (jk_ValueError_NoMachine : PySem.W.kitOne K (.ref X_NoMachine) (.type "ValueError") = some true)
  (jk_ValueError_NoName : PySem.W.kitOne K (.ref X_NoName) (.type "ValueError") = some true)
  (jk_ValueError_NoPaper : PySem.W.kitOne K (.ref X_NoPaper) (.type "ValueError") = some true)
  (jk_ValueError_NoRoom : PySem.W.kitOne K (.ref X_NoRoom) (.type "ValueError") = some true)
  (jk_ValueError_NoText : PySem.W.kitOne K (.ref X_NoText) (.type "ValueError") = some true)
  (jk_ValueError_NoWord : PySem.W.kitOne K (.ref X_NoWord) (.type "ValueError") = some true)
  (jk_ValueError_NotSettled : PySem.W.kitOne K (.ref X_NotSettled) (.type "ValueError") = some true)
  (jk_ValueError_OtherLetters : PySem.W.kitOne K (.ref X_OtherLetters) (.type "ValueError") = some true)
  (a1 : PySem.W.nsIn K mainGlobals "_law_text" = some (some (.ref f1)))
  (l1 : K.lookup f1 = some ⟨oc1, od1, .func (PySem.W.fnOf "_law_text" "_law_text" (defArgs s__law_text) (defBody s__law_text) (defScope s__law_text) .none kV1 dc1 pm1 an1 cd1 ct1), sl1⟩)
  (c1 : PySem.W.codeIn K cd1 "_law_text" = true)
  (k1 : PySem.W.keepIn K (.ref f1) = true)
  (a2 : PySem.W.nsIn K mainGlobals "_law_first" = some (some (.ref f2)))
  (l2 : K.lookup f2 = some ⟨oc2, od2, .func (PySem.W.fnOf "_law_first" "_law_first" (defArgs s__law_first) (defBody s__law_first) (defScope s__law_first) .none kV2 dc2 pm2 an2 cd2 ct2), sl2⟩)
  (c2 : PySem.W.codeIn K cd2 "_law_first" = true)
  (k2 : PySem.W.keepIn K (.ref f2) = true)
  (a3 : PySem.W.nsIn K mainGlobals "_law_second" = some (some (.ref f3)))
  (l3 : K.lookup f3 = some ⟨oc3, od3, .func (PySem.W.fnOf "_law_second" "_law_second" (defArgs s__law_second) (defBody s__law_second) (defScope s__law_second) .none kV3 dc3 pm3 an3 cd3 ct3), sl3⟩)
  (c3 : PySem.W.codeIn K cd3 "_law_second" = true)
  (k3 : PySem.W.keepIn K (.ref f3) = true)
  (l4 : K.lookup f4 = some ⟨oc4, od4, .func (PySem.W.fnOf "__init__" "NotSettled.__init__" (defArgs s_NotSettled___init__) (defBody s_NotSettled___init__) (defScope s_NotSettled___init__) .none kV4 dc4 pm4 an4 cd4 ct4), sl4⟩)
  (c4 : PySem.W.codeIn K cd4 "NotSettled.__init__" = true)
  (k4 : PySem.W.keepIn K (.ref f4) = true)
  (a5 : PySem.W.nsIn K mainGlobals "_law_made" = some (some (.ref f5)))
  (l5 : K.lookup f5 = some ⟨oc5, od5, .func (PySem.W.fnOf "_law_made" "_law_made" (defArgs s__law_made) (defBody s__law_made) (defScope s__law_made) .none kV5 dc5 pm5 an5 cd5 ct5), sl5⟩)
  (c5 : PySem.W.codeIn K cd5 "_law_made" = true)
  (k5 : PySem.W.keepIn K (.ref f5) = true)
  (a6 : PySem.W.nsIn K mainGlobals "_law_kinds" = some (some (.ref f6)))
  (l6 : K.lookup f6 = some ⟨oc6, od6, .func (PySem.W.fnOf "_law_kinds" "_law_kinds" (defArgs s__law_kinds) (defBody s__law_kinds) (defScope s__law_kinds) .none kV6 dc6 pm6 an6 cd6 ct6), sl6⟩)
  (c6 : PySem.W.codeIn K cd6 "_law_kinds" = true)
  (k6 : PySem.W.keepIn K (.ref f6) = true)
  (a7 : PySem.W.nsIn K mainGlobals "law" = some (some (.ref f7)))
  (l7 : K.lookup f7 = some ⟨oc7, od7, .func (PySem.W.fnOf "law" "law" (defArgs s_law) (defBody s_law) (defScope s_law) .none kV7 dc7 pm7 an7 cd7 ct7), sl7⟩)
  (c7 : PySem.W.codeIn K cd7 "law" = true)
  (k7 : PySem.W.keepIn K (.ref f7) = true)
  (z_ValueError : PySem.W.nsIn K mainGlobals "ValueError" = some none)
  (z_isinstance : PySem.W.nsIn K mainGlobals "isinstance" = some none)
  (z_range : PySem.W.nsIn K mainGlobals "range" = some none) :
  ∃ fd : FuncData, (∀ (s : Shared) (v : Value), BindsTo s fd ⟨[v], []⟩ [("_law_script", v)]) /\ ∀ base : Heap, K.In base -> base.Ns mainGlobals mg -> FnOk l.prog w K mg base CX0 4 fa fd ["_law_script"] (spI K 1 p_law) := by
 have e := hfa.symm.trans (PySem.W.mg_of X G a7)
 cases e
 obtain ⟨bm_NoEnd, e_NoEnd⟩ := excAt_mk FE y_NoEnd y0_NoEnd y1_NoEnd y6_NoEnd y7_NoEnd y2_NoEnd y3 y4 y5_NoEnd
 have ge_NoEnd := PySem.W.mg_of X G y_NoEnd
 obtain ⟨bm_NoFraction, e_NoFraction⟩ := excAt_mk FE y_NoFraction y0_NoFraction y1_NoFraction y6_NoFraction y7_NoFraction y2_NoFraction y3 y4 y5_NoFraction
 have ge_NoFraction := PySem.W.mg_of X G y_NoFraction
 obtain ⟨bm_NoKind, e_NoKind⟩ := excAt_mk FE y_NoKind y0_NoKind y1_NoKind y6_NoKind y7_NoKind y2_NoKind y3 y4 y5_NoKind
 have ge_NoKind := PySem.W.mg_of X G y_NoKind
 obtain ⟨bm_NoLine, e_NoLine⟩ := excAt_mk FE y_NoLine y0_NoLine y1_NoLine y6_NoLine y7_NoLine y2_NoLine y3 y4 y5_NoLine
 have ge_NoLine := PySem.W.mg_of X G y_NoLine
 obtain ⟨bm_NoLoop, e_NoLoop⟩ := excAt_mk FE y_NoLoop y0_NoLoop y1_NoLoop y6_NoLoop y7_NoLoop y2_NoLoop y3 y4 y5_NoLoop
 have ge_NoLoop := PySem.W.mg_of X G y_NoLoop
 obtain ⟨bm_NoMachine, e_NoMachine⟩ := excAt_mk FE y_NoMachine y0_NoMachine y1_NoMachine y6_NoMachine y7_NoMachine y2_NoMachine y3 y4 y5_NoMachine
 have ge_NoMachine := PySem.W.mg_of X G y_NoMachine
 obtain ⟨bm_NoName, e_NoName⟩ := excAt_mk FE y_NoName y0_NoName y1_NoName y6_NoName y7_NoName y2_NoName y3 y4 y5_NoName
 have ge_NoName := PySem.W.mg_of X G y_NoName
 obtain ⟨bm_NoPaper, e_NoPaper⟩ := excAt_mk FE y_NoPaper y0_NoPaper y1_NoPaper y6_NoPaper y7_NoPaper y2_NoPaper y3 y4 y5_NoPaper
 have ge_NoPaper := PySem.W.mg_of X G y_NoPaper
 obtain ⟨bm_NoRoom, e_NoRoom⟩ := excAt_mk FE y_NoRoom y0_NoRoom y1_NoRoom y6_NoRoom y7_NoRoom y2_NoRoom y3 y4 y5_NoRoom
 have ge_NoRoom := PySem.W.mg_of X G y_NoRoom
 obtain ⟨bm_NoText, e_NoText⟩ := excAt_mk FE y_NoText y0_NoText y1_NoText y6_NoText y7_NoText y2_NoText y3 y4 y5_NoText
 have ge_NoText := PySem.W.mg_of X G y_NoText
 obtain ⟨bm_NoWord, e_NoWord⟩ := excAt_mk FE y_NoWord y0_NoWord y1_NoWord y6_NoWord y7_NoWord y2_NoWord y3 y4 y5_NoWord
 have ge_NoWord := PySem.W.mg_of X G y_NoWord
 have xa_NotSettled := xAt_mk FE y_NotSettled y0_NotSettled y1_NotSettled y6_NotSettled y7_NotSettled y2_NotSettled y3 y4 y5_NotSettled y8_NotSettled y9_NotSettled kq_NotSettled e4
 have ge_NotSettled := PySem.W.mg_of X G y_NotSettled
 obtain ⟨bm_OtherLetters, e_OtherLetters⟩ := excAt_mk FE y_OtherLetters y0_OtherLetters y1_OtherLetters y6_OtherLetters y7_OtherLetters y2_OtherLetters y3 y4 y5_OtherLetters
 have ge_OtherLetters := PySem.W.mg_of X G y_OtherLetters
 obtain ⟨bm_RankError, e_RankError⟩ := excAt_mk FE y_RankError y0_RankError y1_RankError y6_RankError y7_RankError y2_RankError y3 y4 y5_RankError
 have ge_RankError := PySem.W.mg_of X G y_RankError
 have ik_NoEnd_NoEnd := isK_mk y_NoEnd jk_NoEnd_NoEnd
 have ik_NoEnd_NoFraction := isK_mk y_NoFraction jk_NoEnd_NoFraction
 have ik_NoEnd_NoKind := isK_mk y_NoKind jk_NoEnd_NoKind
 have ik_NoEnd_NoLine := isK_mk y_NoLine jk_NoEnd_NoLine
 have ik_NoEnd_NoLoop := isK_mk y_NoLoop jk_NoEnd_NoLoop
 have ik_NoEnd_NoMachine := isK_mk y_NoMachine jk_NoEnd_NoMachine
 have ik_NoEnd_NoName := isK_mk y_NoName jk_NoEnd_NoName
 have ik_NoEnd_NoPaper := isK_mk y_NoPaper jk_NoEnd_NoPaper
 have ik_NoEnd_NoRoom := isK_mk y_NoRoom jk_NoEnd_NoRoom
 have ik_NoEnd_NoText := isK_mk y_NoText jk_NoEnd_NoText
 have ik_NoEnd_NoWord := isK_mk y_NoWord jk_NoEnd_NoWord
 have ik_NoEnd_NotSettled := isK_mk y_NotSettled jk_NoEnd_NotSettled
 have ik_NoEnd_OtherLetters := isK_mk y_OtherLetters jk_NoEnd_OtherLetters
 have ik_NoFraction_NoEnd := isK_mk y_NoEnd jk_NoFraction_NoEnd
 have ik_NoFraction_NoFraction := isK_mk y_NoFraction jk_NoFraction_NoFraction
 have ik_NoFraction_NoKind := isK_mk y_NoKind jk_NoFraction_NoKind
 have ik_NoFraction_NoLine := isK_mk y_NoLine jk_NoFraction_NoLine
 have ik_NoFraction_NoLoop := isK_mk y_NoLoop jk_NoFraction_NoLoop
 have ik_NoFraction_NoMachine := isK_mk y_NoMachine jk_NoFraction_NoMachine
 have ik_NoFraction_NoName := isK_mk y_NoName jk_NoFraction_NoName
 have ik_NoFraction_NoPaper := isK_mk y_NoPaper jk_NoFraction_NoPaper
 have ik_NoFraction_NoRoom := isK_mk y_NoRoom jk_NoFraction_NoRoom
 have ik_NoFraction_NoText := isK_mk y_NoText jk_NoFraction_NoText
 have ik_NoFraction_NoWord := isK_mk y_NoWord jk_NoFraction_NoWord
 have ik_NoFraction_NotSettled := isK_mk y_NotSettled jk_NoFraction_NotSettled
 have ik_NoFraction_OtherLetters := isK_mk y_OtherLetters jk_NoFraction_OtherLetters
 have ik_NoKind_NoEnd := isK_mk y_NoEnd jk_NoKind_NoEnd
 have ik_NoKind_NoFraction := isK_mk y_NoFraction jk_NoKind_NoFraction
 have ik_NoKind_NoKind := isK_mk y_NoKind jk_NoKind_NoKind
 have ik_NoKind_NoLine := isK_mk y_NoLine jk_NoKind_NoLine
 have ik_NoKind_NoLoop := isK_mk y_NoLoop jk_NoKind_NoLoop
 have ik_NoKind_NoMachine := isK_mk y_NoMachine jk_NoKind_NoMachine
 have ik_NoKind_NoName := isK_mk y_NoName jk_NoKind_NoName
 have ik_NoKind_NoPaper := isK_mk y_NoPaper jk_NoKind_NoPaper
 have ik_NoKind_NoRoom := isK_mk y_NoRoom jk_NoKind_NoRoom
 have ik_NoKind_NoText := isK_mk y_NoText jk_NoKind_NoText
 have ik_NoKind_NoWord := isK_mk y_NoWord jk_NoKind_NoWord
 have ik_NoKind_NotSettled := isK_mk y_NotSettled jk_NoKind_NotSettled
 have ik_NoKind_OtherLetters := isK_mk y_OtherLetters jk_NoKind_OtherLetters
 have ik_NoLine_NoEnd := isK_mk y_NoEnd jk_NoLine_NoEnd
 have ik_NoLine_NoFraction := isK_mk y_NoFraction jk_NoLine_NoFraction
 have ik_NoLine_NoKind := isK_mk y_NoKind jk_NoLine_NoKind
 have ik_NoLine_NoLine := isK_mk y_NoLine jk_NoLine_NoLine
 have ik_NoLine_NoLoop := isK_mk y_NoLoop jk_NoLine_NoLoop
 have ik_NoLine_NoMachine := isK_mk y_NoMachine jk_NoLine_NoMachine
 have ik_NoLine_NoName := isK_mk y_NoName jk_NoLine_NoName
 have ik_NoLine_NoPaper := isK_mk y_NoPaper jk_NoLine_NoPaper
 have ik_NoLine_NoRoom := isK_mk y_NoRoom jk_NoLine_NoRoom
 have ik_NoLine_NoText := isK_mk y_NoText jk_NoLine_NoText
 have ik_NoLine_NoWord := isK_mk y_NoWord jk_NoLine_NoWord
 have ik_NoLine_NotSettled := isK_mk y_NotSettled jk_NoLine_NotSettled
 have ik_NoLine_OtherLetters := isK_mk y_OtherLetters jk_NoLine_OtherLetters
 have ik_NoLoop_NoEnd := isK_mk y_NoEnd jk_NoLoop_NoEnd
 have ik_NoLoop_NoFraction := isK_mk y_NoFraction jk_NoLoop_NoFraction
 have ik_NoLoop_NoKind := isK_mk y_NoKind jk_NoLoop_NoKind
 have ik_NoLoop_NoLine := isK_mk y_NoLine jk_NoLoop_NoLine
 have ik_NoLoop_NoLoop := isK_mk y_NoLoop jk_NoLoop_NoLoop
 have ik_NoLoop_NoMachine := isK_mk y_NoMachine jk_NoLoop_NoMachine
 have ik_NoLoop_NoName := isK_mk y_NoName jk_NoLoop_NoName
 have ik_NoLoop_NoPaper := isK_mk y_NoPaper jk_NoLoop_NoPaper
 have ik_NoLoop_NoRoom := isK_mk y_NoRoom jk_NoLoop_NoRoom
 have ik_NoLoop_NoText := isK_mk y_NoText jk_NoLoop_NoText
 have ik_NoLoop_NoWord := isK_mk y_NoWord jk_NoLoop_NoWord
 have ik_NoLoop_NotSettled := isK_mk y_NotSettled jk_NoLoop_NotSettled
 have ik_NoLoop_OtherLetters := isK_mk y_OtherLetters jk_NoLoop_OtherLetters
 have ik_NoMachine_NoEnd := isK_mk y_NoEnd jk_NoMachine_NoEnd
 have ik_NoMachine_NoFraction := isK_mk y_NoFraction jk_NoMachine_NoFraction
 have ik_NoMachine_NoKind := isK_mk y_NoKind jk_NoMachine_NoKind
 have ik_NoMachine_NoLine := isK_mk y_NoLine jk_NoMachine_NoLine
 have ik_NoMachine_NoLoop := isK_mk y_NoLoop jk_NoMachine_NoLoop
 have ik_NoMachine_NoMachine := isK_mk y_NoMachine jk_NoMachine_NoMachine
 have ik_NoMachine_NoName := isK_mk y_NoName jk_NoMachine_NoName
 have ik_NoMachine_NoPaper := isK_mk y_NoPaper jk_NoMachine_NoPaper
 have ik_NoMachine_NoRoom := isK_mk y_NoRoom jk_NoMachine_NoRoom
 have ik_NoMachine_NoText := isK_mk y_NoText jk_NoMachine_NoText
 have ik_NoMachine_NoWord := isK_mk y_NoWord jk_NoMachine_NoWord
 have ik_NoMachine_NotSettled := isK_mk y_NotSettled jk_NoMachine_NotSettled
 have ik_NoMachine_OtherLetters := isK_mk y_OtherLetters jk_NoMachine_OtherLetters
 have ik_NoName_NoEnd := isK_mk y_NoEnd jk_NoName_NoEnd
 have ik_NoName_NoFraction := isK_mk y_NoFraction jk_NoName_NoFraction
 have ik_NoName_NoKind := isK_mk y_NoKind jk_NoName_NoKind
 have ik_NoName_NoLine := isK_mk y_NoLine jk_NoName_NoLine
 have ik_NoName_NoLoop := isK_mk y_NoLoop jk_NoName_NoLoop
 have ik_NoName_NoMachine := isK_mk y_NoMachine jk_NoName_NoMachine
 have ik_NoName_NoName := isK_mk y_NoName jk_NoName_NoName
 have ik_NoName_NoPaper := isK_mk y_NoPaper jk_NoName_NoPaper
 have ik_NoName_NoRoom := isK_mk y_NoRoom jk_NoName_NoRoom
 have ik_NoName_NoText := isK_mk y_NoText jk_NoName_NoText
 have ik_NoName_NoWord := isK_mk y_NoWord jk_NoName_NoWord
 have ik_NoName_NotSettled := isK_mk y_NotSettled jk_NoName_NotSettled
 have ik_NoName_OtherLetters := isK_mk y_OtherLetters jk_NoName_OtherLetters
 have ik_NoPaper_NoEnd := isK_mk y_NoEnd jk_NoPaper_NoEnd
 have ik_NoPaper_NoFraction := isK_mk y_NoFraction jk_NoPaper_NoFraction
 have ik_NoPaper_NoKind := isK_mk y_NoKind jk_NoPaper_NoKind
 have ik_NoPaper_NoLine := isK_mk y_NoLine jk_NoPaper_NoLine
 have ik_NoPaper_NoLoop := isK_mk y_NoLoop jk_NoPaper_NoLoop
 have ik_NoPaper_NoMachine := isK_mk y_NoMachine jk_NoPaper_NoMachine
 have ik_NoPaper_NoName := isK_mk y_NoName jk_NoPaper_NoName
 have ik_NoPaper_NoPaper := isK_mk y_NoPaper jk_NoPaper_NoPaper
 have ik_NoPaper_NoRoom := isK_mk y_NoRoom jk_NoPaper_NoRoom
 have ik_NoPaper_NoText := isK_mk y_NoText jk_NoPaper_NoText
 have ik_NoPaper_NoWord := isK_mk y_NoWord jk_NoPaper_NoWord
 have ik_NoPaper_NotSettled := isK_mk y_NotSettled jk_NoPaper_NotSettled
 have ik_NoPaper_OtherLetters := isK_mk y_OtherLetters jk_NoPaper_OtherLetters
 have ik_NoRoom_NoEnd := isK_mk y_NoEnd jk_NoRoom_NoEnd
 have ik_NoRoom_NoFraction := isK_mk y_NoFraction jk_NoRoom_NoFraction
 have ik_NoRoom_NoKind := isK_mk y_NoKind jk_NoRoom_NoKind
 have ik_NoRoom_NoLine := isK_mk y_NoLine jk_NoRoom_NoLine
 have ik_NoRoom_NoLoop := isK_mk y_NoLoop jk_NoRoom_NoLoop
 have ik_NoRoom_NoMachine := isK_mk y_NoMachine jk_NoRoom_NoMachine
 have ik_NoRoom_NoName := isK_mk y_NoName jk_NoRoom_NoName
 have ik_NoRoom_NoPaper := isK_mk y_NoPaper jk_NoRoom_NoPaper
 have ik_NoRoom_NoRoom := isK_mk y_NoRoom jk_NoRoom_NoRoom
 have ik_NoRoom_NoText := isK_mk y_NoText jk_NoRoom_NoText
 have ik_NoRoom_NoWord := isK_mk y_NoWord jk_NoRoom_NoWord
 have ik_NoRoom_NotSettled := isK_mk y_NotSettled jk_NoRoom_NotSettled
 have ik_NoRoom_OtherLetters := isK_mk y_OtherLetters jk_NoRoom_OtherLetters
 have ik_NoText_NoEnd := isK_mk y_NoEnd jk_NoText_NoEnd
 have ik_NoText_NoFraction := isK_mk y_NoFraction jk_NoText_NoFraction
 have ik_NoText_NoKind := isK_mk y_NoKind jk_NoText_NoKind
 have ik_NoText_NoLine := isK_mk y_NoLine jk_NoText_NoLine
 have ik_NoText_NoLoop := isK_mk y_NoLoop jk_NoText_NoLoop
 have ik_NoText_NoMachine := isK_mk y_NoMachine jk_NoText_NoMachine
 have ik_NoText_NoName := isK_mk y_NoName jk_NoText_NoName
 have ik_NoText_NoPaper := isK_mk y_NoPaper jk_NoText_NoPaper
 have ik_NoText_NoRoom := isK_mk y_NoRoom jk_NoText_NoRoom
 have ik_NoText_NoText := isK_mk y_NoText jk_NoText_NoText
 have ik_NoText_NoWord := isK_mk y_NoWord jk_NoText_NoWord
 have ik_NoText_NotSettled := isK_mk y_NotSettled jk_NoText_NotSettled
 have ik_NoText_OtherLetters := isK_mk y_OtherLetters jk_NoText_OtherLetters
 have ik_NoWord_NoEnd := isK_mk y_NoEnd jk_NoWord_NoEnd
 have ik_NoWord_NoFraction := isK_mk y_NoFraction jk_NoWord_NoFraction
 have ik_NoWord_NoKind := isK_mk y_NoKind jk_NoWord_NoKind
 have ik_NoWord_NoLine := isK_mk y_NoLine jk_NoWord_NoLine
 have ik_NoWord_NoLoop := isK_mk y_NoLoop jk_NoWord_NoLoop
 have ik_NoWord_NoMachine := isK_mk y_NoMachine jk_NoWord_NoMachine
 have ik_NoWord_NoName := isK_mk y_NoName jk_NoWord_NoName
 have ik_NoWord_NoPaper := isK_mk y_NoPaper jk_NoWord_NoPaper
 have ik_NoWord_NoRoom := isK_mk y_NoRoom jk_NoWord_NoRoom
 have ik_NoWord_NoText := isK_mk y_NoText jk_NoWord_NoText
 have ik_NoWord_NoWord := isK_mk y_NoWord jk_NoWord_NoWord
 have ik_NoWord_NotSettled := isK_mk y_NotSettled jk_NoWord_NotSettled
 have ik_NoWord_OtherLetters := isK_mk y_OtherLetters jk_NoWord_OtherLetters
 have ik_NotSettled_NoEnd := isK_mk y_NoEnd jk_NotSettled_NoEnd
 have ik_NotSettled_NoFraction := isK_mk y_NoFraction jk_NotSettled_NoFraction
 have ik_NotSettled_NoKind := isK_mk y_NoKind jk_NotSettled_NoKind
 have ik_NotSettled_NoLine := isK_mk y_NoLine jk_NotSettled_NoLine
 have ik_NotSettled_NoLoop := isK_mk y_NoLoop jk_NotSettled_NoLoop
 have ik_NotSettled_NoMachine := isK_mk y_NoMachine jk_NotSettled_NoMachine
 have ik_NotSettled_NoName := isK_mk y_NoName jk_NotSettled_NoName
 have ik_NotSettled_NoPaper := isK_mk y_NoPaper jk_NotSettled_NoPaper
 have ik_NotSettled_NoRoom := isK_mk y_NoRoom jk_NotSettled_NoRoom
 have ik_NotSettled_NoText := isK_mk y_NoText jk_NotSettled_NoText
 have ik_NotSettled_NoWord := isK_mk y_NoWord jk_NotSettled_NoWord
 have ik_NotSettled_NotSettled := isK_mk y_NotSettled jk_NotSettled_NotSettled
 have ik_NotSettled_OtherLetters := isK_mk y_OtherLetters jk_NotSettled_OtherLetters
 have ik_OtherLetters_NoEnd := isK_mk y_NoEnd jk_OtherLetters_NoEnd
 have ik_OtherLetters_NoFraction := isK_mk y_NoFraction jk_OtherLetters_NoFraction
 have ik_OtherLetters_NoKind := isK_mk y_NoKind jk_OtherLetters_NoKind
 have ik_OtherLetters_NoLine := isK_mk y_NoLine jk_OtherLetters_NoLine
 have ik_OtherLetters_NoLoop := isK_mk y_NoLoop jk_OtherLetters_NoLoop
 have ik_OtherLetters_NoMachine := isK_mk y_NoMachine jk_OtherLetters_NoMachine
 have ik_OtherLetters_NoName := isK_mk y_NoName jk_OtherLetters_NoName
 have ik_OtherLetters_NoPaper := isK_mk y_NoPaper jk_OtherLetters_NoPaper
 have ik_OtherLetters_NoRoom := isK_mk y_NoRoom jk_OtherLetters_NoRoom
 have ik_OtherLetters_NoText := isK_mk y_NoText jk_OtherLetters_NoText
 have ik_OtherLetters_NoWord := isK_mk y_NoWord jk_OtherLetters_NoWord
 have ik_OtherLetters_NotSettled := isK_mk y_NotSettled jk_OtherLetters_NotSettled
 have ik_OtherLetters_OtherLetters := isK_mk y_OtherLetters jk_OtherLetters_OtherLetters
 have ik_RankError_NoEnd := isK_mk y_NoEnd jk_RankError_NoEnd
 have ik_RankError_NoFraction := isK_mk y_NoFraction jk_RankError_NoFraction
 have ik_RankError_NoKind := isK_mk y_NoKind jk_RankError_NoKind
 have ik_RankError_NoLine := isK_mk y_NoLine jk_RankError_NoLine
 have ik_RankError_NoLoop := isK_mk y_NoLoop jk_RankError_NoLoop
 have ik_RankError_NoMachine := isK_mk y_NoMachine jk_RankError_NoMachine
 have ik_RankError_NoName := isK_mk y_NoName jk_RankError_NoName
 have ik_RankError_NoPaper := isK_mk y_NoPaper jk_RankError_NoPaper
 have ik_RankError_NoRoom := isK_mk y_NoRoom jk_RankError_NoRoom
 have ik_RankError_NoText := isK_mk y_NoText jk_RankError_NoText
 have ik_RankError_NoWord := isK_mk y_NoWord jk_RankError_NoWord
 have ik_RankError_NotSettled := isK_mk y_NotSettled jk_RankError_NotSettled
 have ik_RankError_OtherLetters := isK_mk y_OtherLetters jk_RankError_OtherLetters
 have ik_ValueError_NoEnd := isK_mk y_NoEnd jk_ValueError_NoEnd
 have ik_ValueError_NoFraction := isK_mk y_NoFraction jk_ValueError_NoFraction
 have ik_ValueError_NoKind := isK_mk y_NoKind jk_ValueError_NoKind
 have ik_ValueError_NoLine := isK_mk y_NoLine jk_ValueError_NoLine
 have ik_ValueError_NoLoop := isK_mk y_NoLoop jk_ValueError_NoLoop
 have ik_ValueError_NoMachine := isK_mk y_NoMachine jk_ValueError_NoMachine
 have ik_ValueError_NoName := isK_mk y_NoName jk_ValueError_NoName
 have ik_ValueError_NoPaper := isK_mk y_NoPaper jk_ValueError_NoPaper
 have ik_ValueError_NoRoom := isK_mk y_NoRoom jk_ValueError_NoRoom
 have ik_ValueError_NoText := isK_mk y_NoText jk_ValueError_NoText
 have ik_ValueError_NoWord := isK_mk y_NoWord jk_ValueError_NoWord
 have ik_ValueError_NotSettled := isK_mk y_NotSettled jk_ValueError_NotSettled
 have ik_ValueError_OtherLetters := isK_mk y_OtherLetters jk_ValueError_OtherLetters
 have F1 := funD_mk (st := s__law_text) l1 c1 k1
 have b1 := F1.binds0 (ps := ["_law_cell", "_law_size", "_law_many"]) fun _ _ _ _ _ _ => of_len3 (fun _ _ _ => rfl)
 have F2 := funD_mk (st := s__law_first) l2 c2 k2
 have b2 := F2.binds0 (ps := ["_law_k"]) fun _ _ _ _ _ _ => of_len1 (fun _ => rfl)
 have F3 := funD_mk (st := s__law_second) l3 c3 k3
 have b3 := F3.binds0 (ps := ["_law_k"]) fun _ _ _ _ _ _ => of_len1 (fun _ => rfl)
 have F4 := funD_mk (st := s_NotSettled___init__) l4 c4 k4
 have b4 := F4.binds0 (ps := ["self", "front", "one", "other"]) fun _ _ _ _ _ _ => of_len4 (fun _ _ _ _ => rfl)
 have F5 := funD_mk (st := s__law_made) l5 c5 k5
 have b5 := F5.binds0 (ps := ["_law_k", "_law_words"]) fun _ _ _ _ _ _ => of_len2 (fun _ _ => rfl)
 have F6 := funD_mk (st := s__law_kinds) l6 c6 k6
 have b6 := F6.binds0 (ps := ["_law_e"]) fun _ _ _ _ _ _ => of_len1 (fun _ => rfl)
 have F7 := funD_mk (st := s_law) l7 c7 k7
 have b7 := F7.binds0 (ps := ["_law_script"]) fun _ _ _ _ _ _ => of_len1 (fun _ => rfl)
 have b_ValueError := PySem.W.mg_none_of X G z_ValueError
 have b_isinstance := PySem.W.mg_none_of X G z_isinstance
 have b_range := PySem.W.mg_none_of X G z_range
 refine ⟨PySem.W.fnOf "law" "law" (defArgs s_law) (defBody s_law) (defScope s_law) .none kV7 dc7 pm7 an7 cd7 ct7, fun s v => .of_eq rfl, fun base _ _ => ?_⟩
 have f__law_text := d__law_text (P := l.prog) (w := w) (mg := mg) (base := base) F1 b_range
 have h__law_text := DefOk.of f__law_text (PySem.W.mg_of X G a1) F1.kp b1 runD_len
 have f__law_first := d__law_first (P := l.prog) (w := w) (mg := mg) (base := base) F2 e_NoWord ge_NoWord e_NoMachine ge_NoMachine e_NoRoom ge_NoRoom e_NoText ge_NoText e_NoLoop ge_NoLoop e_NoKind ge_NoKind kq_NoWord kq_NoMachine kq_NoRoom kq_NoText kq_NoLoop kq_NoKind
 have h__law_first := DefOk.of f__law_first (PySem.W.mg_of X G a2) F2.kp b2 runD_len
 have f__law_second := d__law_second (P := l.prog) (w := w) (mg := mg) (base := base) F3 e_NoPaper ge_NoPaper e_OtherLetters ge_OtherLetters e_NoFraction ge_NoFraction e_NoLine ge_NoLine e_NoName ge_NoName e_NoEnd ge_NoEnd kq_NoPaper kq_OtherLetters kq_NoFraction kq_NoLine kq_NoName kq_NoEnd
 have h__law_second := DefOk.of f__law_second (PySem.W.mg_of X G a3) F3.kp b3 runD_len
 have f_NotSettled___init__ := d_NotSettled___init__ (P := l.prog) (w := w) (mg := mg) (base := base) F4 
 have xm_NotSettled : XMakeOk l.prog w K mg base "NotSettled" "front" "one" "other" 1 := ⟨⟨X_NotSettled, f4, _, _, xa_NotSettled, xn_NotSettled_front, xn_NotSettled_one, xn_NotSettled_other, f_NotSettled___init__, b4, ge_NotSettled⟩⟩
 have f__law_made := d__law_made (P := l.prog) (w := w) (mg := mg) (base := base) F5 h__law_first h__law_second xm_NotSettled
 have h__law_made := DefOk.of f__law_made (PySem.W.mg_of X G a5) F5.kp b5 runD_len
 have f__law_kinds := d__law_kinds (P := l.prog) (w := w) (mg := mg) (base := base) F6 e_NoText ge_NoText e_NoRoom ge_NoRoom e_NoMachine ge_NoMachine e_NoWord ge_NoWord e_OtherLetters ge_OtherLetters e_NoPaper ge_NoPaper e_NoKind ge_NoKind e_NoLoop ge_NoLoop e_NoEnd ge_NoEnd e_NoName ge_NoName e_NoLine ge_NoLine e_NoFraction ge_NoFraction xa_NotSettled ge_NotSettled ik_NoText_NoText ik_NoText_NoEnd ik_NoText_NoFraction ik_NoText_NoKind ik_NoText_NoLine ik_NoText_NoLoop ik_NoText_NoMachine ik_NoText_NoName ik_NoText_NoPaper ik_NoText_NoRoom ik_NoText_NoWord ik_NoText_NotSettled ik_NoText_OtherLetters ik_NoRoom_NoRoom ik_NoRoom_NoEnd ik_NoRoom_NoFraction ik_NoRoom_NoKind ik_NoRoom_NoLine ik_NoRoom_NoLoop ik_NoRoom_NoMachine ik_NoRoom_NoName ik_NoRoom_NoPaper ik_NoRoom_NoText ik_NoRoom_NoWord ik_NoRoom_NotSettled ik_NoRoom_OtherLetters ik_NoMachine_NoMachine ik_NoMachine_NoEnd ik_NoMachine_NoFraction ik_NoMachine_NoKind ik_NoMachine_NoLine ik_NoMachine_NoLoop ik_NoMachine_NoName ik_NoMachine_NoPaper ik_NoMachine_NoRoom ik_NoMachine_NoText ik_NoMachine_NoWord ik_NoMachine_NotSettled ik_NoMachine_OtherLetters ik_NoWord_NoWord ik_NoWord_NoEnd ik_NoWord_NoFraction ik_NoWord_NoKind ik_NoWord_NoLine ik_NoWord_NoLoop ik_NoWord_NoMachine ik_NoWord_NoName ik_NoWord_NoPaper ik_NoWord_NoRoom ik_NoWord_NoText ik_NoWord_NotSettled ik_NoWord_OtherLetters ik_OtherLetters_OtherLetters ik_OtherLetters_NoEnd ik_OtherLetters_NoFraction ik_OtherLetters_NoKind ik_OtherLetters_NoLine ik_OtherLetters_NoLoop ik_OtherLetters_NoMachine ik_OtherLetters_NoName ik_OtherLetters_NoPaper ik_OtherLetters_NoRoom ik_OtherLetters_NoText ik_OtherLetters_NoWord ik_OtherLetters_NotSettled ik_NoPaper_NoPaper ik_NoPaper_NoEnd ik_NoPaper_NoFraction ik_NoPaper_NoKind ik_NoPaper_NoLine ik_NoPaper_NoLoop ik_NoPaper_NoMachine ik_NoPaper_NoName ik_NoPaper_NoRoom ik_NoPaper_NoText ik_NoPaper_NoWord ik_NoPaper_NotSettled ik_NoPaper_OtherLetters ik_NoKind_NoKind ik_NoKind_NoEnd ik_NoKind_NoFraction ik_NoKind_NoLine ik_NoKind_NoLoop ik_NoKind_NoMachine ik_NoKind_NoName ik_NoKind_NoPaper ik_NoKind_NoRoom ik_NoKind_NoText ik_NoKind_NoWord ik_NoKind_NotSettled ik_NoKind_OtherLetters ik_NoLoop_NoLoop ik_NoLoop_NoEnd ik_NoLoop_NoFraction ik_NoLoop_NoKind ik_NoLoop_NoLine ik_NoLoop_NoMachine ik_NoLoop_NoName ik_NoLoop_NoPaper ik_NoLoop_NoRoom ik_NoLoop_NoText ik_NoLoop_NoWord ik_NoLoop_NotSettled ik_NoLoop_OtherLetters ik_NoEnd_NoEnd ik_NoEnd_NoFraction ik_NoEnd_NoKind ik_NoEnd_NoLine ik_NoEnd_NoLoop ik_NoEnd_NoMachine ik_NoEnd_NoName ik_NoEnd_NoPaper ik_NoEnd_NoRoom ik_NoEnd_NoText ik_NoEnd_NoWord ik_NoEnd_NotSettled ik_NoEnd_OtherLetters ik_NoName_NoName ik_NoName_NoEnd ik_NoName_NoFraction ik_NoName_NoKind ik_NoName_NoLine ik_NoName_NoLoop ik_NoName_NoMachine ik_NoName_NoPaper ik_NoName_NoRoom ik_NoName_NoText ik_NoName_NoWord ik_NoName_NotSettled ik_NoName_OtherLetters ik_NoLine_NoLine ik_NoLine_NoEnd ik_NoLine_NoFraction ik_NoLine_NoKind ik_NoLine_NoLoop ik_NoLine_NoMachine ik_NoLine_NoName ik_NoLine_NoPaper ik_NoLine_NoRoom ik_NoLine_NoText ik_NoLine_NoWord ik_NoLine_NotSettled ik_NoLine_OtherLetters ik_NoFraction_NoFraction ik_NoFraction_NoEnd ik_NoFraction_NoKind ik_NoFraction_NoLine ik_NoFraction_NoLoop ik_NoFraction_NoMachine ik_NoFraction_NoName ik_NoFraction_NoPaper ik_NoFraction_NoRoom ik_NoFraction_NoText ik_NoFraction_NoWord ik_NoFraction_NotSettled ik_NoFraction_OtherLetters ik_NotSettled_NotSettled ik_NotSettled_NoEnd ik_NotSettled_NoFraction ik_NotSettled_NoKind ik_NotSettled_NoLine ik_NotSettled_NoLoop ik_NotSettled_NoMachine ik_NotSettled_NoName ik_NotSettled_NoPaper ik_NotSettled_NoRoom ik_NotSettled_NoText ik_NotSettled_NoWord ik_NotSettled_OtherLetters b_isinstance
 have h__law_kinds := DefOk.of f__law_kinds (PySem.W.mg_of X G a6) F6.kp b6 runD_len
 have f_law := d_law (P := l.prog) (w := w) (mg := mg) (base := base) F7 h__law_text h__law_made h__law_kinds e_RankError ge_RankError xa_NotSettled ge_NotSettled xn_NotSettled_other xn_NotSettled_one xn_NotSettled_front ik_RankError_NoEnd ik_RankError_NoFraction ik_RankError_NoKind ik_RankError_NoLine ik_RankError_NoLoop ik_RankError_NoMachine ik_RankError_NoName ik_RankError_NoPaper ik_RankError_NoRoom ik_RankError_NoText ik_RankError_NoWord ik_RankError_NotSettled ik_RankError_OtherLetters ik_ValueError_NoEnd ik_ValueError_NoFraction ik_ValueError_NoKind ik_ValueError_NoLine ik_ValueError_NoLoop ik_ValueError_NoMachine ik_ValueError_NoName ik_ValueError_NoPaper ik_ValueError_NoRoom ik_ValueError_NoText ik_ValueError_NoWord ik_ValueError_NotSettled ik_ValueError_OtherLetters b_range b_isinstance b_ValueError
 exact f_law
theorem walk {l : PySem.W.OpenLaw} {q : Program} {loose : List Str} {XP : (Str -> Option Value) -> Heap -> Prop} {YP : World -> Heap -> Prop} {d : DefRec} {K : Params -> PySem.W.Frag} (hn : l.most = some 63) (hdf : d.params.defaults = [])
  (hY : ∀ (w : World) (h : Heap), YP w h -> (K w.params).In h)
  (hlaw : ∀ ns : List Int, ns.length <= 63 -> p_law [.lst (ns.map D.int)] = .ok (.bl true))
  (F : ∀ (w : World) (mg : Str -> Option Value) (fa : Addr) (h : Heap), (K w.params).In h -> h.Ns mainGlobals mg -> mg d.name = some (.ref fa) ->
   ∃ fd : FuncData, (∀ (s : Shared) (u : Value), BindsTo s fd ⟨[u], []⟩ [("_law_script", u)]) /\ ∀ base : Heap, (K w.params).In base -> base.Ns mainGlobals mg -> FnOk l.prog w (K w.params) mg base CX0 4 fa fd ["_law_script"] (spI (K w.params) 1 p_law)) :
  PySem.W.WalkO q loose XP YP l.row.toRowW d [] (fun f vs => PySem.call f vs) :=
 L2.walk_of (n := 63) (k := 4) (x := "_law_script") (CX := fun _ => CX0) (sp := fun w => spI (K w.params) 1 p_law) hn (by decide) hdf ⟨rfl, by decide, by decide⟩ hY F (fun _ _ a ns hl _ hS => law_sp hS (hlaw ns hl)) fun _ _ _ _ _ z => z
end Pu
open PySem PySem.W PyProof.Rows
set_option maxRecDepth 100000 in
set_option maxHeartbeats 0 in
theorem PySem.Challenge.cw_looprank_k08_refusals_told_apart_holds : PySem.Challenge.rw_looprank_k08_refusals_told_apart.Holds := by
 w_on; o_law; k_head; (case hw => w_witness2)
 k_fill
 refine Pu.walk (l := PySem.Challenge.rw_looprank_k08_refusals_told_apart) rfl rfl (fun w h Y => PySem.W.kIn_of Y) Pu.law_true ?F
 case F =>
  intro w mg fa h KX G hmg
  refine' Pu.all_mk PySem.F.excBase_ValueError KX G hmg ?y3 ?y4 ?y_NoEnd ?y0_NoEnd ?kq_NoEnd ?y1_NoEnd ?y6_NoEnd ?y7_NoEnd ?y2_NoEnd ?y5_NoEnd ?y_NoFraction ?y0_NoFraction ?kq_NoFraction ?y1_NoFraction ?y6_NoFraction ?y7_NoFraction ?y2_NoFraction ?y5_NoFraction ?y_NoKind ?y0_NoKind ?kq_NoKind ?y1_NoKind ?y6_NoKind ?y7_NoKind ?y2_NoKind ?y5_NoKind ?y_NoLine ?y0_NoLine ?kq_NoLine ?y1_NoLine ?y6_NoLine ?y7_NoLine ?y2_NoLine ?y5_NoLine ?y_NoLoop ?y0_NoLoop ?kq_NoLoop ?y1_NoLoop ?y6_NoLoop ?y7_NoLoop ?y2_NoLoop ?y5_NoLoop ?y_NoMachine ?y0_NoMachine ?kq_NoMachine ?y1_NoMachine ?y6_NoMachine ?y7_NoMachine ?y2_NoMachine ?y5_NoMachine ?y_NoName ?y0_NoName ?kq_NoName ?y1_NoName ?y6_NoName ?y7_NoName ?y2_NoName ?y5_NoName ?y_NoPaper ?y0_NoPaper ?kq_NoPaper ?y1_NoPaper ?y6_NoPaper ?y7_NoPaper ?y2_NoPaper ?y5_NoPaper ?y_NoRoom ?y0_NoRoom ?kq_NoRoom ?y1_NoRoom ?y6_NoRoom ?y7_NoRoom ?y2_NoRoom ?y5_NoRoom ?y_NoText ?y0_NoText ?kq_NoText ?y1_NoText ?y6_NoText ?y7_NoText ?y2_NoText ?y5_NoText ?y_NoWord ?y0_NoWord ?kq_NoWord ?y1_NoWord ?y6_NoWord ?y7_NoWord ?y2_NoWord ?y5_NoWord ?y_NotSettled ?a4 ?e4 ?y0_NotSettled ?y8_NotSettled ?y9_NotSettled ?xn_NotSettled_front ?xn_NotSettled_one ?xn_NotSettled_other ?kq_NotSettled ?y1_NotSettled ?y6_NotSettled ?y7_NotSettled ?y2_NotSettled ?y5_NotSettled ?y_OtherLetters ?y0_OtherLetters ?kq_OtherLetters ?y1_OtherLetters ?y6_OtherLetters ?y7_OtherLetters ?y2_OtherLetters ?y5_OtherLetters ?y_RankError ?y0_RankError ?y1_RankError ?y6_RankError ?y7_RankError ?y2_RankError ?y5_RankError ?jk_NoEnd_NoEnd ?jk_NoEnd_NoFraction ?jk_NoEnd_NoKind ?jk_NoEnd_NoLine ?jk_NoEnd_NoLoop ?jk_NoEnd_NoMachine ?jk_NoEnd_NoName ?jk_NoEnd_NoPaper ?jk_NoEnd_NoRoom ?jk_NoEnd_NoText ?jk_NoEnd_NoWord ?jk_NoEnd_NotSettled ?jk_NoEnd_OtherLetters ?jk_NoFraction_NoEnd ?jk_NoFraction_NoFraction ?jk_NoFraction_NoKind ?jk_NoFraction_NoLine ?jk_NoFraction_NoLoop ?jk_NoFraction_NoMachine ?jk_NoFraction_NoName ?jk_NoFraction_NoPaper ?jk_NoFraction_NoRoom ?jk_NoFraction_NoText ?jk_NoFraction_NoWord ?jk_NoFraction_NotSettled ?jk_NoFraction_OtherLetters ?jk_NoKind_NoEnd ?jk_NoKind_NoFraction ?jk_NoKind_NoKind ?jk_NoKind_NoLine ?jk_NoKind_NoLoop ?jk_NoKind_NoMachine ?jk_NoKind_NoName ?jk_NoKind_NoPaper ?jk_NoKind_NoRoom ?jk_NoKind_NoText ?jk_NoKind_NoWord ?jk_NoKind_NotSettled ?jk_NoKind_OtherLetters ?jk_NoLine_NoEnd ?jk_NoLine_NoFraction ?jk_NoLine_NoKind ?jk_NoLine_NoLine ?jk_NoLine_NoLoop ?jk_NoLine_NoMachine ?jk_NoLine_NoName ?jk_NoLine_NoPaper ?jk_NoLine_NoRoom ?jk_NoLine_NoText ?jk_NoLine_NoWord ?jk_NoLine_NotSettled ?jk_NoLine_OtherLetters ?jk_NoLoop_NoEnd ?jk_NoLoop_NoFraction ?jk_NoLoop_NoKind ?jk_NoLoop_NoLine ?jk_NoLoop_NoLoop ?jk_NoLoop_NoMachine ?jk_NoLoop_NoName ?jk_NoLoop_NoPaper ?jk_NoLoop_NoRoom ?jk_NoLoop_NoText ?jk_NoLoop_NoWord ?jk_NoLoop_NotSettled ?jk_NoLoop_OtherLetters ?jk_NoMachine_NoEnd ?jk_NoMachine_NoFraction ?jk_NoMachine_NoKind ?jk_NoMachine_NoLine ?jk_NoMachine_NoLoop ?jk_NoMachine_NoMachine ?jk_NoMachine_NoName ?jk_NoMachine_NoPaper ?jk_NoMachine_NoRoom ?jk_NoMachine_NoText ?jk_NoMachine_NoWord ?jk_NoMachine_NotSettled ?jk_NoMachine_OtherLetters ?jk_NoName_NoEnd ?jk_NoName_NoFraction ?jk_NoName_NoKind ?jk_NoName_NoLine ?jk_NoName_NoLoop ?jk_NoName_NoMachine ?jk_NoName_NoName ?jk_NoName_NoPaper ?jk_NoName_NoRoom ?jk_NoName_NoText ?jk_NoName_NoWord ?jk_NoName_NotSettled ?jk_NoName_OtherLetters ?jk_NoPaper_NoEnd ?jk_NoPaper_NoFraction ?jk_NoPaper_NoKind ?jk_NoPaper_NoLine ?jk_NoPaper_NoLoop ?jk_NoPaper_NoMachine ?jk_NoPaper_NoName ?jk_NoPaper_NoPaper ?jk_NoPaper_NoRoom ?jk_NoPaper_NoText ?jk_NoPaper_NoWord ?jk_NoPaper_NotSettled ?jk_NoPaper_OtherLetters ?jk_NoRoom_NoEnd ?jk_NoRoom_NoFraction ?jk_NoRoom_NoKind ?jk_NoRoom_NoLine ?jk_NoRoom_NoLoop ?jk_NoRoom_NoMachine ?jk_NoRoom_NoName ?jk_NoRoom_NoPaper ?jk_NoRoom_NoRoom ?jk_NoRoom_NoText ?jk_NoRoom_NoWord ?jk_NoRoom_NotSettled ?jk_NoRoom_OtherLetters ?jk_NoText_NoEnd ?jk_NoText_NoFraction ?jk_NoText_NoKind ?jk_NoText_NoLine ?jk_NoText_NoLoop ?jk_NoText_NoMachine ?jk_NoText_NoName ?jk_NoText_NoPaper ?jk_NoText_NoRoom ?jk_NoText_NoText ?jk_NoText_NoWord ?jk_NoText_NotSettled ?jk_NoText_OtherLetters ?jk_NoWord_NoEnd ?jk_NoWord_NoFraction ?jk_NoWord_NoKind ?jk_NoWord_NoLine ?jk_NoWord_NoLoop ?jk_NoWord_NoMachine ?jk_NoWord_NoName ?jk_NoWord_NoPaper ?jk_NoWord_NoRoom ?jk_NoWord_NoText ?jk_NoWord_NoWord ?jk_NoWord_NotSettled ?jk_NoWord_OtherLetters ?jk_NotSettled_NoEnd ?jk_NotSettled_NoFraction ?jk_NotSettled_NoKind ?jk_NotSettled_NoLine ?jk_NotSettled_NoLoop ?jk_NotSettled_NoMachine ?jk_NotSettled_NoName ?jk_NotSettled_NoPaper ?jk_NotSettled_NoRoom ?jk_NotSettled_NoText ?jk_NotSettled_NoWord ?jk_NotSettled_NotSettled ?jk_NotSettled_OtherLetters ?jk_OtherLetters_NoEnd ?jk_OtherLetters_NoFraction ?jk_OtherLetters_NoKind ?jk_OtherLetters_NoLine ?jk_OtherLetters_NoLoop ?jk_OtherLetters_NoMachine ?jk_OtherLetters_NoName ?jk_OtherLetters_NoPaper ?jk_OtherLetters_NoRoom ?jk_OtherLetters_NoText ?jk_OtherLetters_NoWord ?jk_OtherLetters_NotSettled ?jk_OtherLetters_OtherLetters ?jk_RankError_NoEnd ?jk_RankError_NoFraction ?jk_RankError_NoKind ?jk_RankError_NoLine ?jk_RankError_NoLoop ?jk_RankError_NoMachine ?jk_RankError_NoName ?jk_RankError_NoPaper ?jk_RankError_NoRoom ?jk_RankError_NoText ?jk_RankError_NoWord ?jk_RankError_NotSettled ?jk_RankError_OtherLetters ?jk_ValueError_NoEnd ?jk_ValueError_NoFraction ?jk_ValueError_NoKind ?jk_ValueError_NoLine ?jk_ValueError_NoLoop ?jk_ValueError_NoMachine ?jk_ValueError_NoName ?jk_ValueError_NoPaper ?jk_ValueError_NoRoom ?jk_ValueError_NoText ?jk_ValueError_NoWord ?jk_ValueError_NotSettled ?jk_ValueError_OtherLetters ?a1 ?l1 ?c1 ?k1 ?a2 ?l2 ?c2 ?k2 ?a3 ?l3 ?c3 ?k3 ?l4 ?c4 ?k4 ?a5 ?l5 ?c5 ?k5 ?a6 ?l6 ?c6 ?k6 ?a7 ?l7 ?c7 ?k7 ?z_ValueError ?z_isinstance ?z_range
  (case y3 => k_is)
  (case y4 => k_is)
  (case y_NoEnd => k_is)
  (case y0_NoEnd => k_exc)
  (case kq_NoEnd => k_is)
  (case y1_NoEnd => k_is)
  (case y6_NoEnd => k_is)
  (case y7_NoEnd => k_is)
  (case y2_NoEnd => k_is)
  (case y5_NoEnd => k_is)
  (case y_NoFraction => k_is)
  (case y0_NoFraction => k_exc)
  (case kq_NoFraction => k_is)
  (case y1_NoFraction => k_is)
  (case y6_NoFraction => k_is)
  (case y7_NoFraction => k_is)
  (case y2_NoFraction => k_is)
  (case y5_NoFraction => k_is)
  (case y_NoKind => k_is)
  (case y0_NoKind => k_exc)
  (case kq_NoKind => k_is)
  (case y1_NoKind => k_is)
  (case y6_NoKind => k_is)
  (case y7_NoKind => k_is)
  (case y2_NoKind => k_is)
  (case y5_NoKind => k_is)
  (case y_NoLine => k_is)
  (case y0_NoLine => k_exc)
  (case kq_NoLine => k_is)
  (case y1_NoLine => k_is)
  (case y6_NoLine => k_is)
  (case y7_NoLine => k_is)
  (case y2_NoLine => k_is)
  (case y5_NoLine => k_is)
  (case y_NoLoop => k_is)
  (case y0_NoLoop => k_exc)
  (case kq_NoLoop => k_is)
  (case y1_NoLoop => k_is)
  (case y6_NoLoop => k_is)
  (case y7_NoLoop => k_is)
  (case y2_NoLoop => k_is)
  (case y5_NoLoop => k_is)
  (case y_NoMachine => k_is)
  (case y0_NoMachine => k_exc)
  (case kq_NoMachine => k_is)
  (case y1_NoMachine => k_is)
  (case y6_NoMachine => k_is)
  (case y7_NoMachine => k_is)
  (case y2_NoMachine => k_is)
  (case y5_NoMachine => k_is)
  (case y_NoName => k_is)
  (case y0_NoName => k_exc)
  (case kq_NoName => k_is)
  (case y1_NoName => k_is)
  (case y6_NoName => k_is)
  (case y7_NoName => k_is)
  (case y2_NoName => k_is)
  (case y5_NoName => k_is)
  (case y_NoPaper => k_is)
  (case y0_NoPaper => k_exc)
  (case kq_NoPaper => k_is)
  (case y1_NoPaper => k_is)
  (case y6_NoPaper => k_is)
  (case y7_NoPaper => k_is)
  (case y2_NoPaper => k_is)
  (case y5_NoPaper => k_is)
  (case y_NoRoom => k_is)
  (case y0_NoRoom => k_exc)
  (case kq_NoRoom => k_is)
  (case y1_NoRoom => k_is)
  (case y6_NoRoom => k_is)
  (case y7_NoRoom => k_is)
  (case y2_NoRoom => k_is)
  (case y5_NoRoom => k_is)
  (case y_NoText => k_is)
  (case y0_NoText => k_exc)
  (case kq_NoText => k_is)
  (case y1_NoText => k_is)
  (case y6_NoText => k_is)
  (case y7_NoText => k_is)
  (case y2_NoText => k_is)
  (case y5_NoText => k_is)
  (case y_NoWord => k_is)
  (case y0_NoWord => k_exc)
  (case kq_NoWord => k_is)
  (case y1_NoWord => k_is)
  (case y6_NoWord => k_is)
  (case y7_NoWord => k_is)
  (case y2_NoWord => k_is)
  (case y5_NoWord => k_is)
  (case y_NotSettled => k_is)
  (case a4 => k_is)
  (case e4 => k_is)
  (case y0_NotSettled => kernel_rfl)
  (case y8_NotSettled => k_is)
  (case y9_NotSettled => kernel_rfl)
  (case xn_NotSettled_front => k_is)
  (case xn_NotSettled_one => k_is)
  (case xn_NotSettled_other => k_is)
  (case kq_NotSettled => k_is)
  (case y1_NotSettled => k_is)
  (case y6_NotSettled => k_is)
  (case y7_NotSettled => k_is)
  (case y2_NotSettled => k_is)
  (case y5_NotSettled => k_is)
  (case y_OtherLetters => k_is)
  (case y0_OtherLetters => k_exc)
  (case kq_OtherLetters => k_is)
  (case y1_OtherLetters => k_is)
  (case y6_OtherLetters => k_is)
  (case y7_OtherLetters => k_is)
  (case y2_OtherLetters => k_is)
  (case y5_OtherLetters => k_is)
  (case y_RankError => k_is)
  (case y0_RankError => k_exc)
  (case y1_RankError => k_is)
  (case y6_RankError => k_is)
  (case y7_RankError => k_is)
  (case y2_RankError => k_is)
  (case y5_RankError => k_is)
  (case jk_NoEnd_NoEnd => kit_is)
  (case jk_NoEnd_NoFraction => kit_is)
  (case jk_NoEnd_NoKind => kit_is)
  (case jk_NoEnd_NoLine => kit_is)
  (case jk_NoEnd_NoLoop => kit_is)
  (case jk_NoEnd_NoMachine => kit_is)
  (case jk_NoEnd_NoName => kit_is)
  (case jk_NoEnd_NoPaper => kit_is)
  (case jk_NoEnd_NoRoom => kit_is)
  (case jk_NoEnd_NoText => kit_is)
  (case jk_NoEnd_NoWord => kit_is)
  (case jk_NoEnd_NotSettled => kit_is)
  (case jk_NoEnd_OtherLetters => kit_is)
  (case jk_NoFraction_NoEnd => kit_is)
  (case jk_NoFraction_NoFraction => kit_is)
  (case jk_NoFraction_NoKind => kit_is)
  (case jk_NoFraction_NoLine => kit_is)
  (case jk_NoFraction_NoLoop => kit_is)
  (case jk_NoFraction_NoMachine => kit_is)
  (case jk_NoFraction_NoName => kit_is)
  (case jk_NoFraction_NoPaper => kit_is)
  (case jk_NoFraction_NoRoom => kit_is)
  (case jk_NoFraction_NoText => kit_is)
  (case jk_NoFraction_NoWord => kit_is)
  (case jk_NoFraction_NotSettled => kit_is)
  (case jk_NoFraction_OtherLetters => kit_is)
  (case jk_NoKind_NoEnd => kit_is)
  (case jk_NoKind_NoFraction => kit_is)
  (case jk_NoKind_NoKind => kit_is)
  (case jk_NoKind_NoLine => kit_is)
  (case jk_NoKind_NoLoop => kit_is)
  (case jk_NoKind_NoMachine => kit_is)
  (case jk_NoKind_NoName => kit_is)
  (case jk_NoKind_NoPaper => kit_is)
  (case jk_NoKind_NoRoom => kit_is)
  (case jk_NoKind_NoText => kit_is)
  (case jk_NoKind_NoWord => kit_is)
  (case jk_NoKind_NotSettled => kit_is)
  (case jk_NoKind_OtherLetters => kit_is)
  (case jk_NoLine_NoEnd => kit_is)
  (case jk_NoLine_NoFraction => kit_is)
  (case jk_NoLine_NoKind => kit_is)
  (case jk_NoLine_NoLine => kit_is)
  (case jk_NoLine_NoLoop => kit_is)
  (case jk_NoLine_NoMachine => kit_is)
  (case jk_NoLine_NoName => kit_is)
  (case jk_NoLine_NoPaper => kit_is)
  (case jk_NoLine_NoRoom => kit_is)
  (case jk_NoLine_NoText => kit_is)
  (case jk_NoLine_NoWord => kit_is)
  (case jk_NoLine_NotSettled => kit_is)
  (case jk_NoLine_OtherLetters => kit_is)
  (case jk_NoLoop_NoEnd => kit_is)
  (case jk_NoLoop_NoFraction => kit_is)
  (case jk_NoLoop_NoKind => kit_is)
  (case jk_NoLoop_NoLine => kit_is)
  (case jk_NoLoop_NoLoop => kit_is)
  (case jk_NoLoop_NoMachine => kit_is)
  (case jk_NoLoop_NoName => kit_is)
  (case jk_NoLoop_NoPaper => kit_is)
  (case jk_NoLoop_NoRoom => kit_is)
  (case jk_NoLoop_NoText => kit_is)
  (case jk_NoLoop_NoWord => kit_is)
  (case jk_NoLoop_NotSettled => kit_is)
  (case jk_NoLoop_OtherLetters => kit_is)
  (case jk_NoMachine_NoEnd => kit_is)
  (case jk_NoMachine_NoFraction => kit_is)
  (case jk_NoMachine_NoKind => kit_is)
  (case jk_NoMachine_NoLine => kit_is)
  (case jk_NoMachine_NoLoop => kit_is)
  (case jk_NoMachine_NoMachine => kit_is)
  (case jk_NoMachine_NoName => kit_is)
  (case jk_NoMachine_NoPaper => kit_is)
  (case jk_NoMachine_NoRoom => kit_is)
  (case jk_NoMachine_NoText => kit_is)
  (case jk_NoMachine_NoWord => kit_is)
  (case jk_NoMachine_NotSettled => kit_is)
  (case jk_NoMachine_OtherLetters => kit_is)
  (case jk_NoName_NoEnd => kit_is)
  (case jk_NoName_NoFraction => kit_is)
  (case jk_NoName_NoKind => kit_is)
  (case jk_NoName_NoLine => kit_is)
  (case jk_NoName_NoLoop => kit_is)
  (case jk_NoName_NoMachine => kit_is)
  (case jk_NoName_NoName => kit_is)
  (case jk_NoName_NoPaper => kit_is)
  (case jk_NoName_NoRoom => kit_is)
  (case jk_NoName_NoText => kit_is)
  (case jk_NoName_NoWord => kit_is)
  (case jk_NoName_NotSettled => kit_is)
  (case jk_NoName_OtherLetters => kit_is)
  (case jk_NoPaper_NoEnd => kit_is)
  (case jk_NoPaper_NoFraction => kit_is)
  (case jk_NoPaper_NoKind => kit_is)
  (case jk_NoPaper_NoLine => kit_is)
  (case jk_NoPaper_NoLoop => kit_is)
  (case jk_NoPaper_NoMachine => kit_is)
  (case jk_NoPaper_NoName => kit_is)
  (case jk_NoPaper_NoPaper => kit_is)
  (case jk_NoPaper_NoRoom => kit_is)
  (case jk_NoPaper_NoText => kit_is)
  (case jk_NoPaper_NoWord => kit_is)
  (case jk_NoPaper_NotSettled => kit_is)
  (case jk_NoPaper_OtherLetters => kit_is)
  (case jk_NoRoom_NoEnd => kit_is)
  (case jk_NoRoom_NoFraction => kit_is)
  (case jk_NoRoom_NoKind => kit_is)
  (case jk_NoRoom_NoLine => kit_is)
  (case jk_NoRoom_NoLoop => kit_is)
  (case jk_NoRoom_NoMachine => kit_is)
  (case jk_NoRoom_NoName => kit_is)
  (case jk_NoRoom_NoPaper => kit_is)
  (case jk_NoRoom_NoRoom => kit_is)
  (case jk_NoRoom_NoText => kit_is)
  (case jk_NoRoom_NoWord => kit_is)
  (case jk_NoRoom_NotSettled => kit_is)
  (case jk_NoRoom_OtherLetters => kit_is)
  (case jk_NoText_NoEnd => kit_is)
  (case jk_NoText_NoFraction => kit_is)
  (case jk_NoText_NoKind => kit_is)
  (case jk_NoText_NoLine => kit_is)
  (case jk_NoText_NoLoop => kit_is)
  (case jk_NoText_NoMachine => kit_is)
  (case jk_NoText_NoName => kit_is)
  (case jk_NoText_NoPaper => kit_is)
  (case jk_NoText_NoRoom => kit_is)
  (case jk_NoText_NoText => kit_is)
  (case jk_NoText_NoWord => kit_is)
  (case jk_NoText_NotSettled => kit_is)
  (case jk_NoText_OtherLetters => kit_is)
  (case jk_NoWord_NoEnd => kit_is)
  (case jk_NoWord_NoFraction => kit_is)
  (case jk_NoWord_NoKind => kit_is)
  (case jk_NoWord_NoLine => kit_is)
  (case jk_NoWord_NoLoop => kit_is)
  (case jk_NoWord_NoMachine => kit_is)
  (case jk_NoWord_NoName => kit_is)
  (case jk_NoWord_NoPaper => kit_is)
  (case jk_NoWord_NoRoom => kit_is)
  (case jk_NoWord_NoText => kit_is)
  (case jk_NoWord_NoWord => kit_is)
  (case jk_NoWord_NotSettled => kit_is)
  (case jk_NoWord_OtherLetters => kit_is)
  (case jk_NotSettled_NoEnd => kit_is)
  (case jk_NotSettled_NoFraction => kit_is)
  (case jk_NotSettled_NoKind => kit_is)
  (case jk_NotSettled_NoLine => kit_is)
  (case jk_NotSettled_NoLoop => kit_is)
  (case jk_NotSettled_NoMachine => kit_is)
  (case jk_NotSettled_NoName => kit_is)
  (case jk_NotSettled_NoPaper => kit_is)
  (case jk_NotSettled_NoRoom => kit_is)
  (case jk_NotSettled_NoText => kit_is)
  (case jk_NotSettled_NoWord => kit_is)
  (case jk_NotSettled_NotSettled => kit_is)
  (case jk_NotSettled_OtherLetters => kit_is)
  (case jk_OtherLetters_NoEnd => kit_is)
  (case jk_OtherLetters_NoFraction => kit_is)
  (case jk_OtherLetters_NoKind => kit_is)
  (case jk_OtherLetters_NoLine => kit_is)
  (case jk_OtherLetters_NoLoop => kit_is)
  (case jk_OtherLetters_NoMachine => kit_is)
  (case jk_OtherLetters_NoName => kit_is)
  (case jk_OtherLetters_NoPaper => kit_is)
  (case jk_OtherLetters_NoRoom => kit_is)
  (case jk_OtherLetters_NoText => kit_is)
  (case jk_OtherLetters_NoWord => kit_is)
  (case jk_OtherLetters_NotSettled => kit_is)
  (case jk_OtherLetters_OtherLetters => kit_is)
  (case jk_RankError_NoEnd => kit_is)
  (case jk_RankError_NoFraction => kit_is)
  (case jk_RankError_NoKind => kit_is)
  (case jk_RankError_NoLine => kit_is)
  (case jk_RankError_NoLoop => kit_is)
  (case jk_RankError_NoMachine => kit_is)
  (case jk_RankError_NoName => kit_is)
  (case jk_RankError_NoPaper => kit_is)
  (case jk_RankError_NoRoom => kit_is)
  (case jk_RankError_NoText => kit_is)
  (case jk_RankError_NoWord => kit_is)
  (case jk_RankError_NotSettled => kit_is)
  (case jk_RankError_OtherLetters => kit_is)
  (case jk_ValueError_NoEnd => kit_is)
  (case jk_ValueError_NoFraction => kit_is)
  (case jk_ValueError_NoKind => kit_is)
  (case jk_ValueError_NoLine => kit_is)
  (case jk_ValueError_NoLoop => kit_is)
  (case jk_ValueError_NoMachine => kit_is)
  (case jk_ValueError_NoName => kit_is)
  (case jk_ValueError_NoPaper => kit_is)
  (case jk_ValueError_NoRoom => kit_is)
  (case jk_ValueError_NoText => kit_is)
  (case jk_ValueError_NoWord => kit_is)
  (case jk_ValueError_NotSettled => kit_is)
  (case jk_ValueError_OtherLetters => kit_is)
  (case a1 => k_is)
  (case l1 => k_is)
  (case c1 => k_is)
  (case k1 => k_is)
  (case a2 => k_is)
  (case l2 => k_is)
  (case c2 => k_is)
  (case k2 => k_is)
  (case a3 => k_is)
  (case l3 => k_is)
  (case c3 => k_is)
  (case k3 => k_is)
  (case l4 => k_is)
  (case c4 => k_is)
  (case k4 => k_is)
  (case a5 => k_is)
  (case l5 => k_is)
  (case c5 => k_is)
  (case k5 => k_is)
  (case a6 => k_is)
  (case l6 => k_is)
  (case c6 => k_is)
  (case k6 => k_is)
  (case a7 => k_is)
  (case l7 => k_is)
  (case c7 => k_is)
  (case k7 => k_is)
  (case z_ValueError => k_is)
  (case z_isinstance => k_is)
  (case z_range => k_is)
