import PyProof.Rows.All
import Wide.All
import OpenK.AllK
import Wide.FinOn
import Lean
import PyProof.EqAt
import PyProof.EqKinds
import PyProof.TupleCall
import PyProof.P3Eq
import PyProof.NeKinds
import PyProof.NsDelKeeps
import PyProof.RulesAs
import PyProof.ExcAttrAll.ValueError
import KE.KIntText
import PySem.Challenge.RW_looprank_k16_texts_of_machines
set_option Elab.async false
set_option linter.all false
set_option maxRecDepth 100000
namespace L2
open PySem PySem.Spec PyProof.Rows
abbrev Key := Sum Int Str
def aCo : Key -> Value -> Bool
 | .inl k, v => Value.isInt k v
 | .inr x, v => Value.isStrOf x v
def aY6 (w : World) : Key -> Int
 | .inl k => hashInt k
 | .inr x => hashStr w x
theorem fB : ∀ {k : Key} {v : Value}, aCo k v = true -> (∃ i t, k = Sum.inl i /\ v = Value.int i t) \/ (∃ x t, k = Sum.inr x /\ v = Value.str x t)
 | .inl i, v, h => by
  obtain ⟨t, e⟩ := Value.isInt_shape (k := i) (v := v) h
  exact .inl ⟨i, t, rfl, e⟩
 | .inr x, v, h => by
  obtain ⟨t, e⟩ := Value.isStrOf_shape (x := x) (v := v) h
  exact .inr ⟨x, t, rfl, e⟩
theorem aJo (i : Int) (t : Tok) : aCo (.inl i) (.int i t) = true := by simp [aCo, Value.isInt]
theorem aJp (x : Str) (t : Tok) : aCo (.inr x) (.str x t) = true := by simp [aCo, Value.isStrOf]
theorem aLm (a b : Int) : decide ((Sum.inl a : Key) = Sum.inl b) = (a == b) := by
 by_cases e : a = b
 ·subst e; simp
 ·have h : ¬ (Sum.inl a : Key) = Sum.inl b := fun q => e (Sum.inl.inj q)
  rw [decide_eq_false h]
  exact (beq_eq_false_iff_ne.mpr e).symm
theorem aLn (a b : Str) : decide ((Sum.inr a : Key) = Sum.inr b) = decide (a = b) := by
 by_cases e : a = b
 ·subst e; simp
 ·have h : ¬ (Sum.inr a : Key) = Sum.inr b := fun q => e (Sum.inr.inj q)
  rw [decide_eq_false h, decide_eq_false e]
theorem aLo (a : Int) (b : Str) : decide ((Sum.inl a : Key) = Sum.inr b) = false := decide_eq_false (fun q => nomatch q)
theorem aLp (a : Str) (b : Int) : decide ((Sum.inr a : Key) = Sum.inl b) = false := decide_eq_false (fun q => nomatch q)
def jM (prog : Program) (w : World) : PySem.KeyKind prog w Key where
 is := aCo
 hash := aY6 w
 inj := fun v a b ha hb => by
  rcases fB ha with ⟨i, t, rfl, rfl⟩ | ⟨x, t, rfl, rfl⟩
  ·rcases fB hb with ⟨j, u, rfl, e⟩ | ⟨y, u, rfl, e⟩
   ·injection e with e1 _; rw [e1]
   ·exact nomatch e
  ·rcases fB hb with ⟨j, u, rfl, e⟩ | ⟨y, u, rfl, e⟩
   ·exact nomatch e
   ·injection e with e1 _; rw [e1]
 byValue := fun k v h => by
  rcases fB h with ⟨i, t, rfl, rfl⟩ | ⟨x, t, rfl, rfl⟩ <;> rfl
 pyHash := fun hv h => by
  rcases fB hv with ⟨i, t, rfl, rfl⟩ | ⟨x, t, rfl, rfl⟩
  ·exact wpAny_pyHash_int h
  ·exact wpAny_pyHash_str h
 eqBool := fun hu hv h => by
  rcases fB hu with ⟨i, t, rfl, rfl⟩ | ⟨x, t, rfl, rfl⟩
  ·rcases fB hv with ⟨j, u, rfl, rfl⟩ | ⟨y, u, rfl, rfl⟩
   ·rw [aLm] at h; exact wpAny_eqBool_int h
   ·rw [aLo] at h; exact SeqAt.EqAt.int_str i t y u _ _ _ _ h
  ·rcases fB hv with ⟨j, u, rfl, rfl⟩ | ⟨y, u, rfl, rfl⟩
   ·rw [aLp] at h; exact SeqAt.EqAt.str_int x t j u _ _ _ _ h
   ·rw [aLn] at h; exact wpAny_eqBool_str h
 «strs» := fun k x t v h => by
  rcases fB h with ⟨i, u, rfl, e⟩ | ⟨y, u, rfl, e⟩
  ·exact nomatch e
  ·injection e with e1 _
   subst e1
   cases v <;> rfl
theorem aF1 (prog : Program) (w : World) (i : Int) (t : Tok) : (jM prog w).is (.inl i) (.int i t) = true := aJo i t
theorem aF2 (prog : Program) (w : World) (x : Str) (t : Tok) : (jM prog w).is (.inr x) (.str x t) = true := aJp x t
end L2
namespace L2
open PySem PySem.Spec PyProof.Rows
inductive V where
 | non | bl (b : Bool) | int (i : Int) | str (x : Str) | byt (b : Array UInt8) | flt (b : UInt64) | ref (a : Addr) | ty (n : String)
 deriving DecidableEq
def RelV : V -> Value -> Prop
 | .non, u => u = Value.none
 | .bl b, u => u = Value.bool b
 | .int i, u => ∃ t, u = Value.int i t
 | .str x, u => ∃ t, u = Value.str x t
 | .byt b, u => ∃ t, u = Value.bytes b t
 | .flt b, u => ∃ t, u = Value.float b t
 | .ref a, u => u = Value.ref a
 | .ty n, u => u = Value.type n
abbrev Vals : List V -> List Value -> Prop := Paired RelV
theorem Vals.length {xs : List V} {us : List Value} (r : Vals xs us) : xs.length = us.length := Paired.length r
theorem Vals.get : ∀ {xs : List V} {us : List Value} {i : Nat} {x : V}, Vals xs us -> xs[i]? = some x -> ∃ u, us[i]? = some u /\ RelV x u
 | _, _, _, _, .nil, e => by simp at e
 | _, _, 0, _, .cons r _, e => by simp at e; subst e; exact ⟨_, rfl, r⟩
 | _, _, i + 1, x, .cons _ t, e => by
  obtain ⟨u, h1, h2⟩ := Vals.get (i := i) (x := x) t (by simpa using e)
  exact ⟨u, by simpa using h1, h2⟩
theorem Vals.set {x : V} {u : Value} (r : RelV x u) : ∀ {xs : List V} {us : List Value} (i : Nat), Vals xs us -> Vals (xs.set i x) (us.set i u)
 | _, _, _, .nil => .nil
 | _, _, 0, .cons _ t => .cons r t
 | _, _, i + 1, .cons q t => .cons q (Vals.set r i t)
theorem Vals.append : ∀ {xs ys : List V} {us ws : List Value}, Vals xs us -> Vals ys ws -> Vals (xs ++ ys) (us ++ ws)
 | _, _, _, _, .nil, s => s
 | _, _, _, _, .cons r t, s => .cons r (Vals.append t s)
theorem Vals.take : ∀ {xs : List V} {us : List Value} (n : Nat), Vals xs us -> Vals (xs.take n) (us.take n)
 | _, _, 0, _ => .nil
 | _, _, _ + 1, .nil => .nil
 | _, _, n + 1, .cons r t => .cons r (Vals.take n t)
theorem Vals.drop : ∀ {xs : List V} {us : List Value} (n : Nat), Vals xs us -> Vals (xs.drop n) (us.drop n)
 | _, _, 0, r => r
 | _, _, _ + 1, .nil => .nil
 | _, _, n + 1, .cons _ t => Vals.drop n t
def aAc : Option V -> Option Value -> Prop
 | some v, some u => RelV v u
 | none, none => True
 | _, _ => False
def KV {κ : Type} : List (κ × V) -> List (κ × Value) -> Prop := Paired fun (p : κ × V) (q : κ × Value) => p.1 = q.1 /\ RelV p.2 q.2
def kV : Key -> V
 | .inl i => .int i
 | .inr x => .str x
inductive HO where
 | lst (xs : List V)
 | tup (xs : List V)
 | dK (kvs : List (Key × V)) | dT (kvs : List (List Key × V))
 | set (S : Int -> Bool) (n : Nat)
 | ins (C dx : Addr) (fs : List (Str × V))
 | own (x : Addr)
 | xd (fs : List (Str × V))
 | met (f x : Addr)
 | rng (lo hi : Int)
 | frz (o : Obj) (u : HO)
 | tbl (ps : Array Value)
 | ext (φ : Heap -> Prop)
abbrev Hp := Addr -> Option HO
def upd (H : Hp) (a : Addr) (o : HO) : Hp := fun b => if b = a then some o else H b
theorem bY {H : Hp} {a : Addr} {o : HO} : upd H a o a = some o := by unfold upd; rw [if_pos rfl]
theorem aU {H : Hp} {a b : Addr} {o : HO} (h : b ≠ a) : upd H a o b = H b := by unfold upd; rw [if_neg h]
theorem aK {H : Hp} {a b : Addr} {o : HO} (h : H a = some o) (h' : H b = none) : a ≠ b := by
 intro e; subst e; rw [h] at h'; cases h'
section
variable (P : Program) (w : World)
def jN (H : Hp) (h : Heap) (a : Addr) : HO -> Prop
 | .lst xs => xs.length <= sizeLine /\ ∃ (its : List Value) (n : Nat), Vals xs its /\ h.get? a = some { cls := .type "list", data := .seq its.toArray n }
 | .tup xs => xs.length <= sizeLine /\ ∃ its : List Value, Vals xs its /\ IsTup h a its.toArray
 | .dK kvs => kvs.length <= sizeLine /\ (a == sysModules) = false /\ ∃ vs, KV kvs vs /\ h.DictOf (jM P w) a vs
 | .dT kvs => kvs.length <= sizeLine /\ (a == sysModules) = false /\ ∃ xs : List (List Key × Addr × Value),
   Paired (fun (p : List Key × V) (q : List Key × Addr × Value) => p.1 = q.1 /\ H q.2.1 = some (.tup (p.1.map kV)) /\ RelV p.2 q.2.2) kvs xs /\
   ∃ o es ep, h.get? a = some o /\ o.ExactDict /\ o.data = .dict es ep /\ es.toList = xs.map (entryOfKey (tupleKind (jM P w))) /\ (xs.map (·.1)).Nodup
 | .set S n => h.SetOf (intKind P w) a S n
 | .ins C dx fs => H dx = some (.own a) /\ fs.length <= 1000 /\ dx ≠ a /\ h.get? a = some (PySem.W.instObj C dx) /\
   ∃ mA, h.Ns1 dx mA /\ (∀ f, aAc (fs.lookup f) (mA f)) /\ PySem.Within mA (fs.map (·.1))
 | .own _ => ∃ o, h.get? a = some o
 | .xd fs => ∃ mA, h.Ns1 a mA /\ ∀ f, aAc (fs.lookup f) (mA f)
 | .rng lo hi => ∃ t u v, h.get? a = some { cls := .type "range", data := .fields #[.int lo t, .int hi u, .int 1 v] }
 | .frz o u => h.get? a = some o /\ jN H h a u
 | .tbl ps => h.get? a = some { cls := .none, data := .fields ps }
 | .met f x => h.get? a = some (PySem.W.methodObj (.ref f) (.ref x))
 | .ext φ => φ h /\ (∃ o, h.get? a = some o) /\ ∀ h1 h2 : Heap, φ h1 -> (∀ o, h1.get? a = some o -> h2.get? a = some o) -> φ h2
def HOk (H : Hp) (h : Heap) : Prop := ∀ a o, H a = some o -> jN P w H h a o
end
section
variable {P : Program} {w : World} {H H' : Hp} {h h' : Heap} {a : Addr} {o : HO}
theorem jN.lt (x : jN P w H h a o) : a < h.objs.size := by
 cases o with
 | lst xs => obtain ⟨_, _, _, _, e⟩ := x; exact Heap.lt_size e
 | tup xs => obtain ⟨_, _, _, p⟩ := x; exact p.lt
 | dK kvs => obtain ⟨_, _, _, _, o, _, _, e, _⟩ := x; exact Heap.lt_size e
 | dT kvs => obtain ⟨_, _, _, _, o, _, _, e, _⟩ := x; exact Heap.lt_size e
 | set S n => obtain ⟨o, _, _, _, e, _⟩ := x; exact Heap.lt_size e
 | ins C dx fs => obtain ⟨_, _, _, e, _⟩ := x; exact Heap.lt_size e
 | own y => obtain ⟨_, e⟩ := x; exact Heap.lt_size e
 | xd fs => obtain ⟨_, ⟨_, _, _, e, _⟩, _⟩ := x; exact Heap.lt_size e
 | rng lo hi => obtain ⟨_, _, _, e⟩ := x; exact Heap.lt_size e
 | frz ob u => obtain ⟨e, _⟩ := x; exact Heap.lt_size e
 | tbl ps => exact Heap.lt_size (show h.get? a = some _ from x)
 | met f y => exact Heap.lt_size (show h.get? a = some _ from x)
 | ext φ => obtain ⟨_, ⟨_, e⟩, _⟩ := x; exact Heap.lt_size e
theorem Paired.mapP {α β : Type} {F G : α -> β -> Prop} : ∀ {l₁ : List α} {l₂ : List β}, Paired F l₁ l₂ -> (∀ a b, F a b -> G a b) -> Paired G l₁ l₂
 | _, _, .nil, _ => .nil
 | _, _, .cons r t, f => .cons (f _ _ r) (Paired.mapP t f)
theorem jN.stay (x : jN P w H h a o) (k : ∀ b u, (b = a \/ H b = some (.own a)) -> h.get? b = some u -> h'.get? b = some u)
  (ho : ∀ b, H b = some (.own a) -> H' b = some (.own a)) (ht : ∀ b xs, H b = some (.tup xs) -> H' b = some (.tup xs)) : jN P w H' h' a o := by
 induction o with
 | lst xs => obtain ⟨z, its, n, r, e⟩ := x; exact ⟨z, its, n, r, k _ _ (.inl rfl) e⟩
 | tup xs => obtain ⟨z, its, r, ob, e, c⟩ := x; exact ⟨z, its, r, ob, k _ _ (.inl rfl) e, c⟩
 | dK kvs => obtain ⟨z, y, vs, r, ob, es, ep, e, c⟩ := x; exact ⟨z, y, vs, r, ob, es, ep, k _ _ (.inl rfl) e, c⟩
 | dT kvs =>
  obtain ⟨z, y, xs, r, ob, es, ep, e, c⟩ := x
  exact ⟨z, y, xs, Paired.mapP r fun p q z => ⟨z.1, ht _ _ z.2.1, z.2.2⟩, ob, es, ep, k _ _ (.inl rfl) e, c⟩
 | set S n => obtain ⟨ob, es, ep, t, e, c⟩ := x; exact ⟨ob, es, ep, t, k _ _ (.inl rfl) e, c⟩
 | ins C dx fs =>
  obtain ⟨d, z, ne, e, mA, ⟨od, es, ep, e2, c⟩, r⟩ := x
  exact ⟨ho _ d, z, ne, k _ _ (.inl rfl) e, mA, ⟨od, es, ep, k _ _ (.inr d) e2, c⟩, r⟩
 | own y => obtain ⟨ob, e⟩ := x; exact ⟨ob, k _ _ (.inl rfl) e⟩
 | xd fs => obtain ⟨mA, ⟨od, es, ep, e, c⟩, r⟩ := x; exact ⟨mA, ⟨od, es, ep, k _ _ (.inl rfl) e, c⟩, r⟩
 | rng lo hi => obtain ⟨t, u, v, e⟩ := x; exact ⟨t, u, v, k _ _ (.inl rfl) e⟩
 | frz ob u ih => obtain ⟨e, q⟩ := x; exact ⟨k _ _ (.inl rfl) e, ih q⟩
 | tbl ps =>
  have e : h.get? a = some { cls := .none, data := .fields ps } := x
  show h'.get? a = some { cls := .none, data := .fields ps }
  exact k a _ (.inl rfl) e
 | met f y =>
  have e : h.get? a = some (PySem.W.methodObj (.ref f) (.ref y)) := x
  show h'.get? a = some (PySem.W.methodObj (.ref f) (.ref y))
  exact k a _ (.inl rfl) e
 | ext φ => obtain ⟨p, ⟨o, e⟩, st⟩ := x; exact ⟨st _ _ p fun o q => k _ _ (.inl rfl) q, ⟨o, k _ _ (.inl rfl) e⟩, st⟩
theorem HOk.lt (x : HOk P w H h) (e : H a = some o) : a < h.objs.size := (x a o e).lt
theorem HOk.fresh (x : HOk P w H h) (e : h.objs.size <= a) : H a = none := by
 cases q : H a with
 | none => rfl
 | some u => exact absurd (Nat.lt_of_lt_of_le (x.lt q) e) (Nat.lt_irrefl _)
theorem HOk.kept (x : HOk P w H h) (k : ∀ b u, h.get? b = some u -> h'.get? b = some u) : HOk P w H h' := fun a o e =>
 (x a o e).stay (fun b u _ q => k b u q) (fun _ q => q) fun _ _ q => q
theorem HOk.laid (x : HOk P w H h) (k : ∀ b u, h.get? b = some u -> h'.get? b = some u) (hp : h.objs.size <= a) (new : jN P w (upd H a o) h' a o) : HOk P w (upd H a o) h' := fun b u e => by
 have hn := x.fresh hp
 by_cases hb : b = a
 ·subst hb; rw [bY] at e; cases e; exact new
 ·rw [aU hb] at e
  exact (x b u e).stay (fun c v _ q => k c v q) (fun c q => by rw [aU (aK q hn)]; exact q) fun c xs q => by rw [aU (aK q hn)]; exact q
end
def Rd (H : Hp) (a : Addr) (u : HO) : Prop := H a = some u \/ ∃ o, H a = some (.frz o u)
theorem Rd.ok {P : Program} {w : World} {H : Hp} {h : Heap} {a : Addr} {u : HO} (r : Rd H a u) (x : HOk P w H h) : jN P w H h a u := by
 rcases r with r | ⟨o, r⟩
 ·exact x a u r
 ·obtain ⟨_, q⟩ := x a _ r
  exact q
def Mut : Option HO -> Prop
 | some (.lst _) => True
 | some (.dK _) => True
 | some (.dT _) => True
 | some (.set _ _) => True
 | some (.ins _ _ _) => True
 | some (.ext _) => True
 | _ => False
section
variable {P : Program} {w : World} {H : Hp} {h h' : Heap} {x e : Addr} {o' : HO}
theorem HOk.write (ok : HOk P w H h) (mu : Mut (H x)) (he : e = x \/ H e = some (.own x)) (k : ∀ b u, b ≠ e -> h.get? b = some u -> h'.get? b = some u) (heo : ∃ u, h'.get? e = some u)
  (new : jN P w (upd H x o') h' x o') : HOk P w (upd H x o') h' := fun b u q => by
 have nown : ∀ c y, H c = some (.own y) -> c ≠ x := fun c y r z => by subst z; rw [r] at mu; exact mu
 have ntup : ∀ c xs, H c = some (.tup xs) -> c ≠ x := fun c xs r z => by subst z; rw [r] at mu; exact mu
 by_cases hb : b = x
 ·subst hb; rw [bY] at q; cases q; exact new
 ·rw [aU hb] at q
  by_cases hbe : b = e
  ·have q' : H b = some (.own x) := by
    rcases he with z | z
    ·exact absurd (hbe.trans z) hb
    ·rw [hbe]; exact z
   rw [q] at q'; cases q'
   obtain ⟨v, hv⟩ := heo
   exact ⟨v, by rw [hbe]; exact hv⟩
  ·refine (ok b u q).stay (fun c v hc r => k c v ?_ r) (fun c r => by rw [aU (nown c b r)]; exact r) fun c xs r => by rw [aU (ntup c xs r)]; exact r
   rcases hc with rfl | hc
   ·exact hbe
   ·rintro rfl
    rcases he with z | z
    ·exact nown c b hc z
    ·rw [hc] at z; cases z; exact hb rfl
end
structure Un (fs ex : List Addr) (H H' : Hp) (h h' : Heap) : Prop where
 keep : ∀ b o, h.get? b = some o -> H b = none -> b ∉ fs -> b ∉ ex -> h'.get? b = some o
 slot : ∀ b o, h.get? b = some o -> H b = none -> b ∈ fs -> b ∉ ex -> ∃ sl, h'.get? b = some { o with slots := sl }
 free : ∀ b o, h.get? b = some o -> H b = none -> b ∉ ex -> H' b = none
 there : ∀ b o, h.get? b = some o -> b ∉ ex -> ∃ o', h'.get? b = some o'
 tups : ∀ b xs, H b = some (.tup xs) -> H' b = some (.tup xs)
 frzs : ∀ b o u, H b = some (.frz o u) -> H' b = some (.frz o u)
 tbls : ∀ b ps, H b = some (.tbl ps) -> ∃ more, H' b = some (.tbl (ps ++ more))
section
variable {fs fs' ex ex' : List Addr} {H H1 H2 : Hp} {h h1 h2 h' : Heap} {a x e : Addr} {o : HO}
theorem Un.any (u : Un fs ex H H1 h h1) {b : Addr} {ob : Obj} (q : h.get? b = some ob) (n : H b = none) (hx : b ∉ ex) : ∃ sl, h1.get? b = some { ob with slots := sl } := by
 by_cases hb : b ∈ fs
 ·exact u.slot b ob q n hb hx
 ·exact ⟨ob.slots, u.keep b ob q n hb hx⟩
theorem Un.kept (k : ∀ b u, h.get? b = some u -> h'.get? b = some u) : Un fs ex H H h h' :=
 ⟨fun b ob q _ _ _ => k b ob q, fun b ob q _ _ _ => ⟨ob.slots, k b ob q⟩, fun _ _ _ n _ => n, fun b ob q _ => ⟨ob, k b ob q⟩, fun _ _ q => q, fun _ _ _ q => q, fun _ ps q => ⟨#[], by rw [q]; simp⟩⟩
theorem Un.refl : Un fs ex H H h h := Un.kept fun _ _ q => q
theorem Un.laid (k : ∀ b u, h.get? b = some u -> h'.get? b = some u) (hp : h.objs.size <= a) (hn : H a = none) : Un fs ex H (upd H a o) h h' where
 keep := fun b u q _ _ _ => k b u q
 slot := fun b u q _ _ _ => ⟨u.slots, k b u q⟩
 free := fun b u q n _ => by rw [aU (Nat.ne_of_lt (Nat.lt_of_lt_of_le (Heap.lt_size q) hp))]; exact n
 there := fun b u q _ => ⟨u, k b u q⟩
 tups := fun b xs q => by rw [aU (aK q hn)]; exact q
 frzs := fun b u xs q => by rw [aU (aK q hn)]; exact q
 tbls := fun b ps q => ⟨#[], by rw [aU (aK q hn), q]; simp⟩
theorem Un.write (mu : Mut (H x)) (he : e = x \/ H e = some (.own x)) (k : ∀ b u, b ≠ e -> h.get? b = some u -> h'.get? b = some u) (heo : ∃ u, h'.get? e = some u) : Un fs ex H (upd H x o) h h' := by
 have hx : ∀ b, H b = none -> b ≠ x := fun b n z => by subst z; rw [n] at mu; exact mu
 have hb : ∀ b, H b = none -> b ≠ e := fun b n z => by
  subst z
  rcases he with r | r
  ·exact hx b n r
  ·rw [n] at r; cases r
 have hm : ∀ b u, H b = some u -> ¬ Mut (some u) -> b ≠ x := fun b u q nm z => by subst z; rw [q] at mu; exact nm mu
 refine ⟨fun b u q n _ _ => k b u (hb b n) q, fun b u q n _ _ => ⟨u.slots, k b u (hb b n) q⟩, fun b u q n _ => by rw [aU (hx b n)]; exact n, fun b u q _ => ?_,
  fun b xs q => by rw [aU (hm b _ q fun z => z)]; exact q, fun b u xs q => by rw [aU (hm b _ q fun z => z)]; exact q, fun b ps q => ⟨#[], by rw [aU (hm b _ q fun z => z), q]; simp⟩⟩
 by_cases hbe : b = e
 ·subst hbe; exact heo
 ·exact ⟨u, k b u hbe q⟩
end
def trk (h : Heap) (H : Hp) : List Addr := (List.range h.objs.size).filter fun a => (H a).isSome
def aDu (h : Heap) (H : Hp) : Heap := PySem.W.hideAll h (trk h H)
theorem aJq (h : Heap) (H : Hp) : (aDu h H).objs.size = h.objs.size := PySem.W.hideAll_size _ _
theorem aLq {h : Heap} {H : Hp} {b : Addr} {o : Obj} (e : h.get? b = some o) (n : H b = none) : (aDu h H).get? b = some o :=
 PySem.W.hideAll_get _ e fun hm => by
  have q : (H b).isSome = true := (List.mem_filter.mp hm).2
  rw [n] at q; simp at q
theorem aP2 {h : Heap} {H : Hp} {b : Addr} {o : Obj} (e : (aDu h H).get? b = some o) : h.get? b = some o /\ H b = none := by
 have e' : h.get? b = some o := PySem.W.of_hideAll (trk h H) e
 refine ⟨e', ?_⟩
 cases q : H b with
 | none => rfl
 | some x =>
  have hm : b ∈ trk h H := List.mem_filter.mpr ⟨List.mem_range.mpr (Heap.lt_size e'), by simp [q]⟩
  have z : (aDu h H).get? b = none := PySem.W.hideAll_none (trk h H) hm
  rw [z] at e; cases e
def aP3 (g h : Heap) (L : Addr) : List (Addr × Obj) := (List.range h.objs.size).filterMap fun a => if a = L \/ (g.get? a).isSome = true then none else (h.get? a).map fun o => (a, o)
def rest (g h : Heap) (L d : Addr) : List (Addr × Obj) := (aP3 g h L).filter fun p => decide (p.1 ≠ d)
end L2
namespace L2
open PySem PySem.Spec PyProof.Rows
structure Mod (K : PySem.W.Frag) (mg : Str -> Option Value) (base : Heap) : Prop where
 kin : K.In base
 glob : base.Ns mainGlobals mg
 blt : ∃ mb, base.Ns builtinsNs mb /\ ∀ x : Str, x ≠ "__name__" -> mb x = bootBuiltins x
 nolimit : base.NoLimit
structure Cx where
 prog : Program
 w : World
 K : PySem.W.Frag
 mg : Str -> Option Value
 base : Heap
 A : Around
 N : List Str
 s₀ : Shared
 H₀ : Hp
 env : Env
 outer : List Env
 stack : List Env
 ex : List Addr
 fn : Str -> Bool
 calm : Bool
 pn : List (Addr × Obj)
 xe : Value -> Shared -> Prop
def frs (l : List Env) : List Addr := l.filterMap (·.frame)
abbrev Cx.fs (X : Cx) : List Addr := frs X.outer
def Vis (sc : Scope) (x : Str) : Prop := sc.names.lookup x = some .local \/ sc.names.lookup x = some .cell \/ sc.names.lookup x = some .free
def Loc (sc : Scope) (x : Str) : Prop := sc.names.lookup x = some .local \/ sc.names.lookup x = some .cell
def Look (env : Env) (h : Heap) (m : Str -> Option Value) (x : Str) (u : Value) : Prop :=
 (env.kindOf x = some .local /\ m x = some u) \/ ((env.kindOf x = some .cell \/ env.kindOf x = some .free) /\ ∃ c, env.cells.lookup x = some c /\ h.IsCell c (some u))
structure Cx.Ok (X : Cx) : Prop where
 mod : Mod X.K X.mg X.base
 kind : X.env.scope.kind = .function
 glob : X.env.globals = mainGlobals
 blt : X.env.builtins = builtinsNs
 above : X.s₀.heap.objs.size <= X.env.locals
 inj : ∀ x y c, X.env.cells.lookup x = some c -> X.env.cells.lookup y = some c -> x = y
 has : ∀ x, (X.env.kindOf x = some .cell \/ X.env.kindOf x = some .free) -> ∃ c, X.env.cells.lookup x = some c
 cab : ∀ x c, X.fn x = true -> X.env.cells.lookup x = some c -> X.s₀.heap.objs.size <= c
 hd : X.calm = true -> X.A.handled = none
 frames : X.A.frames = some X.stack
 stk : X.stack = X.outer \/ (X.stack = X.env :: X.outer /\ X.env.frame = some X.env.locals)
 exf : ∀ b ∈ X.ex, b ≠ X.env.locals /\ ∀ x c, X.env.cells.lookup x = some c -> c ≠ b
 bs : ∀ b o, X.base.get? b = some o -> X.s₀.heap.get? b = some o /\ X.H₀ b = none
 bsz : X.base.objs.size <= X.s₀.heap.objs.size
 noex : ∀ b o, X.base.get? b = some o -> b ∉ X.ex
 exfs : ∀ b ∈ X.ex, b ∉ X.fs
 funs : X.s₀.heap.FunFrames X.base X.outer
 frf : ∀ b ∈ X.fs, X.H₀ b = none
structure Inv (X : Cx) (pins : List (Addr × Obj)) (σ : List (Option V)) (H : Hp) (s : Shared) : Prop where
 ok : X.Ok
 os : s.os = X.s₀.os
 bare : AllBare s.gens
 base : Un X.fs X.ex X.H₀ H X.s₀.heap s.heap
 loc : ∃ m, s.heap.Ns X.env.locals m /\ ∀ (i : Nat) (x : Str) (v : V), X.N[i]? = some x -> σ[i]? = some (some v) -> Vis X.env.scope x -> ∃ u, RelV v u /\ Look X.env s.heap m x u
 cell : ∀ x c, X.env.cells.lookup x = some c -> ∃ v, s.heap.IsCell c v
 free : H X.env.locals = none
 freeC : ∀ x c, X.env.cells.lookup x = some c -> H c = none
 pin : ∀ p ∈ X.pn ++ pins, s.heap.get? p.1 = some p.2 /\ H p.1 = none /\ p.1 ≠ X.env.locals /\ p.1 ∉ X.fs /\ ∀ v, p.2.data ≠ .cell v
 hok : HOk X.prog X.w H s.heap
 len : σ.length = X.N.length
section
variable {X : Cx} {pins : List (Addr × Obj)} {σ : List (Option V)} {H H' : Hp} {s : Shared} {h' : Heap}
theorem Cx.Ok.nofr (ok : X.Ok) {b : Addr} {o : Obj} (e : X.base.get? b = some o) : b ∉ X.fs := fun hb => by
 have := (ok.funs.mem hb).1
 rw [e] at this; cases this
theorem Inv.bs (I : Inv X pins σ H s) : ∀ b o, X.base.get? b = some o -> s.heap.get? b = some o /\ H b = none := fun b o e =>
 ⟨I.base.keep b o (I.ok.bs b o e).1 (I.ok.bs b o e).2 (I.ok.nofr e) (I.ok.noex b o e), I.base.free b o (I.ok.bs b o e).1 (I.ok.bs b o e).2 (I.ok.noex b o e)⟩
theorem Inv.bk (I : Inv X pins σ H s) : ∀ b o, X.base.get? b = some o -> s.heap.get? b = some o := fun b o e => (I.bs b o e).1
theorem Inv.mod (I : Inv X pins σ H s) : Mod X.K X.mg X.base := I.ok.mod
theorem Inv.kIn (I : Inv X pins σ H s) : X.K.In s.heap := I.ok.mod.kin.keeps I.bk
theorem Inv.lt (I : Inv X pins σ H s) : X.env.locals < s.heap.objs.size := let ⟨_, hn, _⟩ := I.loc; hn.lt
theorem Inv.sz (I : Inv X pins σ H s) : X.s₀.heap.objs.size <= s.heap.objs.size := Nat.le_trans I.ok.above (Nat.le_of_lt I.lt)
theorem Inv.nofs (I : Inv X pins σ H s) {a : Addr} (h : s.heap.objs.size <= a) : a ∉ X.fs := fun hb => by
 obtain ⟨_, o, ho, _⟩ := I.ok.funs.mem hb
 exact absurd (Nat.lt_of_lt_of_le (Heap.lt_size ho) (Nat.le_trans I.sz h)) (Nat.lt_irrefl _)
theorem Inv.cne (I : Inv X pins σ H s) : ∀ x c, X.env.cells.lookup x = some c -> c ≠ X.env.locals := fun x c e z => by
 obtain ⟨v, o, ho, hd⟩ := I.cell x c e
 obtain ⟨m, ⟨o', es, ep, ho', hd', _⟩, _⟩ := I.loc
 rw [z, ho'] at ho; cases ho; rw [hd'] at hd; cases hd
theorem Inv.funs (I : Inv X pins σ H s) : s.heap.FunFrames X.base X.outer := by
 have all : ∀ (l : List Env), (∀ b ∈ frs l, b ∈ X.fs) -> X.s₀.heap.FunFrames X.base l -> s.heap.FunFrames X.base l := by
  intro l
  induction l with
  | nil => intro _ _; trivial
  | cons env r ih =>
   intro hs hl
   obtain ⟨hk, ⟨L, o, hf, hn, ho, hd⟩, hr⟩ := hl
   have hL : L ∈ X.fs := hs L (by unfold frs; rw [List.filterMap_cons, hf]; exact List.mem_cons_self)
   obtain ⟨sl, e⟩ := I.base.slot L o ho (I.ok.frf L hL) hL fun z => I.ok.exfs L z hL
   exact ⟨hk, ⟨L, _, hf, hn, e, hd⟩, ih (fun b hb => hs b (by unfold frs; rw [List.filterMap_cons, hf]; exact List.mem_cons_of_mem _ hb)) hr⟩
 exact all X.outer (fun _ hb => hb) I.ok.funs
theorem Inv.stack (I : Inv X pins σ H s) : s.heap.FunFrames X.base X.stack := by
 rcases I.ok.stk with e | ⟨e, hf⟩
 ·rw [e]; exact I.funs
 ·rw [e]
  obtain ⟨m, hn, _⟩ := I.loc
  refine .cons (by rw [I.ok.kind]; decide) hf hn ?_ I.funs
  exact Heap.get?_none_of_le (Nat.le_trans I.ok.bsz I.ok.above)
theorem Inv.stkSub (I : Inv X pins σ H s) : ∀ b ∈ frs X.stack, b ∈ X.env.locals :: X.fs := fun b hb => by
 rcases I.ok.stk with e | ⟨e, hf⟩
 ·rw [e] at hb; exact List.mem_cons_of_mem _ hb
 ·rw [e] at hb
  unfold frs at hb
  rw [List.filterMap_cons, hf] at hb
  exact hb
theorem Inv.stkFree (I : Inv X pins σ H s) : ∀ b ∈ frs X.stack, H b = none := fun b hb => by
 rcases List.mem_cons.mp (I.stkSub b hb) with e | hb
 ·rw [e]; exact I.free
 ·obtain ⟨_, o, ho, _⟩ := I.ok.funs.mem hb
  exact I.base.free b o ho (I.ok.frf b hb) fun z => I.ok.exfs b z hb
theorem Inv.step {g' : Array GenState} {t' : Nat} {d' : Drawn} {ch : List Addr} (I : Inv X pins σ H s)
  (hch : ∀ b ∈ ch, (b ∈ X.ex \/ X.s₀.heap.objs.size <= b) /\ b ≠ X.env.locals /\ (∀ x c, X.env.cells.lookup x = some c -> c ≠ b) /\ ∀ p ∈ X.pn ++ pins, p.1 ≠ b)
  (keep : ∀ b o, b ≠ X.env.locals -> b ∉ X.fs -> b ∉ ch -> s.heap.get? b = some o -> H b = none -> h'.get? b = some o)
  (slot : ∀ b o, b ≠ X.env.locals -> b ∈ X.fs -> b ∉ ch -> s.heap.get? b = some o -> H b = none -> ∃ sl, h'.get? b = some { o with slots := sl }) (free : ∀ b o, b ∉ ch -> s.heap.get? b = some o -> H b = none -> H' b = none)
  (there : ∀ b o, b ∉ ch -> s.heap.get? b = some o -> ∃ o', h'.get? b = some o')
  (tups : ∀ b xs, H b = some (.tup xs) -> H' b = some (.tup xs)) (frzs : ∀ b o u, H b = some (.frz o u) -> H' b = some (.frz o u)) (tbls : ∀ b ps, H b = some (.tbl ps) -> ∃ more, H' b = some (.tbl (ps ++ more)))
  (ns : ∀ m, s.heap.Ns X.env.locals m -> h'.Ns X.env.locals m) (hok : HOk X.prog X.w H' h') (hg : AllBare g') :
  Inv X pins σ H' { s with heap := h', gens := g', drawn := d', toks := t' } := by
 have neL : ∀ b o, X.s₀.heap.get? b = some o -> b ≠ X.env.locals := fun b o e => Nat.ne_of_lt (Nat.lt_of_lt_of_le (Heap.lt_size e) I.ok.above)
 have neC : ∀ b o, X.s₀.heap.get? b = some o -> b ∉ X.ex -> b ∉ ch := fun b o e hx hb => by
  rcases (hch b hb).1 with z | z
  ·exact hx z
  ·exact absurd (Nat.lt_of_lt_of_le (Heap.lt_size e) z) (Nat.lt_irrefl _)
 have cellK : ∀ x c, X.env.cells.lookup x = some c -> ∀ v, s.heap.IsCell c v -> h'.IsCell c v := fun x c e v ⟨o, ho, hd⟩ => by
  have nch : c ∉ ch := fun z => (hch c z).2.2.1 x c e rfl
  by_cases hc : c ∈ X.fs
  ·obtain ⟨sl, q⟩ := slot c o (I.cne x c e) hc nch ho (I.freeC x c e)
   exact ⟨_, q, hd⟩
  ·exact ⟨o, keep c o (I.cne x c e) hc nch ho (I.freeC x c e), hd⟩
 refine ⟨I.ok, I.os, hg, ⟨fun b o e n hb hx => ?_, fun b o e n hb hx => ?_, fun b o e n hx => ?_, fun b o e hx => ?_, fun b xs e => tups b xs (I.base.tups b xs e), fun b o xs e => frzs b o xs (I.base.frzs b o xs e), fun b ps e => ?_⟩, ?_, fun x c e => ?_, ?_, fun x c e => ?_, fun p hp => ?_, hok, I.len⟩
 ·exact keep b o (neL b o e) hb (neC b o e hx) (I.base.keep b o e n hb hx) (I.base.free b o e n hx)
 ·obtain ⟨sl, e1⟩ := I.base.slot b o e n hb hx
  obtain ⟨sl', e2⟩ := slot b _ (neL b o e) hb (neC b o e hx) e1 (I.base.free b o e n hx)
  exact ⟨sl', e2⟩
 ·obtain ⟨o', e1⟩ := I.base.there b o e hx
  exact free b o' (neC b o e hx) e1 (I.base.free b o e n hx)
 ·obtain ⟨o', e1⟩ := I.base.there b o e hx
  exact there b o' (neC b o e hx) e1
 ·obtain ⟨m1, e1⟩ := I.base.tbls b ps e
  obtain ⟨m2, e2⟩ := tbls b _ e1
  exact ⟨m1 ++ m2, by rw [e2, Array.append_assoc]⟩
 ·obtain ⟨m, hn, hl⟩ := I.loc
  refine ⟨m, ns m hn, fun i x v e1 e2 e3 => ?_⟩
  obtain ⟨u, r, l⟩ := hl i x v e1 e2 e3
  refine ⟨u, r, ?_⟩
  rcases l with l | ⟨k, c, e, z⟩
  ·exact .inl l
  ·exact .inr ⟨k, c, e, cellK x c e _ z⟩
 ·obtain ⟨v, z⟩ := I.cell x c e
  exact ⟨v, cellK x c e v z⟩
 ·obtain ⟨m, ⟨o, _, _, ho, _⟩, _⟩ := I.loc
  exact free _ o (fun z => (hch _ z).2.1 rfl) ho I.free
 ·obtain ⟨v, o, ho, hd⟩ := I.cell x c e
  exact free c o (fun z => (hch c z).2.2.1 x c e rfl) ho (I.freeC x c e)
 ·obtain ⟨e, n, ne, nf, d⟩ := I.pin p hp
  have nch : p.1 ∉ ch := fun z => (hch p.1 z).2.2.2 p hp rfl
  exact ⟨keep p.1 p.2 ne nf nch e n, free p.1 p.2 nch e n, ne, nf, d⟩
theorem Inv.un {t' : Nat} (I : Inv X pins σ H s) (u : Un X.fs [] H H' s.heap h') (hok : HOk X.prog X.w H' h') : Inv X pins σ H' { s with heap := h', toks := t' } := by
 obtain ⟨m, ⟨o, es, ep, ho, r⟩, _⟩ := id I.loc
 obtain ⟨sl, hL⟩ := u.any ho I.free (by simp)
 exact I.step (g' := s.gens) (d' := s.drawn) (ch := []) (fun _ z => nomatch z) (fun b o _ hb _ e n => u.keep b o e n hb (by simp)) (fun b o _ hb _ e n => u.slot b o e n hb (by simp)) (fun b o _ e n => u.free b o e n (by simp)) (fun b o _ e => u.there b o e (by simp)) u.tups u.frzs u.tbls (fun m' hm => by
  obtain ⟨o', es', ep', ho', r'⟩ := hm
  rw [ho] at ho'; cases ho'
  exact ⟨_, es', ep', hL, r'⟩) hok I.bare
theorem Inv.call {g' : Array GenState} {t' : Nat} {d' : Drawn} {ch : List Addr} (I : Inv X pins σ H s) (u : Un (frs X.stack) ch H H' s.heap h') (hok : HOk X.prog X.w H' h') (hg : AllBare g')
  (hch : ∀ b ∈ ch, (b ∈ X.ex \/ X.s₀.heap.objs.size <= b) /\ b ≠ X.env.locals /\ (∀ x c, X.env.cells.lookup x = some c -> c ≠ b) /\ ∀ p ∈ X.pn ++ pins, p.1 ≠ b) :
  Inv X pins σ H' { s with heap := h', gens := g', drawn := d', toks := t' } := by
 obtain ⟨m, ⟨o, es, ep, ho, r⟩, _⟩ := id I.loc
 obtain ⟨sl, hL⟩ := u.any ho I.free fun z => (hch _ z).2.1 rfl
 exact I.step (ch := ch) hch (fun b o hL hb hc e n => u.keep b o e n (fun z => (List.mem_cons.mp (I.stkSub b z)).elim hL hb) hc) (fun b o _ _ hc e n => u.any e n hc) (fun b o hc e n => u.free b o e n hc) (fun b o hc e => u.there b o e hc) u.tups u.frzs u.tbls (fun m' hm => by
  obtain ⟨o', es', ep', ho', r'⟩ := hm
  rw [ho] at ho'; cases ho'
  exact ⟨_, es', ep', hL, r'⟩) hok hg
theorem Inv.turned {t' : Nat} {it : Addr} (I : Inv X pins σ H s) (k : ∀ b o, b ≠ it -> s.heap.get? b = some o -> h'.get? b = some o) (hn : H it = none) (hL : it ≠ X.env.locals)
  (h1 : it ∈ X.ex \/ X.s₀.heap.objs.size <= it) (h2 : ∀ x c, X.env.cells.lookup x = some c -> c ≠ it) (h3 : ∀ p ∈ X.pn ++ pins, p.1 ≠ it) : Inv X pins σ H { s with heap := h', toks := t' } := by
 have nit : ∀ b u, H b = some u -> b ≠ it := fun b u e z => by rw [z, hn] at e; cases e
 refine I.step (g' := s.gens) (d' := s.drawn) (ch := [it]) (fun b hb => ?_) (fun b o _ _ hc e _ => k b o (fun z => hc (by simp [z])) e) (fun b o _ _ hc e _ => ⟨o.slots, k b o (fun z => hc (by simp [z])) e⟩) (fun _ _ _ _ n => n)
  (fun b o hc e => ⟨o, k b o (fun z => hc (by simp [z])) e⟩) (fun _ _ e => e) (fun _ _ _ e => e) (fun b ps e => ⟨#[], by rw [e]; simp⟩) (fun m hm => ?_) (fun b u e => ?_) I.bare
 ·have e : b = it := by simpa using hb
  subst e
  exact ⟨h1, hL, h2, h3⟩
 ·obtain ⟨o, es, ep, ho, r⟩ := hm
  exact ⟨o, es, ep, k _ o (Ne.symm hL) ho, r⟩
 ·refine (I.hok b u e).stay (fun c v hc q => k c v ?_ q) (fun _ q => q) fun _ _ q => q
  rcases hc with z | z
  ·rw [z]; exact nit b u e
  ·exact nit c _ z
theorem Inv.tok (I : Inv X pins σ H s) (t : Nat) : Inv X pins σ H { s with toks := t } := I.un (h' := s.heap) (t' := t) Un.refl I.hok
theorem Inv.kept {t' : Nat} (I : Inv X pins σ H s) (k : ∀ b u, s.heap.get? b = some u -> h'.get? b = some u) : Inv X pins σ H { s with heap := h', toks := t' } := I.un (Un.kept k) (I.hok.kept k)
theorem Inv.laid {a : Addr} {o : HO} {t' : Nat} (I : Inv X pins σ H s) (k : ∀ b u, s.heap.get? b = some u -> h'.get? b = some u) (hp : s.heap.objs.size <= a) (new : jN X.prog X.w (upd H a o) h' a o) :
  Inv X pins σ (upd H a o) { s with heap := h', toks := t' } := I.un (Un.laid k hp (I.hok.fresh hp)) (I.hok.laid k hp new)
theorem Inv.write {x e : Addr} {o : HO} {t' : Nat} (I : Inv X pins σ H s) (mu : Mut (H x)) (he : e = x \/ H e = some (.own x)) (k : ∀ b u, b ≠ e -> s.heap.get? b = some u -> h'.get? b = some u) (heo : ∃ u, h'.get? e = some u)
  (new : jN X.prog X.w (upd H x o) h' x o) : Inv X pins σ (upd H x o) { s with heap := h', toks := t' } := I.un (Un.write mu he k heo) (I.hok.write mu he k heo new)
theorem Inv.pins_of {pins' : List (Addr × Obj)} (I : Inv X pins σ H s) (h : ∀ p ∈ pins', s.heap.get? p.1 = some p.2 /\ H p.1 = none /\ p.1 ≠ X.env.locals /\ p.1 ∉ X.fs /\ ∀ v, p.2.data ≠ .cell v) : Inv X pins' σ H s :=
 ⟨I.ok, I.os, I.bare, I.base, I.loc, I.cell, I.free, I.freeC, fun p hp => (List.mem_append.mp hp).elim (fun z => I.pin p (List.mem_append_left _ z)) (h p), I.hok, I.len⟩
theorem aAu {N : List Str} (hN : N.Nodup) {i j : Nat} {x : Str} (a : N[i]? = some x) (b : N[j]? = some x) : i = j := by
 obtain ⟨h1, e1⟩ := List.getElem?_eq_some_iff.mp a
 obtain ⟨h2, e2⟩ := List.getElem?_eq_some_iff.mp b
 exact (List.getElem_inj hN).mp (e1.trans e2.symm)
theorem aCp {M : Model} {A : Around} {E : Value -> Shared -> Prop} {i : Nat} {x : Str} {v : V} {u : Value} {Q : Unit -> Shared -> Prop} (I : Inv X pins σ H s) (hN : X.N.Nodup) (hi : X.N[i]? = some x) (hx : Loc X.env.scope x) (r : RelV v u)
  (h : ∀ s', Inv X pins (σ.set i (some v)) H s' -> (∃ a, Heap.SameBut a s.heap s'.heap /\ (a = X.env.locals \/ X.env.cells.lookup x = some a)) -> Q () s') (hf : X.fn x = true \/ X.env.scope.names.lookup x = some .local := by first | exact .inl rfl | exact .inr rfl | assumption) : wpAny M A (storeName X.env x u) Q E s := by
 obtain ⟨m, hn, hl⟩ := id I.loc
 have hcls : (X.env.scope.kind == .class || (X.env.scope.kind == .module && X.env.locals != X.env.globals)) = false := by rw [I.ok.kind]; rfl
 have hiσ : i < σ.length := by rw [I.len]; exact (List.getElem?_eq_some_iff.mp hi).1
 have cne := I.cne
 have tracked : ∀ {a : Addr} {h' : Heap}, (∃ o, s.heap.get? a = some o /\ H a = none) -> Heap.SameBut a s.heap h' -> HOk X.prog X.w H h' := fun {a h'} ha hs b ob e => by
  obtain ⟨_, _, hfree⟩ := ha
  refine (I.hok b ob e).stay (fun c w' hc q => (hs.2 c ?_).trans q) (fun _ q => q) fun _ _ q => q
  rintro rfl
  rcases hc with rfl | hc
  ·rw [hfree] at e; cases e
  ·rw [hfree] at hc; cases hc
 rcases hx with hk | hk
 ·refine wpAny_storeName_local hk hn (fun h' hn' hs => ?_) hcls
  obtain ⟨oL, _, _, hoL, _⟩ := id hn
  refine h _ ⟨I.ok, I.os, I.bare, ⟨fun b o e n hb hx => ?_, fun b o e n hb hx => ?_, I.base.free, fun b o e hx => ?_, I.base.tups, I.base.frzs, I.base.tbls⟩, ⟨_, hn', fun j y v' e1 e2 e3 => ?_⟩, fun y c e => ?_, I.free, I.freeC, fun p hp => ?_, tracked ⟨oL, hoL, I.free⟩ hs, by simpa using I.len⟩ ⟨_, hs, .inl rfl⟩
  ·exact (hs.2 b (Nat.ne_of_lt (Nat.lt_of_lt_of_le (Heap.lt_size e) I.ok.above))).trans (I.base.keep b o e n hb hx)
  ·obtain ⟨sl, e1⟩ := I.base.slot b o e n hb hx
   exact ⟨sl, (hs.2 b (Nat.ne_of_lt (Nat.lt_of_lt_of_le (Heap.lt_size e) I.ok.above))).trans e1⟩
  ·obtain ⟨o', e1⟩ := I.base.there b o e hx
   exact ⟨o', (hs.2 b (Nat.ne_of_lt (Nat.lt_of_lt_of_le (Heap.lt_size e) I.ok.above))).trans e1⟩
  ·by_cases hj : j = i
   ·subst hj
    rw [hi] at e1; cases e1
    rw [List.getElem?_set_self hiσ] at e2
    cases e2
    exact ⟨u, r, .inl ⟨hk, by simp⟩⟩
   ·rw [List.getElem?_set_ne (Ne.symm hj)] at e2
    obtain ⟨u', r', q⟩ := hl j y v' e1 e2 e3
    refine ⟨u', r', ?_⟩
    rcases q with ⟨k, e⟩ | ⟨k, c, e, z⟩
    ·refine .inl ⟨k, ?_⟩
     have : y ≠ x := fun e => hj (aAu hN e1 (e ▸ hi))
     simp [this, e]
    ·exact .inr ⟨k, c, e, z.sameBut hs (cne y c e)⟩
  ·obtain ⟨w', z⟩ := I.cell y c e
   exact ⟨w', z.sameBut hs (cne y c e)⟩
  ·obtain ⟨e, n, ne, nf, d⟩ := I.pin p hp
   exact ⟨(hs.2 p.1 ne).trans e, n, ne, nf, d⟩
 ·have hfn : X.fn x = true := by
   rcases hf with z | z
   ·exact z
   ·rw [z] at hk; cases hk
  obtain ⟨c, hc⟩ := I.ok.has x (.inl hk)
  obtain ⟨w', z⟩ := I.cell x c hc
  refine wpAny_storeName_cell I.ok.kind hk hc z (fun h' hc' hs => ?_)
  obtain ⟨oc, hoc, hocd⟩ := id z
  refine h { s with heap := h' } ⟨I.ok, I.os, I.bare, ⟨fun b o e n hb hx => ?_, fun b o e n hb hx => ?_, I.base.free, fun b o e hx => ?_, I.base.tups, I.base.frzs, I.base.tbls⟩, ⟨m, hn.sameBut hs (Ne.symm (cne x c hc)), fun j y v' e1 e2 e3 => ?_⟩, fun y c' e => ?_, I.free, I.freeC, fun p hp => ?_, tracked ⟨oc, hoc, I.freeC x c hc⟩ hs, by simpa using I.len⟩ ⟨c, hs, .inr hc⟩
  ·exact (hs.2 b (Nat.ne_of_lt (Nat.lt_of_lt_of_le (Heap.lt_size e) (I.ok.cab x c hfn hc)))).trans (I.base.keep b o e n hb hx)
  ·obtain ⟨sl, e1⟩ := I.base.slot b o e n hb hx
   exact ⟨sl, (hs.2 b (Nat.ne_of_lt (Nat.lt_of_lt_of_le (Heap.lt_size e) (I.ok.cab x c hfn hc)))).trans e1⟩
  ·obtain ⟨o', e1⟩ := I.base.there b o e hx
   exact ⟨o', (hs.2 b (Nat.ne_of_lt (Nat.lt_of_lt_of_le (Heap.lt_size e) (I.ok.cab x c hfn hc)))).trans e1⟩
  ·by_cases hj : j = i
   ·subst hj
    rw [hi] at e1; cases e1
    rw [List.getElem?_set_self hiσ] at e2
    cases e2
    exact ⟨u, r, .inr ⟨.inl hk, c, hc, hc'⟩⟩
   ·rw [List.getElem?_set_ne (Ne.symm hj)] at e2
    obtain ⟨u', r', q⟩ := hl j y v' e1 e2 e3
    refine ⟨u', r', ?_⟩
    rcases q with q | ⟨k, c', e, z'⟩
    ·exact .inl q
    ·refine .inr ⟨k, c', e, z'.sameBut hs ?_⟩
     rintro rfl
     exact hj (aAu hN e1 (I.ok.inj _ _ _ e hc ▸ hi))
  ·by_cases hcc : c' = c
   ·subst hcc; exact ⟨_, hc'⟩
   ·obtain ⟨w2, z2⟩ := I.cell y c' e
    exact ⟨w2, z2.sameBut hs hcc⟩
  ·obtain ⟨e, n, ne, nf, d⟩ := I.pin p hp
   refine ⟨(hs.2 p.1 ?_).trans e, n, ne, nf, d⟩
   intro q
   rw [q, hoc] at e
   have q' : oc = p.2 := Option.some.inj e
   exact d w' (by rw [<- q']; exact hocd)
theorem aAv {M : Model} {A : Around} {E : Value -> Shared -> Prop} {i : Nat} {x : Str} {v : V} {u : Value} {Q : Unit -> Shared -> Prop} (I : Inv X pins σ H s) (hN : X.N.Nodup) (hi : X.N[i]? = some x) (hx : Loc X.env.scope x) (r : RelV v u)
  (h : ∀ s', Inv X pins (σ.set i (some v)) H s' -> Q () s') (hf : X.fn x = true \/ X.env.scope.names.lookup x = some .local := by first | exact .inl rfl | exact .inr rfl | assumption) : wpAny M A (storeName X.env x u) Q E s :=
 aCp I hN hi hx r (fun s' I' _ => h s' I') hf
theorem Inv.call' {s' : Shared} {ch : List Addr} (I : Inv X pins σ H s) (ho : s'.os = s.os) (u : Un (frs X.stack) ch H H' s.heap s'.heap) (hok : HOk X.prog X.w H' s'.heap) (hg : AllBare s'.gens)
  (hch : ∀ b ∈ ch, (b ∈ X.ex \/ X.s₀.heap.objs.size <= b) /\ b ≠ X.env.locals /\ (∀ x c, X.env.cells.lookup x = some c -> c ≠ b) /\ ∀ p ∈ X.pn ++ pins, p.1 ≠ b) : Inv X pins σ H' s' := by
 obtain ⟨h', g', d', t', o'⟩ := s'
 have e : o' = s.os := ho
 subst e
 exact I.call (g' := g') (t' := t') (d' := d') u hok hg hch
end
abbrev XK := Value -> Option Addr -> Hp -> Prop
abbrev St := List (Option V)
abbrev VK := V -> Hp -> Prop
abbrev TE := St -> Hp -> VK -> Prop
abbrev TT := St -> Hp -> (Bool -> Hp -> Prop) -> Prop
abbrev TA := St -> Hp -> (List V -> Hp -> Prop) -> Prop
structure Ends where
 nx : St -> Hp -> Prop
 rt : VK
 bk : St -> Hp -> Prop := fun _ _ => False
 ct : St -> Hp -> Prop := fun _ _ => False
abbrev TS := Ends -> St -> Hp -> Prop
def EP (X : Cx) (pins : List (Addr × Obj)) (σ : St) (Q : VK) (u : Value) (s' : Shared) : Prop := ∃ v H', Inv X pins σ H' s' /\ RelV v u /\ Q v H'
def TP (X : Cx) (pins : List (Addr × Obj)) (σ : St) (Q : Bool -> Hp -> Prop) (b : Bool) (s' : Shared) : Prop := ∃ H', Inv X pins σ H' s' /\ Q b H'
def AP (X : Cx) (pins : List (Addr × Obj)) (σ : St) (Q : List V -> Hp -> Prop) (us : List Value) (s' : Shared) : Prop := ∃ vs H', Inv X pins σ H' s' /\ Vals vs us /\ Q vs H'
def SP (X : Cx) (pins : List (Addr × Obj)) (D : Ends) (f : Flow) (s' : Shared) : Prop :=
 match f with
 | .next => ∃ σ' H', Inv X pins σ' H' s' /\ D.nx σ' H'
 | .brk => ∃ σ' H', Inv X pins σ' H' s' /\ D.bk σ' H'
 | .cont => ∃ σ' H', Inv X pins σ' H' s' /\ D.ct σ' H'
 | .ret u => ∃ v σ' H', Inv X pins σ' H' s' /\ RelV v u /\ D.rt v H'
def PE (X : Cx) (e : Expr) (t : TE) : Prop :=
 ∀ (pins : List (Addr × Obj)) (s : Shared) (σ : St) (H : Hp) (Q : VK), Inv X pins σ H s -> t σ H Q -> wpAny (model X.prog X.w) X.A (eval e X.env) (EP X pins σ Q) X.xe s
def PT (X : Cx) (e : Expr) (t : TT) : Prop :=
 ∀ (pins : List (Addr × Obj)) (s : Shared) (σ : St) (H : Hp) (Q : Bool -> Hp -> Prop), Inv X pins σ H s -> t σ H Q -> wpAny (model X.prog X.w) X.A (isTrue e X.env (eval e X.env)) (TP X pins σ Q) X.xe s
def PW (X : Cx) (e : Expr) (t : TT) : Prop :=
 ∀ (whole : Sem Value) (pins : List (Addr × Obj)) (s : Shared) (σ : St) (H : Hp) (Q : Bool -> Hp -> Prop), Inv X pins σ H s -> t σ H Q -> wpAny (model X.prog X.w) X.A (isTrue e X.env whole) (TP X pins σ Q) X.xe s
theorem PW.pt {X : Cx} {e : Expr} {t : TT} (h : PW X e t) : PT X e t := h _
def PA (X : Cx) (es : List Expr) (t : TA) : Prop :=
 ∀ (pos : Pos) (pins : List (Addr × Obj)) (s : Shared) (σ : St) (H : Hp) (Q : List V -> Hp -> Prop), Inv X pins σ H s -> t σ H Q -> wpAny (model X.prog X.w) X.A (spliced (backTo pos (starEach es X.env))) (AP X pins σ Q) X.xe s
def PS (X : Cx) (st : Stmt) (t : TS) : Prop :=
 ∀ (pins : List (Addr × Obj)) (s : Shared) (σ : St) (H : Hp) (D : Ends), Inv X pins σ H s -> t D σ H -> wpAny (model X.prog X.w) X.A (exec st X.env) (SP X pins D) X.xe s
def PSs (X : Cx) (st : List Stmt) (t : TS) : Prop :=
 ∀ (pins : List (Addr × Obj)) (s : Shared) (σ : St) (H : Hp) (D : Ends), Inv X pins σ H s -> t D σ H -> wpAny (model X.prog X.w) X.A (execs st X.env) (SP X pins D) X.xe s
theorem thn {α : Type} {t : Sem α} {Q Q' : α -> Shared -> Prop} {M : Model} {A : Around} {E : Value -> Shared -> Prop} {s : Shared} (h : wpAny M A t Q E s) (hQ : ∀ a s, Q a s -> Q' a s) : wpAny M A t Q' E s := wpAny_mono h hQ fun _ _ x => x
end L2
namespace L2
open PySem PySem.Spec PyProof.Rows
section
variable {X : Cx}
def aY7 (i : Nat) : TE := fun σ H Q => ∃ v, σ[i]? = some (some v) /\ Q v H
def tC (v : V) : TE := fun _ H Q => Q v H
theorem yC {i : Nat} {x : Str} {pos : Pos} (hN : X.N[i]? = some x) (hv : Vis X.env.scope x) (hd : (x == ("__debug__" : Str)) = false := by decide) (hcd : (x == ("__classdict__" : Str)) = false := by decide) : PE X (.Name x pos) (aY7 i) := by
 intro pins s σ H Q I h
 obtain ⟨v, e, h⟩ := h
 obtain ⟨m, hn, hl⟩ := I.loc
 obtain ⟨u, r, l⟩ := hl i x v hN e hv
 have fin : EP X pins σ Q u s := ⟨v, H, I, r, h⟩
 rcases l with ⟨hk, hm⟩ | ⟨hk, c, hc, hcell⟩
 ·exact wpAny_Name (wpAny_loadName_local I.ok.kind hk hn hm fin) hd
 ·rcases hk with hk | hk
  ·exact wpAny_Name (wpAny_loadName_cell I.ok.kind hk hc hcell fin) hd
  ·exact wpAny_Name (wpAny_loadName_free I.ok.kind hk hc hcell fin hcd) hd
theorem aS6 {i j pos} : PE X (.Constant (.int i) j pos) (tC (.int i)) := fun _ _ _ H _ I h => wpAny_Constant_int ⟨.int i, H, I.tok _, ⟨_, rfl⟩, h⟩
theorem aUt {b j pos} : PE X (.Constant (.bool b) j pos) (tC (.bl b)) := fun _ _ _ H _ I h => Constant_bool ⟨.bl b, H, I, rfl, h⟩
theorem aS7 {j pos} : PE X (.Constant .none j pos) (tC .non) := fun _ _ _ H _ I h => Constant_none ⟨.non, H, I, rfl, h⟩
theorem aS8 {x j pos} : PE X (.Constant (.str x) j pos) (tC (.str x)) := fun _ _ _ H _ I h => Calls.Constant_str ⟨.str x, H, I.tok _, ⟨_, rfl⟩, h⟩
def Gl (X : Cx) (x : Str) : Prop := X.env.kindOf x = some .globalImplicit
theorem qO {E : Value -> Shared -> Prop} {pins : List (Addr × Obj)} {s : Shared} {σ : St} {H : Hp} {x : Str} {u : Value} {pos : Pos} {Q : Value -> Shared -> Prop} (I : Inv X pins σ H s) (hg : Gl X x) (hm : X.mg x = some u) (h : Q u s)
  (hd : (x == ("__debug__" : Str)) = false := by decide) : wpAny (model X.prog X.w) X.A (eval (.Name x pos) X.env) Q E s :=
 Calls.Name_function_global I.ok.kind hg (Calls.loadGlobal_global (by rw [I.ok.glob]; exact I.mod.glob.keeps I.bk) hm h) hd
theorem yD {E : Value -> Shared -> Prop} {pins : List (Addr × Obj)} {s : Shared} {σ : St} {H : Hp} {x : Str} {u : Value} {pos : Pos} {Q : Value -> Shared -> Prop} (I : Inv X pins σ H s) (hg : Gl X x) (hm : X.mg x = none) (hv : bootBuiltins x = some u) (h : Q u s)
  (hn : x ≠ "__name__" := by decide) (hd : (x == ("__debug__" : Str)) = false := by decide) : wpAny (model X.prog X.w) X.A (eval (.Name x pos) X.env) Q E s := by
 obtain ⟨mb, h1, h2⟩ := I.mod.blt
 exact Calls.Name_function_global I.ok.kind hg (Calls.loadGlobal_builtin (by rw [I.ok.glob]; exact I.mod.glob.keeps I.bk) hm (by rw [I.ok.blt]; exact h1.keeps I.bk) ((h2 x hn).trans hv) h) hd
theorem aDv {x : Str} {v : V} {u : Value} {pos : Pos} (hg : Gl X x) (hm : X.mg x = some u) (r : RelV v u) (hd : (x == ("__debug__" : Str)) = false := by decide) : PE X (.Name x pos) (tC v) :=
 fun _ _ _ H _ I h => qO I hg hm ⟨v, H, I, r, h⟩ hd
theorem aP4 {x : Str} {v : V} {u : Value} {pos : Pos} (hg : Gl X x) (hm : X.mg x = none) (hv : bootBuiltins x = some u) (r : RelV v u) (hn : x ≠ "__name__" := by decide) (hd : (x == ("__debug__" : Str)) = false := by decide) : PE X (.Name x pos) (tC v) :=
 fun _ _ _ H _ I h => yD I hg hm hv ⟨v, H, I, r, h⟩ hn hd
variable {a b : Expr} {ta tb : TE} {pos : Pos}
def tB (t : TE) : TT := fun σ H Q => t σ H fun x H1 => ∃ c, x = .bl c /\ Q c H1
theorem aS9 {e : Expr} {t : TE} (h : PE X e t) (he : ∀ whole, isTrue e X.env whole = (do let v <- whole; standAt e.pos; holding [v] (truthy v)) := by intro _; rfl) : PT X e (tB t) := by
 intro pins s σ H Q I hw
 refine isTrue_plain (thn (h pins s σ H _ I hw) fun v s1 ⟨x, H1, I1, r1, q1⟩ => ?_) (he _)
 obtain ⟨d, rfl, q⟩ := q1
 cases r1
 exact wpAny_truthy_bool ⟨H1, I1, q⟩
variable {tA tB' : TT} {rest : List Expr}
def aY8 (t u : TT) : TT := fun σ H Q => t σ H fun c H1 => if c = true then u σ H1 Q else Q false H1
def tOr (t u : TT) : TT := fun σ H Q => t σ H fun c H1 => if c = true then Q true H1 else u σ H1 Q
def aY9 (t : TT) : TT := fun σ H Q => t σ H fun c H1 => Q (!c) H1
theorem aP5 (ha : PT X a tA) : PW X (.BoolOp .And [a] pos) tA := by
 intro wh pins s σ H Q I h
 refine isTrue_and (thn (ha pins s σ H Q I h) fun c s1 e => ?_)
 cases c with
 | true => exact isTrue_and_nil e
 | false => exact e
theorem aSa (ha : PT X a tA) : PW X (.BoolOp .Or [a] pos) tA := by
 intro wh pins s σ H Q I h
 refine isTrue_or (thn (ha pins s σ H Q I h) fun c s1 e => ?_)
 cases c with
 | false => exact isTrue_or_nil e
 | true => exact e
theorem aSb (ha : PT X a tA) (hb : PW X (.BoolOp .And (b :: rest) pos) tB') : PW X (.BoolOp .And (a :: b :: rest) pos) (aY8 tA tB') := by
 intro wh pins s σ H Q I h
 refine isTrue_and (thn (ha pins s σ H _ I h) fun c s1 ⟨H1, I1, q1⟩ => ?_)
 cases c with
 | true => exact hb wh pins s1 σ H1 Q I1 q1
 | false => exact ⟨H1, I1, q1⟩
theorem aUu (ha : PT X a tA) (hb : PW X (.BoolOp .Or (b :: rest) pos) tB') : PW X (.BoolOp .Or (a :: b :: rest) pos) (tOr tA tB') := by
 intro wh pins s σ H Q I h
 refine isTrue_or (thn (ha pins s σ H _ I h) fun c s1 ⟨H1, I1, q1⟩ => ?_)
 cases c with
 | true => exact ⟨H1, I1, q1⟩
 | false => exact hb wh pins s1 σ H1 Q I1 q1
theorem aSc (ha : PT X a tA) : PT X (.UnaryOp .Not a pos) (aY9 tA) := by
 intro pins s σ H Q I h
 exact isTrue_not (ha pins s σ H (fun c H1 => Q (!c) H1) I h)
def aUv (ta tb : TE) : TE := fun σ H Q => ta σ H fun x H1 => ∃ c, x = .bl c /\ if c = true then tb σ H1 Q else Q (.bl false) H1
def aYa (ta tb : TE) : TE := fun σ H Q => ta σ H fun x H1 => ∃ c, x = .bl c /\ if c = true then Q (.bl true) H1 else tb σ H1 Q
def aUw (ta : TE) : TE := fun σ H Q => ta σ H fun x H1 => ∃ c, x = .bl c /\ Q (.bl (!c)) H1
theorem aLr {op} {t : TE} (h : PE X a t) : PE X (.BoolOp op [a] pos) t := fun pins s σ H Q I hw => BoolOp_one (h pins s σ H Q I hw)
theorem aSd (ha : PE X a ta) (hb : PE X (.BoolOp .And (b :: rest) pos) tb) : PE X (.BoolOp .And (a :: b :: rest) pos) (aUv ta tb) := by
 intro pins s σ H Q I h
 refine BoolOp_and (thn (ha pins s σ H _ I h) fun v s1 ⟨x, H1, I1, r1, q1⟩ => ?_)
 obtain ⟨c, rfl, q1⟩ := q1
 cases r1
 refine wpAny_truthy_bool ?_
 cases c with
 | true => exact hb pins s1 σ H1 Q I1 q1
 | false => exact ⟨.bl false, H1, I1, rfl, q1⟩
theorem aUx (ha : PE X a ta) (hb : PE X (.BoolOp .Or (b :: rest) pos) tb) : PE X (.BoolOp .Or (a :: b :: rest) pos) (aYa ta tb) := by
 intro pins s σ H Q I h
 refine BoolOp_or (thn (ha pins s σ H _ I h) fun v s1 ⟨x, H1, I1, r1, q1⟩ => ?_)
 obtain ⟨c, rfl, q1⟩ := q1
 cases r1
 refine wpAny_truthy_bool ?_
 cases c with
 | false => exact hb pins s1 σ H1 Q I1 q1
 | true => exact ⟨.bl true, H1, I1, rfl, q1⟩
theorem aSe (ha : PE X a ta) : PE X (.UnaryOp .Not a pos) (aUw ta) := by
 intro pins s σ H Q I h
 refine UnaryOp_ (thn (ha pins s σ H _ I h) fun v s1 ⟨x, H1, I1, r1, q1⟩ => ?_)
 obtain ⟨c, rfl, q1⟩ := q1
 cases r1
 exact not_of (wpAny_truthy_bool ⟨.bl (!c), H1, I1, rfl, q1⟩)
end
end L2
namespace L2
open PySem PySem.Spec PyProof.Rows
def SqL (K : PySem.W.Frag) (H : Hp) (a : Addr) (xs : List V) : Prop :=
 Rd H a (.lst xs) \/
  ∃ (o : Obj) (its : Array Value) (n : Nat), K.lookup a = some o /\ o.cls = .type "list" /\ o.dict = none /\ o.data = .seq its n /\ its.size <= sizeLine /\ Vals xs its.toList
def SqT (K : PySem.W.Frag) (H : Hp) (a : Addr) (xs : List V) : Prop :=
 Rd H a (.tup xs) \/
  ∃ (o : Obj) (its : Array Value) (n : Nat), K.lookup a = some o /\ o.cls = .type "tuple" /\ o.data = .seq its n /\ its.size <= sizeLine /\ Vals xs its.toList
def aYb : Value -> Option V
 | .none => some .non
 | .bool b => some (.bl b)
 | .int i _ => some (.int i)
 | .str x _ => some (.str x)
 | .bytes b _ => some (.byt b)
 | .float b _ => some (.flt b)
 | .ref a => some (.ref a)
 | .type n => some (.ty n)
 | _ => none
theorem RelV.abs {x : V} {u : Value} (r : RelV x u) : aYb u = some x := by
 cases x with
 | non => cases r; rfl
 | bl _ => cases r; rfl
 | int _ => obtain ⟨t, rfl⟩ := r; rfl
 | str _ => obtain ⟨t, rfl⟩ := r; rfl
 | byt _ => obtain ⟨t, rfl⟩ := r; rfl
 | flt _ => obtain ⟨t, rfl⟩ := r; rfl
 | ref _ => cases r; rfl
 | ty _ => cases r; rfl
theorem RelV.inj {x y : V} {u : Value} (r : RelV x u) (q : RelV y u) : x = y := Option.some.inj (r.abs.symm.trans q.abs)
theorem Vals.inj : ∀ {xs ys : List V} {us : List Value}, Vals xs us -> Vals ys us -> xs = ys
 | _, _, _, .nil, .nil => rfl
 | _, _, _, .cons r t, .cons r' t' => by rw [r.inj r', Vals.inj t t']
section
variable {X : Cx} {pins : List (Addr × Obj)} {σ : St} {H : Hp} {s : Shared} {a : Addr} {xs ys : List V}
theorem SqL.of {K : PySem.W.Frag} (h : H a = some (.lst xs)) : SqL K H a xs := .inl (.inl h)
theorem SqT.of {K : PySem.W.Frag} (h : H a = some (.tup xs)) : SqT K H a xs := .inl (.inl h)
theorem Inv.list (I : Inv X pins σ H s) (h : SqL X.K H a xs) : ∃ its : List Value, Vals xs its /\ PlainL s.heap a its.toArray /\ xs.length <= sizeLine := by
 rcases h with h | ⟨o, its, n, hk, hc, hd, hs, hz, r⟩
 ·obtain ⟨z, its, n, r, e⟩ := h.ok I.hok
  exact ⟨its, r, ⟨_, n, e, rfl, rfl, rfl⟩, z⟩
 ·refine ⟨its.toList, r, ⟨o, n, I.kIn a o hk, hc, hd, by simpa using hs⟩, ?_⟩
  have e := r.length
  simp only [Array.length_toList] at e
  omega
theorem Inv.tuple (I : Inv X pins σ H s) (h : SqT X.K H a xs) : ∃ its : List Value, Vals xs its /\ IsTup s.heap a its.toArray /\ xs.length <= sizeLine := by
 rcases h with h | ⟨o, its, n, hk, hc, hs, hz, r⟩
 ·obtain ⟨z, its, r, p⟩ := h.ok I.hok
  exact ⟨its, r, p, z⟩
 ·refine ⟨its.toList, r, ⟨o, I.kIn a o hk, hc, n, by simpa using hs⟩, ?_⟩
  have e := r.length
  simp only [Array.length_toList] at e
  omega
theorem Inv.list_inj (I : Inv X pins σ H s) (h : SqL X.K H a xs) (h' : SqL X.K H a ys) : xs = ys := by
 obtain ⟨its, r, ⟨o, n, e, _, _, d⟩, _⟩ := I.list h
 obtain ⟨its', r', ⟨o', n', e', _, _, d'⟩, _⟩ := I.list h'
 rw [e] at e'; cases e'
 rw [d] at d'
 injection d' with d1 _
 have : its = its' := by simpa using congrArg Array.toList d1
 subst this
 exact r.inj r'
theorem Inv.tuple_inj (I : Inv X pins σ H s) (h : SqT X.K H a xs) (h' : SqT X.K H a ys) : xs = ys := by
 obtain ⟨its, r, ⟨o, e, _, n, d⟩, _⟩ := I.tuple h
 obtain ⟨its', r', ⟨o', e', _, n', d'⟩, _⟩ := I.tuple h'
 rw [e] at e'; cases e'
 rw [d] at d'
 injection d' with d1 _
 have : its = its' := by simpa using congrArg Array.toList d1
 subst this
 exact r.inj r'
end
abbrev Cx.wish (X : Cx) (E : Value -> Shared -> Prop) : Cx := { X with xe := E }
abbrev Cx.nox (X : Cx) : Cx := X.wish fun _ _ => False
theorem Cx.Ok.wish {X : Cx} (ok : X.Ok) (E : Value -> Shared -> Prop) : (X.wish E).Ok :=
 ⟨ok.mod, ok.kind, ok.glob, ok.blt, ok.above, ok.inj, ok.has, ok.cab, ok.hd, ok.frames, ok.stk, ok.exf, ok.bs, ok.bsz, ok.noex, ok.exfs, ok.funs, ok.frf⟩
theorem Cx.Ok.unwish {X : Cx} {E : Value -> Shared -> Prop} (ok : (X.wish E).Ok) : X.Ok :=
 ⟨ok.mod, ok.kind, ok.glob, ok.blt, ok.above, ok.inj, ok.has, ok.cab, ok.hd, ok.frames, ok.stk, ok.exf, ok.bs, ok.bsz, ok.noex, ok.exfs, ok.funs, ok.frf⟩
section
variable {X : Cx} {pins : List (Addr × Obj)} {σ : St} {H : Hp} {s : Shared} {E : Value -> Shared -> Prop}
theorem Inv.wish (I : Inv X pins σ H s) (E : Value -> Shared -> Prop) : Inv (X.wish E) pins σ H s := ⟨I.ok.wish E, I.os, I.bare, I.base, I.loc, I.cell, I.free, I.freeC, I.pin, I.hok, I.len⟩
theorem Inv.unwish (I : Inv (X.wish E) pins σ H s) : Inv X pins σ H s := ⟨I.ok.unwish, I.os, I.bare, I.base, I.loc, I.cell, I.free, I.freeC, I.pin, I.hok, I.len⟩
theorem SP.unwish {D : Ends} {f : Flow} {s' : Shared} (h : SP (X.wish E) pins D f s') : SP X pins D f s' := by
 cases f with
 | next => obtain ⟨σ', H', I, q⟩ := h; exact ⟨σ', H', I.unwish, q⟩
 | brk => obtain ⟨σ', H', I, q⟩ := h; exact ⟨σ', H', I.unwish, q⟩
 | cont => obtain ⟨σ', H', I, q⟩ := h; exact ⟨σ', H', I.unwish, q⟩
 | ret u => obtain ⟨v, σ', H', I, r, q⟩ := h; exact ⟨v, σ', H', I.unwish, r, q⟩
theorem PSs.nox {st : List Stmt} {t : TS} (h : PSs X.nox st t) : PSs X st t := fun pins s σ H D I hw =>
 wpAny_mono (h pins s σ H D (I.wish _) hw) (fun _ _ q => q.unwish) fun _ _ z => False.elim z
end
section
variable {X : Cx} {st : Stmt} {rest : List Stmt} {t u : TS} {e : Expr} {te : TE} {pos : Pos}
def aUy : TS := fun D σ H => D.nx σ H
def aYc (t u : TS) : TS := fun D σ H => t { D with nx := u D } σ H
theorem aDw : PSs X [] aUy := fun _ _ σ H _ I h => wpAny_execs_nil ⟨σ, H, I, h⟩
theorem pR (h1 : PS X st t) (h2 : PSs X rest u) : PSs X (st :: rest) (aYc t u) := by
 intro pins s σ H D I h
 refine wpAny_execs_cons (thn (h1 pins s σ H { D with nx := u D } I h) fun f s1 q => ?_)
 cases f with
 | next =>
  obtain ⟨σ', H', I', q⟩ := q
  exact h2 pins s1 σ' H' D I' q
 | ret v => exact q
 | brk => exact q
 | cont => exact q
theorem aAg (h1 : PS X st t) : PSs X [st] t := by
 intro pins s σ H D I h
 refine wpAny_execs_cons (thn (h1 pins s σ H D I h) fun f s1 q => ?_)
 cases f with
 | next => exact wpAny_execs_nil q
 | ret v => exact q
 | brk => exact q
 | cont => exact q
theorem Inv.quiet {pins : List (Addr × Obj)} {σ : St} {H : Hp} {s : Shared} (I : Inv X pins σ H s) : interactive X.env = false := by simp [interactive, I.ok.kind]
def aUz (te : TE) : TS := fun D σ H => te σ H fun _ H1 => D.nx σ H1
theorem aI9 (he : PE X e te) (hs : swapsWith e none pos.line X.env = pure false := by rfl) : PS X (.Expr e pos) (aUz te) := by
 intro pins s σ H D I h
 exact wpAny_Expr_any (thn (he pins s σ H _ I h) fun v s1 ⟨x, H1, I1, r1, q1⟩ => ⟨σ, H1, I1, q1⟩) I.quiet hs
def aYd (te : TE) : TS := fun D σ H => te σ H D.rt
theorem aLs (he : PE X e te) : PS X (.Return (some e) pos) (aYd te) := by
 intro pins s σ H D I h
 exact wpAny_Return_some (thn (he pins s σ H _ I h) fun v s1 ⟨x, H1, I1, r1, q1⟩ => ⟨x, σ, H1, I1, r1, q1⟩)
def aYe (c : TT) (t u : TS) : TS := fun D σ H => c σ H fun b H1 => if b = true then t D σ H1 else u D σ H1
theorem aIa {c : Expr} {a b : List Stmt} {tc : TT} (hc : PT X c tc) (ha : PSs X a t) (hb : PSs X b u) : PS X (.If c a b pos) (aYe tc t u) := by
 intro pins s σ H D I h
 refine wpAny_If (thn (hc pins s σ H _ I h) fun d s1 ⟨H1, I1, q1⟩ => ?_)
 cases d with
 | true => exact ha pins s1 σ H1 D I1 q1
 | false => exact hb pins s1 σ H1 D I1 q1
end
abbrev TG := V -> St -> Hp -> (St -> Hp -> Prop) -> Prop
abbrev TGs := List V -> St -> Hp -> (St -> Hp -> Prop) -> Prop
def PG (X : Cx) (target : Expr) (t : TG) : Prop :=
 ∀ (pins : List (Addr × Obj)) (s : Shared) (σ : St) (H : Hp) (v : V) (u : Value) (Q : St -> Hp -> Prop), Inv X pins σ H s -> RelV v u -> t v σ H Q ->
  wpAny (model X.prog X.w) X.A (assign target X.env u) (fun _ s' => ∃ σ' H', Inv X pins σ' H' s' /\ Q σ' H') X.xe s
def PGs (X : Cx) (ts : List Expr) (t : TGs) : Prop :=
 ∀ (pins : List (Addr × Obj)) (s : Shared) (σ : St) (H : Hp) (vs : List V) (us : List Value) (Q : St -> Hp -> Prop), Inv X pins σ H s -> Vals vs us -> t vs σ H Q ->
  wpAny (model X.prog X.w) X.A (assignInOrder ((assignEach ts X.env).map (·.2)) us) (fun _ s' => ∃ σ' H', Inv X pins σ' H' s' /\ Q σ' H') X.xe s
abbrev aSf := V -> V -> V -> Hp -> (Hp -> Prop) -> Prop
def aV0 (X : Cx) (t : aSf) : Prop :=
 ∀ (pins : List (Addr × Obj)) (s : Shared) (σ : St) (H : Hp) (o i v : V) (ov iv u : Value) (Q : Hp -> Prop), Inv X pins σ H s -> RelV o ov -> RelV i iv -> RelV v u -> t o i v H Q ->
  wpAny (model X.prog X.w) X.A (setItem ov iv u) (fun _ s' => ∃ H', Inv X pins σ H' s' /\ Q H') X.xe s
section
variable {X : Cx} {pos : Pos}
def aRd (i : Nat) : TG := fun v σ H Q => Q (σ.set i (some v)) H
theorem aIb {i : Nat} {x : Str} (hN : X.N.Nodup) (hi : X.N[i]? = some x) (hx : Loc X.env.scope x) (hf : X.fn x = true \/ X.env.scope.names.lookup x = some .local := by first | exact .inl rfl | exact .inr rfl | assumption) : PG X (.Name x pos) (aRd i) := by
 intro pins s σ H v u Q I r h
 exact wpAny_assign_Name (aAv I hN hi hx r (fun s' I' => ⟨_, H, I', h⟩) hf)
def aYf : TGs := fun vs σ H Q => vs = [] /\ Q σ H
def aV1 (t : TG) (u : TGs) : TGs := fun vs σ H Q => ∃ v r, vs = v :: r /\ t v σ H fun σ' H' => u r σ' H' Q
theorem aP6 : PGs X [] aYf := by
 intro pins s σ H vs us Q I r h
 obtain ⟨e, h⟩ := h
 subst e
 cases r
 exact assignInOrder_nil ⟨σ, H, I, h⟩
theorem aLt {e : Expr} {es : List Expr} {t : TG} {u : TGs} (h1 : PG X e t) (h2 : PGs X es u)
  (hs : (assignEach (e :: es) X.env).map (·.2) = assign e X.env :: (assignEach es X.env).map (·.2) := by rfl) : PGs X (e :: es) (aV1 t u) := by
 intro pins s σ H vs us Q I r h
 obtain ⟨v, vr, e1, h⟩ := h
 subst e1
 cases r with
 | cons r rr =>
  rw [hs]
  refine assignInOrder_cons (thn (h1 pins s σ H _ _ _ I r h) fun _ s1 ⟨σ1, H1, I1, q1⟩ => ?_)
  exact h2 pins s1 σ1 H1 _ _ Q I1 rr q1
def aYg (K : PySem.W.Frag) (n : Nat) (t : TGs) : TG := fun v σ H Q => ∃ a xs, v = .ref a /\ SqT K H a xs /\ xs.length = n /\ t xs σ H Q
theorem aSg {es : List Expr} {k : Nat} {t : TGs} {n : Nat} (hc : X.calm = true) (h : PGs X es t)
  (hn : (assignEach es X.env).length = n := by rfl) (hst : (assignEach es X.env).findIdx? (·.1) = none := by rfl) : PG X (.Tuple es k pos) (aYg X.K n t) := by
 intro pins s σ H v u Q I r hw
 obtain ⟨a, xs, e1, hq, hl, hw⟩ := hw
 subst e1
 cases r
 obtain ⟨its, rv, ht, hz⟩ := I.tuple hq
 refine assign_Tuple_tuple (I.ok.hd hc) ht (by simp [hn, <- hl, rv.length]) hst fun h' hx => ?_
 have I1 : Inv X pins σ H { s with heap := h' } := I.kept (t' := s.toks) fun b o e => hx b o (Nat.ne_of_lt (Heap.lt_size e)) e
 exact h pins _ σ H xs _ Q I1 (by simpa using rv) hw
def aYh (to ti : TE) (t : aSf) : TG := fun v σ H Q => to σ H fun o H1 => ti σ H1 fun i H2 => t o i v H2 fun H3 => Q σ H3
theorem aSh {o i : Expr} {to ti : TE} {t : aSf} (ho : PE X o to) (hi : PE X i ti) (hs : aV0 X t)
  (ha : ∀ v, assign (.Subscript o i pos) X.env v = (do
   let ov <- holding [v] (eval o X.env)
   let iv <- holding [v, ov] (eval i X.env)
   standAt pos
   holding [v, ov, iv] (setItem ov iv v)
   release [v, ov, iv] []) := by intro _; rfl) : PG X (.Subscript o i pos) (aYh to ti t) := by
 intro pins s σ H v u Q I r h
 rw [ha]
 refine wpAny_bind (wpAny_holding (thn (ho pins s σ H _ I h) fun ov s1 ⟨x, H1, I1, r1, q1⟩ => ?_))
 refine wpAny_bind (wpAny_holding (thn (hi pins s1 σ H1 _ I1 q1) fun iv s2 ⟨y, H2, I2, r2, q2⟩ => ?_))
 refine wpAny_bind (wpAny_standAt (wpAny_bind (wpAny_holding (thn (hs pins s2 σ H2 x y v ov iv u _ I2 r1 r2 r q2) fun _ s3 ⟨H3, I3, q3⟩ => ?_))))
 exact wpAny_release ⟨σ, H3, I3, q3⟩
def aV2 (te : TE) (g : TG) : TS := fun D σ H => te σ H fun x H1 => g x σ H1 D.nx
theorem aLu {tg e : Expr} {te : TE} {g : TG} (he : PE X e te) (hg : PG X tg g) (hs : swapsWithSole [tg] e pos.line X.env = pure false := by rfl) (hw : swappedStores [tg] e X.env = pure none := by rfl)
  (h1 : (assignEach [tg] X.env).map (·.2) = [assign tg X.env] := by rfl) : PS X (.Assign [tg] e pos) (aV2 te g) := by
 intro pins s σ H D I h
 refine wpAny_Assign_stores (thn (he pins s σ H _ I h) fun v s1 ⟨x, H1, I1, r1, q1⟩ => ?_) hs hw
 rw [h1]
 exact thn (hg pins s1 σ H1 x v _ I1 r1 q1) fun _ s2 q => q
theorem yE {i : Nat} {x : Str} {e : Expr} {te : TE} {pos' : Pos} (hN : X.N.Nodup) (hi : X.N[i]? = some x) (hx : Loc X.env.scope x) (he : PE X e te) (hs : swapsWith e (some (.Name x pos')) pos.line X.env = pure false := by rfl) (hf : X.fn x = true \/ X.env.scope.names.lookup x = some .local := by first | exact .inl rfl | exact .inr rfl | assumption) :
  PS X (.Assign [.Name x pos'] e pos) (aV2 te (aRd i)) := by
 intro pins s σ H D I h
 refine wpAny_Assign_Name (thn (he pins s σ H _ I h) fun v s1 ⟨y, H1, I1, r1, q1⟩ => ?_) hs
 exact aAv I1 hN hi hx r1 (fun s2 I2 => ⟨_, H1, I2, q1⟩) hf
end
section
variable {X : Cx} {pos : Pos}
end
structure It where
 go : Nat -> Hp -> Prop
 yld : Nat -> Hp -> V -> Hp -> Prop
 stop : Nat -> Hp -> Prop
def qP (X : Cx) (pins : List (Addr × Obj)) (H : Hp) (b : Addr) : Prop :=
 H b = none /\ b ≠ X.env.locals /\ b ∉ X.fs /\ (b ∈ X.ex \/ X.s₀.heap.objs.size <= b) /\ (∀ x c, X.env.cells.lookup x = some c -> c ≠ b) /\ ∀ p ∈ X.pn ++ pins, p.1 ≠ b
theorem Inv.fpOk {X : Cx} {pins : List (Addr × Obj)} {σ : St} {H H' : Hp} {s : Shared} {b : Addr} (I : Inv X pins σ H s) (hb : s.heap.objs.size <= b) (hn : H' b = none) : qP X pins H' b := by
 refine ⟨hn, Nat.ne_of_gt (Nat.lt_of_lt_of_le I.lt hb), I.nofs hb, .inr (Nat.le_trans I.sz hb), fun x c e z => ?_, fun p hp z => ?_⟩
 ·obtain ⟨v, q⟩ := I.cell x c e
  exact absurd (Nat.lt_of_lt_of_le q.lt (by rw [z]; exact hb)) (Nat.lt_irrefl _)
 ·exact absurd (Nat.lt_of_lt_of_le (Heap.lt_size (I.pin p hp).1) (by rw [z]; exact hb)) (Nat.lt_irrefl _)
structure Turn (P : Program) (w : World) (K : PySem.W.Frag) (tg : Expr) (J : It) (fp : List Addr) (it : Addr) (tn : Nat -> Heap -> Prop) : Prop where
 mem : it ∈ fp
 obj : ∀ i h, tn i h -> ∀ b ∈ fp, ∃ o, h.get? b = some o /\ ∀ v, o.data ≠ .cell v
 keep : ∀ i h h', tn i h -> (∀ b ∈ fp, ∀ o, h.get? b = some o -> h'.get? b = some o) -> tn i h'
 item : ∀ (X : Cx), X.prog = P -> X.w = w -> X.K = K -> X.calm = true -> ∀ (i : Nat) (pins : List (Addr × Obj)) (s : Shared) (σ : St) (H : Hp) (E : Value -> Shared -> Prop), Inv X pins σ H s -> (∀ b ∈ fp, qP X pins H b) -> tn i s.heap -> J.go i H ->
  wpAny (model P w) X.A (pyNext (.ref it)) (fun r s1 => ∃ u, r = some u /\
   wpAny (model P w) X.A (letOwnedTupleGo tg (.ref it) u) (fun _ s2 => ∃ x H', Inv X pins σ H' s2 /\ RelV x u /\ J.yld i H x H' /\ tn (i + 1) s2.heap /\ ∀ b ∈ fp, H' b = none) E s1) E s
 done : ∀ (X : Cx), X.prog = P -> X.w = w -> X.K = K -> X.calm = true -> ∀ (i : Nat) (pins : List (Addr × Obj)) (s : Shared) (σ : St) (H : Hp) (E : Value -> Shared -> Prop), Inv X pins σ H s -> (∀ b ∈ fp, qP X pins H b) -> tn i s.heap -> J.stop i H ->
  wpAny (model P w) X.A (pyNext (.ref it)) (fun r s1 => r = none /\ Inv X pins σ H s1) E s
 self : ∀ (A : Around) (i : Nat) (s : Shared) (Q : Value -> Shared -> Prop) (E : Value -> Shared -> Prop), tn i s.heap -> Q (.ref it) s -> wpAny (model P w) A (pyIter (.ref it)) Q E s
abbrev TI := St -> Hp -> (It -> Hp -> Prop) -> Prop
def PIE (X : Cx) (pins : List (Addr × Obj)) (σ : St) (tg : Expr) (R : It -> Hp -> Prop) (itv : Value) (s2 : Shared) : Prop :=
 ∃ (it : Addr) (fp : List Addr) (tn : Nat -> Heap -> Prop) (J : It) (H' : Hp), itv = .ref it /\ Inv X pins σ H' s2 /\ Turn X.prog X.w X.K tg J fp it tn /\ tn 0 s2.heap /\ (∀ b ∈ fp, qP X pins H' b) /\ R J H'
def PI (X : Cx) (tg iter : Expr) (wi : TI) : Prop :=
 ∀ (pins : List (Addr × Obj)) (s : Shared) (σ : St) (H : Hp) (R : It -> Hp -> Prop), Inv X pins σ H s -> wi σ H R ->
  wpAny (model X.prog X.w) X.A (eval iter X.env) (fun v s1 => wpAny (model X.prog X.w) X.A (pyIter v) (PIE X pins σ tg R) X.xe s1) X.xe s
theorem aIc {M : Model} {A : Around} {E : Value -> Shared -> Prop} {s : Shared} {tg : Expr} {it : Addr} {u : Value} {o : Obj} {n : String} {vs : Array Value} {Q : Unit -> Shared -> Prop} (ho : s.heap.get? it = some o) (hc : o.cls = .type n) (hd : o.data = .fields vs)
  (hn : ["enumerate", "zip", "dict_itemiterator", "dict_reverseitemiterator", "odict_iterator", "itertools.zip_longest", "itertools.pairwise"].contains n = false) (hQ : Q () s) : wpAny M A (letOwnedTupleGo tg (.ref it) u) Q E s := by
 unfold letOwnedTupleGo
 cases tg <;> first
  | exact wpAny_pure hQ
  | (cases u <;> first
    | exact wpAny_pure hQ
    | (refine wpAny_bind (wpAny_load ho ?_)
       rw [hc, hd]
       show wpAny M A (if (["enumerate", "zip", "dict_itemiterator", "dict_reverseitemiterator", "odict_iterator", "itertools.zip_longest", "itertools.pairwise"].contains n && vs[0]? == some (rawInt _)) = true then _ else _) Q E s
       rw [if_neg (by intro h; rw [hn, Bool.false_and] at h; cases h)]
       exact wpAny_pure hQ))
def Itl (K : PySem.W.Frag) (a : Addr) : It :=
 ⟨fun i H => ∃ xs x, SqL K H a xs /\ xs[i]? = some x, fun i H x H' => H' = H /\ ∀ xs, SqL K H a xs -> xs[i]? = some x, fun i H => ∃ xs, SqL K H a xs /\ xs.length <= i⟩
def Itt (K : PySem.W.Frag) (a : Addr) : It :=
 ⟨fun i H => ∃ xs x, SqT K H a xs /\ xs[i]? = some x, fun i H x H' => H' = H /\ ∀ xs, SqT K H a xs -> xs[i]? = some x, fun i H => ∃ xs, SqT K H a xs /\ xs.length <= i⟩
def Itr (lo : Int) (n : Nat) : It := ⟨fun i _ => i < n, fun i H x H' => H' = H /\ x = .int (lo + i), fun i _ => n <= i⟩
theorem aJr {P : Program} {w : World} {K : PySem.W.Frag} {tg : Expr} (a it : Addr) : Turn P w K tg (Itl K a) [it] it (fun i h => h.IsListIter it a i) where
 mem := by simp
 obj := fun i h st b hb => by
  have e : b = it := by simpa using hb
  subst e
  obtain ⟨o, e, c, d⟩ := st
  exact ⟨o, e, fun v z => by rw [d] at z; cases z⟩
 keep := fun i h h' st k => st.at fun o e => k it (by simp) o e
 item := by
  intro X hP hw hK hc i pins s σ H E I hf st hg
  subst hP hw hK
  obtain ⟨xs, x, hq, hx⟩ := hg
  obtain ⟨its, rv, p, hz⟩ := I.list hq
  obtain ⟨u, hu, ru⟩ := rv.get hx
  obtain ⟨f0, f1, f2, f3, f4, f5⟩ := hf it (by simp)
  refine wpAny_pyNext_list_item st p.isList (x := u) (by simpa using hu) fun h' st' sb => ?_
  have I1 : Inv X pins σ H { s with heap := h' } := I.turned (t' := s.toks) (fun b o hb e => (sb.2 b hb).trans e) f0 f1 f3 f4 f5
  obtain ⟨o, e, c, d⟩ := id st'
  exact ⟨u, rfl, aIc (s := { s with heap := h' }) e c d (by decide) ⟨x, H, I1, ru, ⟨rfl, fun ys hy => by rw [I.list_inj hy hq]; exact hx⟩, st', fun b hb => (hf b hb).1⟩⟩
 done := by
  intro X hP hw hK hc i pins s σ H E I hf st hg
  subst hP hw hK
  obtain ⟨xs, hq, hx⟩ := hg
  obtain ⟨its, rv, p, hz⟩ := I.list hq
  obtain ⟨f0, f1, f2, f3, f4, f5⟩ := hf it (by simp)
  have hl := rv.length
  exact wpAny_pyNext_list_end (I.ok.hd hc) st p.isList (by simp; omega) fun h' eb => ⟨rfl, I.turned (t' := s.toks) (fun b o hb e => eb b o hb e) f0 f1 f3 f4 f5⟩
 self := fun _ _ _ _ _ st h => wpAny_pyIter_listiter st h
theorem aGv {P : Program} {w : World} {K : PySem.W.Frag} {tg : Expr} (a it : Addr) : Turn P w K tg (Itt K a) [it] it (fun i h => h.IsTupleIter it a i) where
 mem := by simp
 obj := fun i h st b hb => by
  have e : b = it := by simpa using hb
  subst e
  obtain ⟨o, e, c, d⟩ := st
  exact ⟨o, e, fun v z => by rw [d] at z; cases z⟩
 keep := fun i h h' st k => st.at fun o e => k it (by simp) o e
 item := by
  intro X hP hw hK hc i pins s σ H E I hf st hg
  subst hP hw hK
  obtain ⟨xs, x, hq, hx⟩ := hg
  obtain ⟨its, rv, p, hz⟩ := I.tuple hq
  obtain ⟨u, hu, ru⟩ := rv.get hx
  obtain ⟨f0, f1, f2, f3, f4, f5⟩ := hf it (by simp)
  refine wpAny_pyNext_tuple_item st (show s.heap.IsTuple a its.toArray from p) (x := u) (by simpa using hu) fun h' st' sb => ?_
  have I1 : Inv X pins σ H { s with heap := h' } := I.turned (t' := s.toks) (fun b o hb e => (sb.2 b hb).trans e) f0 f1 f3 f4 f5
  obtain ⟨o, e, c, d⟩ := id st'
  exact ⟨u, rfl, aIc (s := { s with heap := h' }) e c d (by decide) ⟨x, H, I1, ru, ⟨rfl, fun ys hy => by rw [I.tuple_inj hy hq]; exact hx⟩, st', fun b hb => (hf b hb).1⟩⟩
 done := by
  intro X hP hw hK hc i pins s σ H E I hf st hg
  subst hP hw hK
  obtain ⟨xs, hq, hx⟩ := hg
  obtain ⟨its, rv, p, hz⟩ := I.tuple hq
  obtain ⟨f0, f1, f2, f3, f4, f5⟩ := hf it (by simp)
  have hl := rv.length
  exact wpAny_pyNext_tuple_end (I.ok.hd hc) st (show s.heap.IsTuple a its.toArray from p) (by simp; omega) fun h' eb => ⟨rfl, I.turned (t' := s.toks) (fun b o hb e => eb b o hb e) f0 f1 f3 f4 f5⟩
 self := fun _ _ _ _ _ st h => wpAny_pyIter_tupleiter st h
theorem aGw {P : Program} {w : World} {K : PySem.W.Frag} {tg : Expr} (it : Addr) (lo : Int) (n : Nat) : Turn P w K tg (Itr lo n) [it] it (fun i h => IsRangeIter h it (lo + (i : Nat) * 1) ((n : Int) - (i : Nat)) 1) where
 mem := by simp
 obj := fun i h st b hb => by
  have e : b = it := by simpa using hb
  subst e
  exact ⟨_, st, fun v z => by
   have z' : Data.fields _ = Data.cell v := z
   cases z'⟩
 keep := fun i h h' st k => k it (by simp) _ st
 item := by
  intro X hP hw hK hc i pins s σ H E I hf st hg
  subst hP hw hK
  obtain ⟨f0, f1, f2, f3, f4, f5⟩ := hf it (by simp)
  have W := Walks.range (prog := X.prog) (w := X.w) (I.ok.hd hc) it lo 1 n
  refine W.item i s _ _ hg st fun v h' tk hv st' kk => ?_
  obtain ⟨t, rfl⟩ := hv
  have I1 : Inv X pins σ H { s with heap := h', toks := tk } := I.turned (fun b o hb e => kk b o (by simpa using hb) e) f0 f1 f3 f4 f5
  refine ⟨_, rfl, aIc (s := { s with heap := h', toks := tk }) (n := "range_iterator") st' rfl rfl (by decide) ⟨.int (lo + i), H, I1, ⟨t, ?_⟩, ⟨rfl, rfl⟩, st', fun b hb => (hf b hb).1⟩⟩
  rw [Int.mul_one]
 done := by
  intro X hP hw hK hc i pins s σ H E I hf st hg
  subst hP hw hK
  obtain ⟨f0, f1, f2, f3, f4, f5⟩ := hf it (by simp)
  exact wpAny_pyNext_range_end (I.ok.hd hc) st (by have : n <= i := hg; omega) fun h' eb => ⟨rfl, I.turned (t' := s.toks) (fun b o hb e => eb b o hb e) f0 f1 f3 f4 f5⟩
 self := fun _ _ _ _ _ st h => wpAny_pyIter_rangeiter st h
end L2
namespace L2
open PySem PySem.Spec PyProof.Rows
section
variable {X : Cx} {tg : Expr}
theorem aF3 {pins : List (Addr × Obj)} {σ : St} {H : Hp} {s : Shared} {R : It -> Hp -> Prop} {E : Value -> Shared -> Prop} {lo hi : Int} {t u v : Tok} {tk : Nat} (I : Inv X pins σ H s) (h1 : -(2 ^ 62) <= lo) (h2 : lo < 2 ^ 62) (h3 : -(2 ^ 62) <= hi) (h4 : hi < 2 ^ 62)
  (q : R (Itr lo (hi - lo).toNat) H) : wpAny (model X.prog X.w) X.A (pyIter (.ref s.heap.objs.size)) (PIE X pins σ tg R) E { s with heap := s.heap.push { cls := .type "range", data := .fields #[.int lo t, .int hi u, .int 1 v] }, toks := tk } := by
 refine wpAny_pyIter_range (IsRange.new ..) (small_one h1 h2 h3 h4) ?_
 have I1 : Inv X pins σ H { s with heap := s.heap.push { cls := .type "range", data := .fields #[.int lo t, .int hi u, .int 1 v] }, toks := tk } := I.kept fun b o e => Heap.get?_push_of_some _ e
 refine ⟨(s.heap.push { cls := .type "range", data := .fields #[.int lo t, .int hi u, .int 1 v] }).objs.size, [(s.heap.push { cls := .type "range", data := .fields #[.int lo t, .int hi u, .int 1 v] }).objs.size], _, _, H, rfl,
  I1.kept (t' := tk) fun b o e => Heap.get?_push_of_some _ e, aGw _ lo (hi - lo).toNat, ?_, fun b hb => ?_, q⟩
 ·have e1 : lo + ((0 : Nat) : Int) * 1 = lo := by simp
  have e2 : (((hi - lo).toNat : Nat) : Int) - ((0 : Nat) : Int) = Builtin.Range.rangeSize lo hi 1 := by rw [rangeSize_one]; split <;> omega
  show IsRangeIter _ _ (lo + ((0 : Nat) : Int) * 1) ((((hi - lo).toNat : Nat) : Int) - ((0 : Nat) : Int)) 1
  rw [e1, e2]
  exact Heap.get?_push_size _ rfl
 ·have e : b = (s.heap.push { cls := .type "range", data := .fields #[.int lo t, .int hi u, .int 1 v] }).objs.size := by simpa using hb
  subst e
  exact I1.fpOk (Nat.le_refl _) (I1.hok.fresh (Nat.le_refl _))
def aV3 (ta : TA) : TI := fun σ H R => ta σ H fun vs H1 => ∃ j : Int, vs = [.int j] /\ -(2 ^ 62) <= j /\ j < 2 ^ 62 /\ R (Itr 0 j.toNat) H1
def aV4 (ta : TA) : TI := fun σ H R => ta σ H fun vs H1 => ∃ i j : Int, vs = [.int i, .int j] /\ (-(2 ^ 62) <= i /\ i < 2 ^ 62 /\ -(2 ^ 62) <= j /\ j < 2 ^ 62) /\ R (Itr i (j - i).toNat) H1
theorem aJs {a : Expr} {ta : TA} {p pos : Pos} (hg : Gl X "range") (hm : X.mg "range" = none) (ha : PA X [a] ta) (hs : starEach [a] X.env = [(false, eval a X.env)] := by rfl) : PI X tg (.Call (.Name "range" p) [a] [] pos) (aV3 ta) := by
 intro pins s σ H R I h
 refine Call_ (yD I hg hm boot_range (PyProof.Rows.callWith_type1 (thn (ha pos pins s σ H _ I h) fun us s1 ⟨vs, H1, I1, r1, q1⟩ => ?_) hs rfl))
 obtain ⟨j, e, q1, q2, q⟩ := q1
 subst e
 cases r1 with
 | cons r rr =>
  cases rr
  obtain ⟨t, rfl⟩ := r
  exact call_range_1 (aF3 I1 (by omega) (by omega) q1 q2 (by simpa using q))
theorem aJt {a b : Expr} {ta : TA} {p pos : Pos} (hg : Gl X "range") (hm : X.mg "range" = none) (ha : PA X [a, b] ta) (hs : starEach [a, b] X.env = [(false, eval a X.env), (false, eval b X.env)] := by rfl) (hs2 : starEach [b] X.env = [(false, eval b X.env)] := by rfl) :
  PI X tg (.Call (.Name "range" p) [a, b] [] pos) (aV4 ta) := by
 intro pins s σ H R I h
 refine Call_ (yD I hg hm boot_range (PyProof.Rows.callWith_type1 (thn (ha pos pins s σ H _ I h) fun us s1 ⟨vs, H1, I1, r1, q1⟩ => ?_) (by rw [hs, hs2]) (by rw [hs2]; rfl)))
 obtain ⟨i, j, e, ⟨q1, q2, q3, q4⟩, q⟩ := q1
 subst e
 cases r1 with
 | cons r rr =>
  cases rr with
  | cons r' rr =>
   cases rr
   obtain ⟨t, rfl⟩ := r
   obtain ⟨t', rfl⟩ := r'
   exact call_range_2 (aF3 I1 q1 q2 q3 q4 q)
def aYi (wi : TI) (g : TG) (tb : TS) : TS := fun D σ H => wi σ H fun J H1 => ∃ W : Nat -> Nat -> St -> Hp -> Prop, (∃ m, W 0 m σ H1) /\ ∀ i m σ H, W i m σ H ->
 (J.stop i H /\ D.nx σ H) \/ (J.go i H /\ ∃ N : St -> Hp -> Prop, (∀ σ' H', N σ' H' -> ∃ m', m' < m /\ W (i + 1) m' σ' H') /\ ∀ x H', J.yld i H x H' -> g x σ H' fun σ2 H2 => tb { D with nx := N, ct := N, bk := D.nx } σ2 H2)
def aDx (fp : List Addr) (h : Heap) : List (Addr × Obj) := fp.filterMap fun b => (h.get? b).map fun o => (b, o)
theorem kW {fp : List Addr} {h : Heap} {b : Addr} {o : Obj} (hb : b ∈ fp) (e : h.get? b = some o) : (b, o) ∈ aDx fp h := List.mem_filterMap.mpr ⟨b, hb, by rw [e]; rfl⟩
theorem aJu {fp : List Addr} {h : Heap} {p : Addr × Obj} (hp : p ∈ aDx fp h) : p.1 ∈ fp /\ h.get? p.1 = some p.2 := by
 obtain ⟨b, hb, e⟩ := List.mem_filterMap.mp hp
 cases q : h.get? b with
 | none => rw [q] at e; cases e
 | some o =>
  rw [q] at e
  have e' : (b, o) = p := Option.some.inj e
  subst e'
  exact ⟨hb, q⟩
theorem Inv.pinned {pins : List (Addr × Obj)} {σ : St} {H : Hp} {s : Shared} {fp : List Addr} (I : Inv X pins σ H s) (hf : ∀ b ∈ fp, qP X pins H b) (ho : ∀ b ∈ fp, ∃ o, s.heap.get? b = some o /\ ∀ v, o.data ≠ .cell v) : Inv X (pins ++ aDx fp s.heap) σ H s :=
 I.pins_of fun p hp => (List.mem_append.mp hp).elim (fun z => I.pin p (List.mem_append_right _ z)) fun z => by
  obtain ⟨hb, e⟩ := aJu z
  obtain ⟨f0, f1, f2, _⟩ := hf p.1 hb
  obtain ⟨o, e', d⟩ := ho p.1 hb
  rw [e] at e'; cases e'
  exact ⟨e, f0, f1, f2, d⟩
theorem Inv.unpinned {pins pl : List (Addr × Obj)} {σ : St} {H : Hp} {s : Shared} (I : Inv X (pins ++ pl) σ H s) : Inv X pins σ H s := I.pins_of fun p hp => I.pin p (List.mem_append_right _ (List.mem_append_left _ hp))
theorem aSi {iter : Expr} {body : List Stmt} {wi : TI} {g : TG} {tb : TS} {pos : Pos} (hp : PassesOwn (model X.prog X.w) X.A X.env X.xe) (hc : X.calm = true) (hi : PI X tg iter wi) (hg : PG X tg g) (hb : PSs X body tb)
  (hs : ∀ x, foldedSetIterable iter X.env x = pure x := by intro _; rfl) : PS X (.For tg iter body [] pos) (aYi wi g tb) := by
 intro pins s σ H D I h
 refine wpAny_For (thn (hi pins s σ H _ I h) fun v s1 h1 => thn h1 fun itv s2 h2 => ?_) hs
 obtain ⟨it, fp, tn, J, H2, e, I2, T, st2, f2, W, ⟨m0, w0⟩, turn⟩ := h2
 subst e
 have stat : ∀ {H' : Hp}, (∀ b ∈ fp, H' b = none) -> ∀ b ∈ fp, qP X pins H' b := fun hn b hb => ⟨hn b hb, (f2 b hb).2⟩
 refine codeAny_forLoop_any (fun n s' => ∃ i σ' H', Inv X pins σ' H' s' /\ tn i s'.heap /\ (∀ b ∈ fp, H' b = none) /\ W i n σ' H') ?_ m0 ⟨0, σ, H2, I2, st2, fun b hb => (f2 b hb).1, w0⟩
 rintro n s3 ⟨i, σ3, H3, I3, st3, fr3, w3⟩
 rcases turn i n σ3 H3 w3 with ⟨stop, qn⟩ | ⟨go, N, hN, step⟩
 ·refine wpAny_passesOwn hp (thn (T.done X rfl rfl rfl hc i pins s3 σ3 H3 X.xe I3 (stat fr3) st3 stop) fun r s4 ⟨hr, I4⟩ => ?_)
  subst hr
  exact wpAny_execs_nil ⟨σ3, H3, I4, qn⟩
 ·refine wpAny_passesOwn hp (thn (T.item X rfl rfl rfl hc i pins s3 σ3 H3 X.xe I3 (stat fr3) st3 go) fun r s4 ⟨u, hr, h4⟩ => ?_)
  subst hr
  refine wpAny_passesOwn hp (thn h4 fun _ s5 ⟨x, H5, I5, r5, y5, st5, fr5⟩ => ?_)
  have I5' := I5.pinned (stat fr5) (T.obj _ _ st5)
  refine wpAny_passesOwn hp (thn (hg _ s5 σ3 H5 x u _ I5' r5 (step x H5 y5)) fun _ s6 ⟨σ6, H6, I6, q6⟩ => ?_)
  refine wpAny_passesOwn hp (thn (hb _ s6 σ6 H6 _ I6 q6) fun f s7 q7 => ?_)
  have again : ∀ {σ7 : St} {H7 : Hp}, Inv X (pins ++ aDx fp s5.heap) σ7 H7 s7 -> N σ7 H7 -> ∃ m, m < n /\ ∃ i σ' H', Inv X pins σ' H' s7 /\ tn i s7.heap /\ (∀ b ∈ fp, H' b = none) /\ W i m σ' H' := fun {σ7 H7} I7 n7 => by
   obtain ⟨m', hm, w7⟩ := hN σ7 H7 n7
   refine ⟨m', hm, i + 1, σ7, H7, I7.unpinned, T.keep _ _ _ st5 fun b hb o e => (I7.pin (b, o) (List.mem_append_right _ (List.mem_append_right _ (kW hb e)))).1, fun b hb => ?_, w7⟩
   obtain ⟨o, e, d⟩ := T.obj _ _ st5 b hb
   exact (I7.pin (b, o) (List.mem_append_right _ (List.mem_append_right _ (kW hb e)))).2.1
  cases f with
  | next => obtain ⟨σ7, H7, I7, n7⟩ := q7; exact again I7 n7
  | cont => obtain ⟨σ7, H7, I7, n7⟩ := q7; exact again I7 n7
  | brk => obtain ⟨σ7, H7, I7, q7⟩ := q7; exact ⟨σ7, H7, I7.unpinned, q7⟩
  | ret v => obtain ⟨x7, σ7, H7, I7, r7, q7⟩ := q7; exact ⟨x7, σ7, H7, I7.unpinned, r7, q7⟩
end
end L2
namespace L2
open PySem PySem.Spec PyProof.Rows
abbrev R2 := V -> V -> Hp -> VK -> Prop
def OpR (X : Cx) (f : Value -> Value -> Sem Value) (r : R2) : Prop :=
 ∀ (pins : List (Addr × Obj)) (s : Shared) (σ : St) (H : Hp) (x y : V) (v u : Value) (Q : VK), Inv X pins σ H s -> RelV x v -> RelV y u -> r x y H Q ->
  wpAny (model X.prog X.w) X.A (f v u) (EP X pins σ Q) X.xe s
def mC (X : Cx) (f : Value) (r : List V -> Hp -> VK -> Prop) : Prop :=
 ∀ (pins : List (Addr × Obj)) (s : Shared) (σ : St) (H : Hp) (xs : List V) (us : List Value) (Q : VK), Inv X pins σ H s -> Vals xs us -> r xs H Q ->
  wpAny (model X.prog X.w) X.A (call f us) (EP X pins σ Q) X.xe s
def tOp (r : R2) (ta tb : TE) : TE := fun σ H Q => ta σ H fun x H1 => tb σ H1 fun y H2 => r x y H2 Q
def rI (C : Int -> Int -> Prop) (g : Int -> Int -> V) : R2 := fun x y H Q => ∃ i j, x = .int i /\ y = .int j /\ C i j /\ Q (g i j) H
def rI0 (g : Int -> Int -> V) : R2 := fun x y H Q => ∃ i j, x = .int i /\ y = .int j /\ Q (g i j) H
section
variable {X : Cx} {a b c : Expr} {ta tb tc : TE} {pos : Pos}
theorem aSj (ha : PE X a ta) (hb : PE X b tb) {pins : List (Addr × Obj)} {s : Shared} {σ : St} {H : Hp} {R : V -> V -> Hp -> Prop} (I : Inv X pins σ H s)
  (h : ta σ H fun x H1 => tb σ H1 fun y H2 => R x y H2) {Q : Value -> Shared -> Prop} {f : Value -> Value -> Sem Value}
  (hf : ∀ v u s2 x y H2, Inv X pins σ H2 s2 -> RelV x v -> RelV y u -> R x y H2 -> wpAny (model X.prog X.w) X.A (f v u) Q X.xe s2) :
  wpAny (model X.prog X.w) X.A (eval a X.env) (fun v s₁ => wpAny (model X.prog X.w) X.A (eval b X.env) (fun u s₂ => wpAny (model X.prog X.w) X.A (f v u) Q X.xe s₂) X.xe s₁) X.xe s := by
 refine thn (ha pins s σ H _ I h) fun v s1 ⟨x, H1, I1, r1, q1⟩ => ?_
 refine thn (hb pins s1 σ H1 _ I1 q1) fun u s2 ⟨y, H2, I2, r2, q2⟩ => ?_
 exact hf v u s2 x y H2 I2 r1 r2 q2
theorem aRe {op : Operator} {r : R2} (ho : OpR X (binaryOp op) r) (ha : PE X a ta) (hb : PE X b tb) : PE X (.BinOp a op b pos) (tOp r ta tb) := by
 intro pins s σ H Q I h
 exact wpAny_BinOp (aSj ha hb I h fun v u s2 x y H2 I2 rx ry q => ho pins s2 σ H2 x y v u Q I2 rx ry q)
theorem opI {f : Value -> Value -> Sem Value} {C : Int -> Int -> Prop} {g : Int -> Int -> Int}
  (rule : ∀ (i j : Int) (t u : Tok) (s : Shared) (Q : Value -> Shared -> Prop) (E : Value -> Shared -> Prop), C i j -> Q (.int (g i j) s.toks) { s with toks := s.toks + 1 } -> wpAny (model X.prog X.w) X.A (f (.int i t) (.int j u)) Q E s) :
  OpR X f (rI C fun i j => .int (g i j)) := by
 intro pins s σ H x y v u Q I rx ry h
 obtain ⟨i, j, rfl, rfl, hc, q⟩ := h
 obtain ⟨t, rfl⟩ := rx
 obtain ⟨t', rfl⟩ := ry
 exact rule i j t t' s _ _ hc ⟨.int (g i j), H, I.tok _, ⟨_, rfl⟩, q⟩
theorem aV5 {f : Value -> Value -> Sem Value} {g : Int -> Int -> Int}
  (rule : ∀ (i j : Int) (t u : Tok) (s : Shared) (Q : Value -> Shared -> Prop) (E : Value -> Shared -> Prop), Q (.int (g i j) s.toks) { s with toks := s.toks + 1 } -> wpAny (model X.prog X.w) X.A (f (.int i t) (.int j u)) Q E s) :
  OpR X f (rI0 fun i j => .int (g i j)) := by
 intro pins s σ H x y v u Q I rx ry h
 obtain ⟨i, j, rfl, rfl, q⟩ := h
 obtain ⟨t, rfl⟩ := rx
 obtain ⟨t', rfl⟩ := ry
 exact rule i j t t' s _ _ ⟨.int (g i j), H, I.tok _, ⟨_, rfl⟩, q⟩
theorem aP7 {f : Value -> Value -> Sem Value} {g : Int -> Int -> Bool}
  (rule : ∀ (i j : Int) (t u : Tok) (s : Shared) (Q : Value -> Shared -> Prop) (E : Value -> Shared -> Prop), Q (.bool (g i j)) s -> wpAny (model X.prog X.w) X.A (f (.int i t) (.int j u)) Q E s) :
  OpR X f (rI0 fun i j => .bl (g i j)) := by
 intro pins s σ H x y v u Q I rx ry h
 obtain ⟨i, j, rfl, rfl, q⟩ := h
 obtain ⟨t, rfl⟩ := rx
 obtain ⟨t', rfl⟩ := ry
 exact rule i j t t' s _ _ ⟨.bl (g i j), H, I, rfl, q⟩
def aYj (i j : Int) : Prop := 0 < j /\ j < 1073741824
def aYk (i j : Int) : Prop := 0 <= j /\ j <= 1000000 /\ i.natAbs < 2 ^ 64
def aGx (i j : Int) : Prop := (-(2 ^ 64) < i /\ i < 2 ^ 64) \/ (-(2 ^ 64) < j /\ j < 2 ^ 64)
theorem aGx.ok {i j : Int} (h : aGx i j) : IntMulOk i j := by
 rcases h with ⟨h1, h2⟩ | ⟨h1, h2⟩
 ·exact .of_left (intBits_le_64 h1 h2)
 ·exact .of_right (intBits_le_64 h1 h2)
theorem aSk : OpR X (binaryOp .Add) (rI0 fun i j => .int (i + j)) := aV5 fun _ _ _ _ _ _ _ q => add_int q
theorem aSl : OpR X (binaryOp .Sub) (rI0 fun i j => .int (i - j)) := aV5 fun _ _ _ _ _ _ _ q => sub_int q
theorem aLv : OpR X (binaryOp .Mult) (rI aGx fun i j => .int (i * j)) := opI fun _ _ _ _ _ _ _ hc q => mul_int q hc.ok
theorem aP8 : OpR X (binaryOp .FloorDiv) (rI aYj fun i j => .int (i / j)) := opI fun i j _ _ _ _ _ hc q => by
 have h1 : (0 : Int) < j := hc.1
 have h2 : j < 1073741824 := hc.2
 exact floordiv_int (by omega) (by rw [Int.fdiv_eq_ediv_of_nonneg i (by omega)]; exact q) (.inl (PyProof.noPylong_small (by omega)))
theorem aSm : OpR X (binaryOp .Mod) (rI (fun _ j => 0 < j) fun i j => .int (i % j)) := opI fun i j _ _ _ _ _ hc q => by
 have h1 : (0 : Int) < j := hc
 exact mod_int' (by omega) (by rw [Int.fmod_eq_emod_of_nonneg i (by omega)]; exact q)
theorem aSn : OpR X (binaryOp .Pow) (rI aYk fun i j => .int (i ^ j.toNat)) := opI fun _ _ _ _ _ _ _ hc q => pow_int_small hc.1 hc.2.1 hc.2.2 q
end
section
variable {X : Cx} {a b c : Expr} {ta tb tc : TE} {pos : Pos}
theorem aRf : OpR X (compareOp .Lt) (rI0 fun i j => .bl (decide (i < j))) := aP7 fun _ _ _ _ _ _ _ q => lt_int q
theorem aV6 : OpR X (compareOp .LtE) (rI0 fun i j => .bl (decide (i <= j))) := aP7 fun _ _ _ _ _ _ _ q => le_int q
theorem aLw : OpR X (compareOp .Gt) (rI0 fun i j => .bl (decide (j < i))) := aP7 fun _ _ _ _ _ _ _ q => gt_int q
theorem aLx : OpR X (compareOp .GtE) (rI0 fun i j => .bl (decide (j <= i))) := aP7 fun _ _ _ _ _ _ _ q => ge_int q
theorem OpR.or {f : Value -> Value -> Sem Value} {r r' : R2} (h : OpR X f r) (h' : OpR X f r') : OpR X f (fun x y H Q => r x y H Q \/ r' x y H Q) := by
 intro pins s σ H x y v u Q I rx ry q
 rcases q with q | q
 ·exact h pins s σ H x y v u Q I rx ry q
 ·exact h' pins s σ H x y v u Q I rx ry q
theorem dF (b : Expr) {op : CmpOp} (h : op ≠ .In := by decide) (h2 : op ≠ .NotIn := by decide) : behindInMarks op b = false := by
 have e1 : (op == CmpOp.In) = false := by cases op <;> first | rfl | exact absurd rfl h
 have e2 : (op == CmpOp.NotIn) = false := by cases op <;> first | rfl | exact absurd rfl h2
 cases b <;> simp [behindInMarks, e1, e2]
theorem aP9 {op : CmpOp} {r : R2} (ho : OpR X (compareOp op) r) (ha : PE X a ta) (hb : PE X b tb) (hm : behindInMarks op b = false) : PE X (.Compare a [op] [b] pos) (tOp r ta tb) := by
 intro pins s σ H Q I h
 exact wpAny_Compare1 (aSj ha hb I h fun v u s2 x y H2 I2 rx ry q => ho pins s2 σ H2 x y v u Q I2 rx ry q) hm
def aV7 (t : TE) : TT := fun σ H Q => t σ H fun x H' => ∃ k, x = .bl k /\ Q k H'
theorem aPa {op : CmpOp} {r : R2} (ho : OpR X (compareOp op) r) (ha : PE X a ta) (hb : PE X b tb) (hm : behindInMarks op b = false) : PT X (.Compare a [op] [b] pos) (aV7 (tOp r ta tb)) := by
 intro pins s σ H Q I h
 refine wpAny_isTrue_Compare1 (thn (ha pins s σ H _ I h) fun v s1 ⟨x, H1, I1, r1, q1⟩ => thn (hb pins s1 σ H1 _ I1 q1) fun u s2 ⟨y, H2, I2, r2, q2⟩ =>
  thn (ho pins s2 σ H2 x y v u _ I2 r1 r2 q2) fun c s3 ⟨z, H3, I3, r3, k, e, q3⟩ => ?_) hm
 subst e
 cases r3
 exact wpAny_truthy_bool ⟨H3, I3, q3⟩
theorem yF : (sizeLine : Nat) < 2 ^ 63 := by rw [sizeLine_eq]; decide
theorem aGy : OpR X (binaryOp .Add) (fun x y H Q => ∃ i j, x = .str i /\ y = .str j /\ i.length + j.length <= sizeLine /\ Q (.str (i ++ j)) H) := by
 intro pins s σ H x y v u Q I rx ry h
 obtain ⟨i, j, rfl, rfl, hz, q⟩ := h
 obtain ⟨t, rfl⟩ := rx
 obtain ⟨t', rfl⟩ := ry
 exact add_str (fun t' tk => ⟨.str (i ++ j), H, I.tok _, ⟨_, rfl⟩, q⟩) hz
theorem vals1 {x : V} {us : List Value} (r : Vals [x] us) : ∃ u, us = [u] /\ RelV x u := by
 cases r with
 | cons r1 r2 => cases r2; exact ⟨_, rfl, r1⟩
theorem vals2 {x y : V} {us : List Value} (r : Vals [x, y] us) : ∃ u w', us = [u, w'] /\ RelV x u /\ RelV y w' := by
 cases r with
 | cons r1 r2 =>
  cases r2 with
  | cons r3 r4 => cases r4; exact ⟨_, _, rfl, r1, r3⟩
theorem aJv (hc : X.calm = true) : mC X (.builtin "max") (fun xs H Q => ∃ i j, xs = [.int i, .int j] /\ Q (.int (if j > i then j else i)) H) := by
 intro pins s σ H xs us Q I r h
 obtain ⟨i, j, rfl, q⟩ := h
 obtain ⟨u, w', rfl, ⟨t, rfl⟩, ⟨t', rfl⟩⟩ := vals2 r
 refine max_two_ints (I.ok.hd hc) fun h' tk k => ⟨_, H, I.kept k, ?_, q⟩
 by_cases hj : j > i
 ·rw [if_pos hj, if_pos hj]; exact ⟨_, rfl⟩
 ·rw [if_neg hj, if_neg hj]; exact ⟨_, rfl⟩
theorem aJw (hc : X.calm = true) : mC X (.builtin "min") (fun xs H Q => ∃ i j, xs = [.int i, .int j] /\ Q (.int (if j < i then j else i)) H) := by
 intro pins s σ H xs us Q I r h
 obtain ⟨i, j, rfl, q⟩ := h
 obtain ⟨u, w', rfl, ⟨t, rfl⟩, ⟨t', rfl⟩⟩ := vals2 r
 refine min_two_ints (I.ok.hd hc) fun h' tk k => ⟨_, H, I.kept k, ?_, q⟩
 by_cases hj : j < i
 ·rw [if_pos hj, if_pos hj]; exact ⟨_, rfl⟩
 ·rw [if_neg hj, if_neg hj]; exact ⟨_, rfl⟩
end
end L2
namespace L2
open PySem PySem.Spec PyProof.Rows
structure ObjM (h : Heap) (x dx C : Addr) (mA : Str -> Option Value) : Prop where
 obj : h.get? x = some (PySem.W.instObj C dx)
 ns : h.Ns1 dx mA
 ne : dx ≠ x
theorem aJx {h : Heap} {dx : Addr} {mA : Str -> Option Value} (n : h.Ns1 dx mA) : ∃ od, h.get? dx = some od /\ ∀ name, PySem.W.lookIn name od = some (mA name) := by
 obtain ⟨o, es, ep, ho, hd, hk, _, hm⟩ := n
 refine ⟨o, ho, fun name => ?_⟩
 have e := hm name
 unfold nsFind findBy at e
 rw [<- Array.find?_toList] at e
 unfold PySem.W.lookIn
 rw [hd]
 dsimp only
 split
 ·rename_i y q
  rw [q] at e
  exact congrArg some e
 ·rename_i q
  rw [q] at e
  have a : es.toList.any (·.refKey) = false := by
   rw [List.any_eq_false]
   intro y hy
   obtain ⟨z, t, hkey⟩ := hk y (Array.mem_toList_iff.mp hy)
   simp [DictEntry.refKey, hkey]
  have a' : ¬ es.toList.any (·.refKey) = true := by rw [a]; exact Bool.false_ne_true
  rw [if_neg a']
  exact congrArg some e
theorem ObjM.look {h : Heap} {x dx C : Addr} {mA : Str -> Option Value} (I : ObjM h x dx C mA) : ∃ od, PySem.W.InstAt h x (PySem.W.instObj C dx) C (some od) /\ ∀ name, PySem.W.lookIn name od = some (mA name) :=
 let ⟨od, ho, hl⟩ := aJx I.ns
 ⟨od, ⟨I.obj, rfl, rfl, ho⟩, hl⟩
section
variable {prog : Program} {w : World} {A : Around} {E : Value -> Shared -> Prop} {s : Shared} {K : PySem.W.Frag} {x dx C f : Addr} {mA : Str -> Option Value} {name : Str} {v : Value}
theorem aPb {expr : Bool} {Q : Value -> Shared -> Prop} (X : K.In s.heap) (I : ObjM s.heap x dx C mA) (hg : PySem.W.plainGet K C name = true) (hh : PySem.W.hasDictIn K C = true)
  (ha : PySem.W.findIn K (.ref C) name = some none) (hv : mA name = some v) (hv' : PySem.W.handedIn v = true) (h : Q v { s with toks := s.toks + 1 }) :
  wpAny (model prog w) A (getAttr (.ref x) name expr) Q E s := by
 obtain ⟨od, J, hl⟩ := I.look
 exact PySem.W.get_value X J (PySem.W.plainGet_of hg).1 (PySem.W.findObj_own hh ha rfl (by rw [hl, hv])) hv' h
theorem aPc {ns : List Str} {Q : Unit -> Shared -> Prop} (X : K.In s.heap) (I : ObjM s.heap x dx C mA)
  (hs : PySem.W.findIn K (.ref C) "__setattr__" = some (some (.builtin "object.__setattr__"))) (hp : PySem.W.plainOver K C = true) (ht : PySem.W.takerIn K C name = some none) (hh : PySem.W.hasDictIn K C = true)
  (hw : PySem.Within mA ns) (hsz : ns.length <= sizeLine)
  (h : ∀ h', ObjM h' x dx C (fun y => if y = name then some v else mA y) -> Heap.SameBut dx s.heap h' -> Q () { s with heap := h', toks := s.toks + 2 }) :
  wpAny (model prog w) A (setAttr (.ref x) name v) Q E s := by
 obtain ⟨od, J, hl⟩ := I.look
 refine PySem.W.set_plain X J hs (PySem.W.osa_open (s := { s with toks := s.toks + 1 }) (r := none) X J hp ht fun b => ?_)
 obtain ⟨cd, hc, hd'⟩ := PySem.W.any_some hh
 have hx : s.heap.get? x = some ⟨.ref C, some dx, .plain, #[]⟩ := I.obj
 refine wpAny_bind (wpAny_pure (wpAny_bind (wpAny_bind (wpAny_loadPart hx (wpAny_bind (PySem.W.Looks.here (s := { s with toks := s.toks + 1 }) (PySem.W.looks_clsIn X hc) ?_))))))
 rw [hd']
 refine wpAny_pure (a := some dx) (wpAny_bind (wpAny_pure (wpAny_bind ?_)))
 refine wpAny_nsSet1 (s := { s with toks := s.toks + 1 }) I.ns fun h' hn2 hs2 => ?_
 obtain ⟨oD, esD, epD, hoD, hdD, hcD⟩ := hn2.count (PySem.Within.cons name v hw)
 refine wpAny_bind (wpAny_lookBehind hoD (by rw [hdD]; exact pastItsLine_dict (Nat.le_trans hcD (by rw [List.length_cons]; omega))) ?_)
 exact wpAny_pure (h _ ⟨(hs2.2 _ (Ne.symm I.ne)).trans I.obj, hn2, I.ne⟩ hs2)
theorem aF4 {R : Result -> Shared -> Prop} {vs : List Value} {kw : List (Str × Value)} (X : K.In s.heap) (hm : PySem.W.makesIn K C = true)
  (hi : PySem.W.findIn K (.ref C) "__init__" = some (some (.ref f))) (hf : PySem.W.typeIn K (.ref f) = some (.type "function"))
  (h : codeAny (model prog w) (A.under (.builtin "type.__call__" ⟨.ref C :: vs, kw⟩)) (.call (.ref f) ⟨.ref (s.heap.objs.size + 1) :: vs, kw⟩) (PySem.W.InitBack (s.heap.objs.size + 1) R)
   { s with heap := (s.heap.push PySem.W.emptyDict).push (PySem.W.instObj C s.heap.objs.size) }) :
  codeAny (model prog w) A (.call (.ref C) ⟨vs, kw⟩) R s := by
 obtain ⟨hh, g, d, t, os⟩ := s
 exact PySem.W.make_core (PySem.W.makes_of X hm) (PySem.W.looks_findIn X hi) (fun self => PySem.W.bind_fn X self hf) (.inl rfl) h
end
def rQ (f : Str) (v : V) : List (Str × V) -> List (Str × V)
 | [] => [(f, v)]
 | (g, x) :: r => if g = f then (g, v) :: r else (g, x) :: rQ f v r
theorem zR (f g : Str) (v : V) : ∀ fs : List (Str × V), (rQ f v fs).lookup g = if g = f then some v else fs.lookup g
 | [] => by
  show List.lookup g [(f, v)] = _
  by_cases h : g = f
  ·have hb : (g == f) = true := beq_iff_eq.mpr h
   simp only [List.lookup, hb, if_pos h]
  ·have hb : (g == f) = false := beq_eq_false_iff_ne.mpr h
   simp only [List.lookup, hb, if_neg h]
 | (k, x) :: r => by
  have ih := zR f g v r
  rw [show rQ f v ((k, x) :: r) = (if k = f then (k, v) :: r else (k, x) :: rQ f v r) from rfl]
  by_cases hk : k = f
  ·rw [if_pos hk]
   by_cases h : g = k
   ·have hb : (g == k) = true := beq_iff_eq.mpr h
    simp only [List.lookup, hb, if_pos (h.trans hk)]
   ·have hb : (g == k) = false := beq_eq_false_iff_ne.mpr h
    simp only [List.lookup, hb, if_neg (fun e : g = f => h (e.trans hk.symm))]
  ·rw [if_neg hk]
   by_cases h : g = k
   ·have hb : (g == k) = true := beq_iff_eq.mpr h
    simp only [List.lookup, hb, if_neg (fun e : g = f => hk (h.symm.trans e))]
   ·have hb : (g == k) = false := beq_eq_false_iff_ne.mpr h
    simp only [List.lookup, hb]
    exact ih
theorem yG (f : Str) (v : V) : ∀ fs : List (Str × V), f ∈ (rQ f v fs).map (·.1) /\ ∀ g, g ∈ fs.map (·.1) -> g ∈ (rQ f v fs).map (·.1)
 | [] => ⟨by simp [rQ], fun g h => by simp at h⟩
 | (k, x) :: r => by
  obtain ⟨i1, i2⟩ := yG f v r
  rw [show rQ f v ((k, x) :: r) = (if k = f then (k, v) :: r else (k, x) :: rQ f v r) from rfl]
  by_cases hk : k = f
  ·rw [if_pos hk]
   subst hk
   exact ⟨by simp, fun g h => by simpa using h⟩
  ·rw [if_neg hk]
   refine ⟨?_, fun g h => ?_⟩
   ·rw [List.map_cons]
    exact List.mem_cons_of_mem _ i1
   ·rw [List.map_cons] at h ⊢
    rcases List.mem_cons.mp h with e | e
    ·exact List.mem_cons.mpr (.inl e)
    ·exact List.mem_cons_of_mem _ (i2 g e)
theorem zT (f : Str) (v : V) : ∀ fs : List (Str × V), (rQ f v fs).length <= fs.length + 1
 | [] => by simp [rQ]
 | (k, x) :: r => by
  have ih := zT f v r
  rw [show rQ f v ((k, x) :: r) = (if k = f then (k, v) :: r else (k, x) :: rQ f v r) from rfl]
  by_cases hk : k = f
  ·rw [if_pos hk, List.length_cons, List.length_cons]; omega
  ·rw [if_neg hk, List.length_cons, List.length_cons]; omega
theorem aAc.some_of {v : V} {o : Option Value} (r : aAc (some v) o) : ∃ u, o = some u /\ RelV v u := by
 cases o with
 | none => exact (show False from r).elim
 | some u => exact ⟨u, rfl, r⟩
theorem aJy {v : V} {u : Value} (r : RelV v u) : PySem.W.handedIn u = true := by
 cases v with
 | non => cases (show u = Value.none from r); rfl
 | bl b => cases (show u = Value.bool b from r); rfl
 | int i => obtain ⟨t, e⟩ := (show ∃ t, u = Value.int i t from r); cases e; rfl
 | str x => obtain ⟨t, e⟩ := (show ∃ t, u = Value.str x t from r); cases e; rfl
 | byt b => obtain ⟨t, e⟩ := (show ∃ t, u = Value.bytes b t from r); cases e; rfl
 | flt b => obtain ⟨t, e⟩ := (show ∃ t, u = Value.float b t from r); cases e; rfl
 | ref a => cases (show u = Value.ref a from r); rfl
 | ty n => cases (show u = Value.type n from r); rfl
section
variable {P : Program} {w : World} {H H' : Hp} {h h' : Heap} {a C dx : Addr} {fs fs' : List (Str × V)}
theorem aIe (hok : HOk P w H h) (e : H a = some (.ins C dx fs)) : ∃ mA, ObjM h a dx C mA /\ (∀ f, aAc (fs.lookup f) (mA f)) /\ PySem.Within mA (fs.map (·.1)) /\ fs.length <= 1000 /\ H dx = some (.own a) := by
 obtain ⟨d, z, ne, ob, mA, n, r, q⟩ := (show jN P w H h a (.ins C dx fs) from hok a _ e)
 exact ⟨mA, ⟨ob, n, ne⟩, r, q, z, d⟩
end
structure Cls (K : PySem.W.Frag) (C : Addr) : Prop where
 pg : PySem.W.plainGet K C Str.empty = true
 hd : PySem.W.hasDictIn K C = true
 po : PySem.W.plainOver K C = true
 sa : PySem.W.findIn K (.ref C) "__setattr__" = some (some (.builtin "object.__setattr__"))
theorem Cls.get {K : PySem.W.Frag} {C : Addr} (c : Cls K C) (f : Str) : PySem.W.plainGet K C f = true := c.pg
def iI (K : PySem.W.Frag) (C : Addr) (f : Str) : Prop := PySem.W.findIn K (.ref C) f = some none
theorem iI.taker {K : PySem.W.Frag} {C : Addr} {f : Str} (n : iI K C f) : PySem.W.takerIn K C f = some none := by
 unfold PySem.W.takerIn
 rw [show PySem.W.findIn K (.ref C) f = some none from n]
 rfl
section
variable {X : Cx} {pins : List (Addr × Obj)} {σ : St} {H : Hp} {s : Shared} {a C dx : Addr} {fs : List (Str × V)} {f : Str} {v : V} {A : Around} {E : Value -> Shared -> Prop}
theorem aGz {b : Bool} {Q : Value -> Shared -> Prop} (I : Inv X pins σ H s) (e : H a = some (.ins C dx fs)) (c : Cls X.K C) (n : iI X.K C f) (l : fs.lookup f = some v)
  (h : ∀ u s', Inv X pins σ H s' -> RelV v u -> Q u s') : wpAny (model X.prog X.w) A (getAttr (.ref a) f b) Q E s := by
 obtain ⟨mA, O, r, _, _, _⟩ := aIe I.hok e
 obtain ⟨u, hu, ru⟩ := aAc.some_of (v := v) (o := mA f) (by rw [<- l]; exact r f)
 exact aPb I.kIn O (c.get f) c.hd n hu (aJy ru) (h u _ (I.tok _) ru)
theorem aH0 {y : V} {u : Value} {Q : Unit -> Shared -> Prop} (I : Inv X pins σ H s) (e : H a = some (.ins C dx fs)) (c : Cls X.K C) (n : iI X.K C f) (hl : fs.length < 1000) (ry : RelV y u)
  (h : ∀ s', Inv X pins σ (upd H a (.ins C dx (rQ f y fs))) s' -> Q () s') : wpAny (model X.prog X.w) A (setAttr (.ref a) f u) Q E s := by
 obtain ⟨mA, O, r, wi, _, ho⟩ := aIe I.hok e
 have hz : (fs.map (·.1)).length <= sizeLine := by rw [List.length_map, sizeLine_eq]; omega
 refine aPc I.kIn O c.sa c.po n.taker c.hd wi hz fun h' O' sb => h _ ?_
 have hd : ∃ o, h'.get? dx = some o := let ⟨o, _, _, e', _⟩ := O'.ns; ⟨o, e'⟩
 refine I.write (x := a) (e := dx) (by rw [e]; exact True.intro) (.inr ho) (fun b q hb z => (sb.2 b hb).trans z) hd ?_
 refine ⟨by rw [aU O.ne]; exact ho, ?_, O.ne, O'.obj, _, O'.ns, fun g => ?_, fun g hg => ?_⟩
 ·have := zT f y fs; omega
 ·show aAc ((rQ f y fs).lookup g) (if g = f then some u else mA g)
  rw [zR]
  by_cases q : g = f
  ·rw [if_pos q, if_pos q]; exact ry
  ·rw [if_neg q, if_neg q]; exact r g
 ·by_cases q : g = f
  ·rw [q]; exact (yG f y fs).1
  ·refine (yG f y fs).2 g (wi g fun z => hg ?_)
   show (if g = f then some u else mA g) = none
   rw [if_neg q]; exact z
theorem Inv.made (I : Inv X pins σ H s) : Inv X pins σ (upd (upd H s.heap.objs.size (.own (s.heap.objs.size + 1))) (s.heap.objs.size + 1) (.ins C s.heap.objs.size []))
  { s with heap := (s.heap.push PySem.W.emptyDict).push (PySem.W.instObj C s.heap.objs.size) } := by
 have e1 : (s.heap.push PySem.W.emptyDict).get? s.heap.objs.size = some PySem.W.emptyDict := Heap.get?_push_size s.heap rfl
 have e2 : ((s.heap.push PySem.W.emptyDict).push (PySem.W.instObj C s.heap.objs.size)).get? (s.heap.objs.size + 1) = some (PySem.W.instObj C s.heap.objs.size) := by
  have := Heap.get?_push_size (s.heap.push PySem.W.emptyDict) (o := PySem.W.instObj C s.heap.objs.size) rfl
  rwa [Heap.size_push] at this
 have e3 : (s.heap.push PySem.W.emptyDict).Ns s.heap.objs.size (fun _ => none) := ⟨PySem.W.emptyDict, #[], _, e1, rfl, (fun e he => absurd he (by simp)), fun _ => rfl⟩
 have I1 := I.laid (a := s.heap.objs.size) (o := .own (s.heap.objs.size + 1)) (h' := s.heap.push PySem.W.emptyDict) (t' := s.toks) (fun b u q => Heap.get?_push_of_some _ q) (Nat.le_refl _) ⟨_, e1⟩
 refine I1.laid (a := s.heap.objs.size + 1) (o := .ins C s.heap.objs.size []) (t' := s.toks) (fun b u q => Heap.get?_push_of_some _ q) (Nat.le_of_eq (Heap.size_push _ _)) ?_
 have ne : s.heap.objs.size ≠ s.heap.objs.size + 1 := Nat.ne_of_lt (Nat.lt_succ_self _)
 refine ⟨by rw [aU ne, bY], Nat.zero_le _, ne, e2, fun _ => none, (Heap.Ns1.of_empty e3).at fun o q => Heap.get?_push_of_some _ q, fun _ => True.intro, fun y hy => absurd rfl hy⟩
theorem aPd {prog : Program} {w : World} {env : Env} {e : Expr} {f : Str} {pos : Pos} {s : Shared} {Q : Value -> Shared -> Prop} (hb : attributeBase e f env (eval e env) = eval e env)
  (h : wpAny (model prog w) A (eval e env) (fun o s₁ => wpAny (model prog w) A (getAttr o f true) Q E s₁) E s) : wpAny (model prog w) A (eval (.Attribute e f pos) env) Q E s :=
 Attribute_any_ h (by rw [arm_eval_Attribute, hb])
end
def aYl (K : PySem.W.Frag) (ta : TE) (f : Str) : TE := fun σ H Q => ta σ H fun x H1 => ∃ a C dx fs v, x = .ref a /\ H1 a = some (.ins C dx fs) /\ Cls K C /\ iI K C f /\ fs.lookup f = some v /\ Q v H1
def aYm (K : PySem.W.Frag) (ta tv : TE) (f : Str) : TS := fun D σ H => tv σ H fun y H1 => ta σ H1 fun x H2 => ∃ a C dx fs, x = .ref a /\ H2 a = some (.ins C dx fs) /\ Cls K C /\ iI K C f /\ fs.length < 1000 /\
 D.nx σ (upd H2 a (.ins C dx (rQ f y fs)))
section
variable {X : Cx} {o e value : Expr} {f : Str} {pos pos' tpos : Pos} {ta tv : TE}
theorem aSo (he : PE X e ta) (hb : attributeBase e f X.env (eval e X.env) = eval e X.env) : PE X (.Attribute e f pos) (aYl X.K ta f) := by
 intro pins s σ H Q I h
 refine aPd hb (thn (he pins s σ H _ I h) fun u s1 ⟨x, H1, I1, rx, a, C, dx, fs, v, ex, ea, c, n, l, q⟩ => ?_)
 subst ex
 obtain rfl : u = Value.ref a := rx
 exact aGz I1 ea c n l fun u' s2 I2 ru => ⟨v, H1, I2, ru, q⟩
theorem aSp (ha : PE X o ta) (hv : PE X value tv) (hs : swapsWith value (some (.Attribute o f pos')) pos.line X.env = pure false) : PS X (.Assign [.Attribute o f pos'] value pos) (aYm X.K ta tv f) := by
 intro pins s σ H D I h
 refine plainObj_wpAny_Assign_Attribute (thn (hv pins s σ H _ I h) fun u s1 ⟨y, H1, I1, ry, q⟩ => thn (ha pins s1 σ H1 _ I1 q) fun ov s2 ⟨x, H2, I2, rx, a, C, dx, fs, ex, ea, c, n, l, q2⟩ => ?_) hs
 subst ex
 obtain rfl : ov = Value.ref a := rx
 exact aH0 I2 ea c n l ry fun s3 I3 => ⟨σ, _, I3, q2⟩
end
section
variable {X : Cx} {pins : List (Addr × Obj)} {σ : St} {H : Hp} {s : Shared} {A : Around} {E : Value -> Shared -> Prop} {Q : Value -> Shared -> Prop} {c : Value} {b : Bool}
inductive TyOf (K : PySem.W.Frag) (H : Hp) : V -> Value -> Prop where
 | non : TyOf K H .non (.type "NoneType")
 | bl (x : Bool) : TyOf K H (.bl x) (.type "bool")
 | int (i : Int) : TyOf K H (.int i) (.type "int")
 | str (x : Str) : TyOf K H (.str x) (.type "str")
 | flt (x : UInt64) : TyOf K H (.flt x) (.type "float")
 | lst {a : Addr} {xs : List V} (e : H a = some (.lst xs)) : TyOf K H (.ref a) (.type "list")
 | frz {a : Addr} {o : Obj} {xs : List V} (e : H a = some (.frz o (.lst xs))) : TyOf K H (.ref a) (.type "list")
 | tup {a : Addr} {xs : List V} (e : H a = some (.tup xs)) : TyOf K H (.ref a) (.type "tuple")
 | dK {a : Addr} {kvs : List (Key × V)} (e : H a = some (.dK kvs)) : TyOf K H (.ref a) (.type "dict")
 | dT {a : Addr} {kvs : List (List Key × V)} (e : H a = some (.dT kvs)) : TyOf K H (.ref a) (.type "dict")
 | ins {a C dx : Addr} {fs : List (Str × V)} (e : H a = some (.ins C dx fs)) (cl : Cls K C) (ha : PySem.W.findIn K (.ref C) "__class__" = some (some (.builtin "object.__class__")))
   (hn : PySem.W.specialIn K (.builtin "object.__class__") "__get__" = some (some (.builtin "getset_descriptor.__get__"))) (htk : PySem.W.takesIn K (.builtin "object.__class__") = some true)
   (hm : PySem.W.mroIn K C (.type "object") = some true) : TyOf K H (.ref a) (.ref C)
end
end L2
namespace L2
open PySem PySem.Spec PyProof.Rows
structure Room (k : Nat) (A : Around) : Prop where
 hd : A.handled = none
 dp : A.depth + 3 * k + 5 < recursionLimit
 un : A.units + 16 * k + 200 < cLine
theorem Room.mono {j k : Nat} {A : Around} (r : Room k A) (h : j <= k) : Room j A := ⟨r.hd, by have := r.dp; omega, by have := r.un; omega⟩
theorem Room.deeper {k : Nat} {A : Around} (r : Room (k + 1) A) (env : Env) : Room k (A.deeper env) :=
 ⟨r.hd, by have := r.dp; show A.depth + 1 + 3 * k + 5 < _; omega, by have := r.un; show A.units + 3 + 16 * k + 200 < _; omega⟩
theorem aH1 {A : Around} {C : Addr} {us : List Value} {kw : List (Str × Value)} : (A.under (.builtin "type.__call__" ⟨.ref C :: us, kw⟩)).depth = A.depth + 1 := by
 first | rfl | simp [Around.under, Code.weight, Code.isCreation, Code.isGuard, Code.isCaller, Code.frames, Code.isFrame, guardIds]
theorem aH2 {A : Around} {C : Addr} {us : List Value} {kw : List (Str × Value)} : (A.under (.builtin "type.__call__" ⟨.ref C :: us, kw⟩)).units = A.units + 1 := by
 first | rfl | simp [Around.under, Code.cUnits, Code.frames, Code.isFrame]
theorem Room.make {k : Nat} {A : Around} (r : Room (k + 1) A) (C : Addr) (us : List Value) (kw : List (Str × Value)) : Room k (A.under (.builtin "type.__call__" ⟨.ref C :: us, kw⟩)) :=
 ⟨r.hd, by have := r.dp; rw [aH1]; omega, by have := r.un; rw [aH2]; omega⟩
theorem Room.depth {k : Nat} {A : Around} (r : Room k A) : A.depth < recursionLimit := by have := r.dp; omega
theorem Room.units {k : Nat} {A : Around} (r : Room k A) : A.units + 64 < cLine := by have := r.un; omega
def aYn : TA := fun _ H Q => Q [] H
def aV8 (ta : TE) (tr : TA) : TA := fun σ H Q => ta σ H fun x H1 => tr σ H1 fun xs H2 => Q (x :: xs) H2
section
variable {X : Cx} {e : Expr} {es : List Expr} {te : TE} {t : TA} {pos : Pos}
theorem gG : PA X [] aYn := fun _ _ _ _ H Q I h => Calls.spliced_nil ⟨[], H, I, .nil, h⟩
theorem dC (ha : PE X e te) (hr : PA X es t) (hs : starEach (e :: es) X.env = (false, eval e X.env) :: starEach es X.env := by rfl) : PA X (e :: es) (aV8 te t) := by
 intro pos pins s σ H Q I h
 rw [hs]
 show wpAny _ _ (spliced ((false, eval e X.env) :: backTo pos (starEach es X.env))) _ _ s
 refine Calls.spliced_cons (thn (ha pins s σ H _ I h) fun u s1 ⟨x, H1, I1, r1, q1⟩ => ?_)
 exact thn (hr pos pins s1 σ H1 _ I1 q1) fun us s2 ⟨xs, H2, I2, r2, q2⟩ => ⟨x :: xs, H2, I2, .cons r1 r2, q2⟩
def aYo (t : TA) : TE := fun σ H Q => t σ H fun xs H1 => xs.length <= sizeLine /\ ∀ p, H1 p = none -> Q (.ref p) (upd H1 p (.tup xs))
def aYp (t : TA) : TE := fun σ H Q => t σ H fun xs H1 => xs.length <= sizeLine /\ ∀ p, H1 p = none -> Q (.ref p) (upd H1 p (.lst xs))
theorem aLy {x1} (h : PA X es t) : PE X (.Tuple es x1 pos) (aYo t) := by
 intro pins s σ H Q I hq
 refine wpAny_Tuple_spliced (thn (h pos pins s σ H _ I hq) fun us s1 ⟨xs, H1, I1, r, z, q⟩ => ⟨by rw [<- r.length]; exact z, ?_⟩)
 have hf : H1 s1.heap.objs.size = none := I1.hok.fresh (Nat.le_refl _)
 refine ⟨.ref s1.heap.objs.size, upd H1 s1.heap.objs.size (.tup xs), I1.laid (t' := s1.toks) (fun b u e => Heap.get?_push_of_some _ e) (Nat.le_refl _) ?_, rfl, q _ hf⟩
 exact ⟨z, us, r, ⟨_, Heap.get?_push_size _ rfl, rfl, _, rfl⟩⟩
theorem aH3 (h : PA X es t) : PE X (.List es pos) (aYp t) := by
 intro pins s σ H Q I hq
 refine wpAny_List_spliced (thn (h pos pins s σ H _ I hq) fun us s1 ⟨xs, H1, I1, r, z, q⟩ => ⟨by rw [<- r.length]; exact z, ?_⟩)
 have hf : H1 s1.heap.objs.size = none := I1.hok.fresh (Nat.le_refl _)
 refine ⟨.ref s1.heap.objs.size, upd H1 s1.heap.objs.size (.lst xs), I1.laid (t' := s1.toks) (fun b u e => Heap.get?_push_of_some _ e) (Nat.le_refl _) ?_, rfl, q _ hf⟩
 exact ⟨z, us, 0, r, Heap.get?_push_size _ rfl⟩
end
abbrev Sp := List V -> Hp -> VK -> XK -> Prop
abbrev CXT := List Env -> Hp -> Shared -> XK -> Value -> Shared -> Prop
structure Env0 (P : Program) (w : World) (K : PySem.W.Frag) (mg : Str -> Option Value) (base : Heap) (A : Around) (outer : List Env) (s : Shared) (H : Hp) : Prop where
 frames : A.frames = some outer
 mod : Mod K mg base
 bs : ∀ b o, base.get? b = some o -> s.heap.get? b = some o /\ H b = none
 bsz : base.objs.size <= s.heap.objs.size
 funs : s.heap.FunFrames base outer
 frf : ∀ b ∈ frs outer, H b = none
 hok : HOk P w H s.heap
 bare : AllBare s.gens
def CE (outer : List Env) (P : Program) (w : World) (H : Hp) (s : Shared) (Q : VK) (u : Value) (s' : Shared) : Prop :=
 ∃ v H', s'.os = s.os /\ AllBare s'.gens /\ Un (frs outer) [] H H' s.heap s'.heap /\ HOk P w H' s'.heap /\ RelV v u /\ Q v H'
def CR (CX : CXT) (outer : List Env) (P : Program) (w : World) (H : Hp) (s : Shared) (Q : VK) (E : XK) (r : Result) (s' : Shared) : Prop :=
 match r with
 | .ok (.ret u) => CE outer P w H s Q u s'
 | .ok _ => False
 | .error e => CX outer H s E e s'
structure FnOk (P : Program) (w : World) (K : PySem.W.Frag) (mg : Str -> Option Value) (base : Heap) (CX : CXT) (k : Nat) (f : Addr) (fd : FuncData) (ps : List Str) (sp : Sp) : Prop where
 len : ∀ vs H Q E, sp vs H Q E -> vs.length = ps.length
 run : ∀ (A : Around) (outer : List Env) (s : Shared) (H : Hp) (args : Args) (us : List Value) (vs : List V) (Q : VK) (E : XK), Room k A -> Env0 P w K mg base A outer s H -> BindsTo s fd args (ps.zip us) -> Vals vs us -> sp vs H Q E ->
  codeAny (model P w) A (.call (.ref f) args) (CR CX outer P w H s Q E) s
theorem Env0.make {P : Program} {w : World} {K : PySem.W.Frag} {mg : Str -> Option Value} {base : Heap} {A : Around} {outer : List Env} {s : Shared} {H : Hp} (e : Env0 P w K mg base A outer s H) (C : Addr) (us : List Value) (kw : List (Str × Value)) :
  Env0 P w K mg base (A.under (.builtin "type.__call__" ⟨.ref C :: us, kw⟩)) outer s H := ⟨by first | exact e.frames | (simpa [Around.under, Code.envs, Code.isFrame, pushEnvs] using e.frames), e.mod, e.bs, e.bsz, e.funs, e.frf, e.hok, e.bare⟩
section
variable {X : Cx} {pins : List (Addr × Obj)} {σ : St} {H : Hp} {s s' : Shared}
theorem Inv.env0 (I : Inv X pins σ H s) : Env0 X.prog X.w X.K X.mg X.base X.A X.stack s H :=
 ⟨I.ok.frames, I.ok.mod, I.bs, Nat.le_trans I.ok.bsz I.sz, I.stack, I.stkFree, I.hok, I.bare⟩
theorem Inv.after {Q : VK} {u : Value} (I : Inv X pins σ H s) (h : CE X.stack X.prog X.w H s Q u s') : EP X pins σ Q u s' := by
 obtain ⟨v, H', os, bare, un, hok, r, q⟩ := h
 obtain ⟨hh, g, d, t, os'⟩ := s'
 obtain rfl : os' = s.os := os
 exact ⟨v, H', I.call (h' := hh) (g' := g) (d' := d) (t' := t) (ch := []) un hok bare (fun b z => absurd z (by simp)), r, q⟩
end
def aV9 (sp : Sp) (dvs : List V) (E : XK) (t : TA) : TE := fun σ H Q => t σ H fun vs H1 => sp (vs ++ dvs) H1 Q E
def aVa (C : Addr) (sp : Sp) (dvs : List V) (E : XK) (t : TA) : TE := fun σ H Q => t σ H fun vs H1 => ∀ x dx, H1 x = none -> H1 dx = none -> dx ≠ x ->
 sp (.ref x :: (vs ++ dvs)) (upd (upd H1 dx (.own x)) x (.ins C dx [])) (fun v H2 => v = .non /\ Q (.ref x) H2) E
def Binds (K : PySem.W.Frag) (fd : FuncData) (ps : List Str) (ds : List Value) : Prop :=
 ∀ (s : Shared) (us : List Value), K.In s.heap -> (us ++ ds).length = ps.length -> BindsTo s fd ⟨us, []⟩ (ps.zip (us ++ ds))
theorem Binds.all {K : PySem.W.Frag} {fd : FuncData} {ps : List Str} (h : ∀ us : List Value, us.length = ps.length -> bindArgs fd ⟨us, []⟩ = pure (ps.zip us)) : Binds K fd ps [] := fun s us _ hl => by
 rw [List.append_nil] at hl ⊢
 exact .of_eq (h us hl)
def aAw (CX : CXT) (X : Cx) (E : XK) : Prop := ∀ (pins : List (Addr × Obj)) (σ : St) (H : Hp) (s : Shared) (e : Value) (s' : Shared), Inv X pins σ H s -> CX X.stack H s E e s' -> X.xe e s'
section
variable {X : Cx} {CX : CXT} {k : Nat} {f C : Addr} {fd : FuncData} {ps : List Str} {sp : Sp} {dvs : List V} {ds : List Value} {E : XK} {x m : Str} {p pos apos : Pos} {e o : Expr} {es : List Expr} {ta : TE} {t : TA}
theorem aSq {pins : List (Addr × Obj)} {σ : St} {H : Hp} {s : Shared} {Q : VK} {us : List Value} {vs : List V} (F : FnOk X.prog X.w X.K X.mg X.base CX k f fd ps sp) (hr : Room k X.A) (hb : Binds X.K fd ps ds) (hd : Vals dvs ds) (hx : aAw CX X E)
  (I : Inv X pins σ H s) (r : Vals vs us) (h : sp (vs ++ dvs) H Q E) : wpAny (model X.prog X.w) X.A (call (.ref f) us) (EP X pins σ Q) X.xe s := by
 have r2 : Vals (vs ++ dvs) (us ++ ds) := r.append hd
 have hl : (us ++ ds).length = ps.length := by rw [<- r2.length]; exact F.len _ _ _ _ h
 refine wpAny_call (codeAny_mono (F.run X.A X.stack s H ⟨us, []⟩ (us ++ ds) (vs ++ dvs) Q E hr I.env0 (hb s us I.kIn hl) r2 h) fun r s' hq => ?_)
 cases r with
 | error e => exact hx pins σ H s e s' I hq
 | ok fl =>
  cases fl with
  | ret u => exact I.after hq
  | next => exact False.elim hq
  | brk => exact False.elim hq
  | cont => exact False.elim hq
theorem aPe (F : FnOk X.prog X.w X.K X.mg X.base CX k f fd ps sp) (hr : Room k X.A) (hg : Gl X x) (hm : X.mg x = some (.ref f)) (hk : PySem.W.keepIn X.K (.ref f) = true) (hb : Binds X.K fd ps ds) (hd : Vals dvs ds) (hx : aAw CX X E)
  (ha : PA X (e :: es) t) (hdb : (x == ("__debug__" : Str)) = false := by decide) (he : starEach (e :: es) X.env = (false, eval e X.env) :: starEach es X.env := by rfl) (hpl : (backTo pos (starEach es X.env)).any (·.1) = false := by rfl) :
  PE X (.Call (.Name x p) (e :: es) [] pos) (aV9 sp dvs E t) := by
 intro pins s σ H Q I h
 refine wpAny_Call_Name_kw (qO I hg hm ?_ hdb)
 refine PySem.W.callWith_K (h₀ := X.base) I.ok.mod.kin hk (thn (ha pos pins s σ H _ I h) fun us s1 ⟨vs, H1, I1, r, q⟩ => ⟨I1.kIn, ?_⟩) he hpl
 exact aSq F hr hb hd hx I1 r q
structure Mk (K : PySem.W.Frag) (C f : Addr) : Prop where
 makes : PySem.W.makesIn K C = true
 init : PySem.W.findIn K (.ref C) "__init__" = some (some (.ref f))
 fn : PySem.W.isFn K (.ref f) = true
 kp : PySem.W.keepIn K (.ref C) = true
theorem aLz {pins : List (Addr × Obj)} {σ : St} {H : Hp} {s : Shared} {Q : VK} {us : List Value} {vs : List V} (M : Mk X.K C f) (F : FnOk X.prog X.w X.K X.mg X.base CX k f fd ps sp) (hr : Room (k + 1) X.A) (hb : Binds X.K fd ps ds) (hd : Vals dvs ds)
  (hx : aAw CX X E) (I : Inv X pins σ H s) (r : Vals vs us)
  (h : ∀ x dx, H x = none -> H dx = none -> dx ≠ x -> sp (.ref x :: (vs ++ dvs)) (upd (upd H dx (.own x)) x (.ins C dx [])) (fun v H2 => v = .non /\ Q (.ref x) H2) E) :
  wpAny (model X.prog X.w) X.A (call (.ref C) us) (EP X pins σ Q) X.xe s := by
 have hq := h (s.heap.objs.size + 1) s.heap.objs.size (I.hok.fresh (Nat.le_succ _)) (I.hok.fresh (Nat.le_refl _)) (Nat.ne_of_lt (Nat.lt_succ_self _))
 have I2 := Inv.made (C := C) I
 have r2 : Vals (V.ref (s.heap.objs.size + 1) :: (vs ++ dvs)) (Value.ref (s.heap.objs.size + 1) :: (us ++ ds)) := .cons rfl (r.append hd)
 have hl : (Value.ref (s.heap.objs.size + 1) :: us ++ ds).length = ps.length := by
  have e := r2.length
  rw [F.len _ _ _ _ hq] at e
  exact e.symm
 refine wpAny_call (aF4 (f := f) I.kIn M.makes M.init (beq_iff_eq.mp M.fn) (codeAny_mono (F.run _ X.stack _ _ ⟨Value.ref (s.heap.objs.size + 1) :: us, []⟩ (Value.ref (s.heap.objs.size + 1) :: (us ++ ds)) _ _ E (hr.make C us [])
  (I2.env0.make C us []) (hb _ (Value.ref (s.heap.objs.size + 1) :: us) I2.kIn hl) r2 hq) fun r s' hq' => ?_))
 cases r with
 | error e => exact hx pins σ _ _ e s' I2 hq'
 | ok fl =>
  cases fl with
  | ret u =>
   obtain ⟨v, H', I3, rv, ev, q3⟩ := I2.after hq'
   subst ev
   exact ⟨rv, ⟨V.ref (s.heap.objs.size + 1), H', I3, rfl, q3⟩⟩
  | next => exact False.elim hq'
  | brk => exact False.elim hq'
  | cont => exact False.elim hq'
theorem aPf (M : Mk X.K C f) (F : FnOk X.prog X.w X.K X.mg X.base CX k f fd ps sp) (hr : Room (k + 1) X.A) (hg : Gl X x) (hm : X.mg x = some (.ref C)) (hb : Binds X.K fd ps ds) (hd : Vals dvs ds) (hx : aAw CX X E)
  (ha : PA X (e :: es) t) (hdb : (x == ("__debug__" : Str)) = false := by decide) (he : starEach (e :: es) X.env = (false, eval e X.env) :: starEach es X.env := by rfl) (hpl : (backTo pos (starEach es X.env)).any (·.1) = false := by rfl) :
  PE X (.Call (.Name x p) (e :: es) [] pos) (aVa C sp dvs E t) := by
 intro pins s σ H Q I h
 refine wpAny_Call_Name_kw (qO I hg hm ?_ hdb)
 refine PySem.W.callWith_K (h₀ := X.base) I.ok.mod.kin M.kp (thn (ha pos pins s σ H _ I h) fun us s1 ⟨vs, H1, I1, r, q⟩ => ⟨I1.kIn, ?_⟩) he hpl
 exact aLz M F hr hb hd hx I1 r q
end
section
variable {X : Cx} {CX : CXT} {k : Nat} {f C : Addr} {fd : FuncData} {ps ks : List Str} {sp : Sp} {E : XK} {x m : Str} {p pos apos kpos : Pos} {e o : Expr} {es : List Expr} {kws : List Keyword} {te ta : TE} {t tk : TA} {nm : Option Str}
variable {g : List Value -> List Value -> List Value} {gV : List V -> List V -> List V}
end
structure FnScope (N P : List Str) (sc : Scope) : Prop where
 kind : sc.kind = .function
 co : sc.isCoroutine = false
 gen : sc.isGenerator = false
 nd : N.Nodup
 pre : N.take P.length = P
 par : ∀ x ∈ P, sc.names.lookup x = some .local \/ sc.names.lookup x = some .cell
 nofree : ∀ y ∈ sc.names, y.2 ≠ .free
theorem aCq {kindOf : Str -> Option NameKind} {x : Str} : ∀ {binds : List (Str × Value)} {m : Str -> Option Value}, (∀ v, (x, v) ∉ binds) -> bindL kindOf binds m x = m x
 | [], _, _ => rfl
 | (n, v) :: r, m, h => by
  unfold bindL
  rw [aCq fun w hw => h w (List.mem_cons_of_mem _ hw)]
  split
  ·have : x ≠ n := by rintro rfl; exact h v List.mem_cons_self
   simp [this]
  ·rfl
theorem aCr {kindOf : Str -> Option NameKind} {x : Str} : ∀ {binds : List (Str × Value)} {m : Str -> Option Value}, (∀ v, (x, v) ∉ binds) -> bindC kindOf binds m x = m x
 | [], _, _ => rfl
 | (n, v) :: r, m, h => by
  unfold bindC
  rw [aCr fun w hw => h w (List.mem_cons_of_mem _ hw)]
  split
  ·rfl
  ·have : x ≠ n := by rintro rfl; exact h v List.mem_cons_self
   simp [this]
theorem aCs {kindOf : Str -> Option NameKind} {x : Str} {v : Value} : ∀ {P : List Str} {vs : List Value} {i : Nat} {m : Str -> Option Value}, P.Nodup -> P[i]? = some x -> vs[i]? = some v -> kindOf x = some .local ->
  bindL kindOf (P.zip vs) m x = some v
 | [], _, _, _, _, h, _, _ => by simp at h
 | _ :: _, [], _, _, _, _, h, _ => by simp at h
 | p :: P, w :: vs, 0, m, nd, h1, h2, hk => by
  simp at h1 h2; subst h1; subst h2
  show bindL kindOf ((p, w) :: P.zip vs) m p = _
  unfold bindL
  rw [aCq fun v hv => (List.nodup_cons.mp nd).1 (List.of_mem_zip hv).1, if_pos hk]
  simp
 | p :: P, w :: vs, i + 1, m, nd, h1, h2, hk => by
  show bindL kindOf ((p, w) :: P.zip vs) m x = _
  unfold bindL
  exact aCs (i := i) (List.nodup_cons.mp nd).2 (by simpa using h1) (by simpa using h2) hk
theorem aCt {kindOf : Str -> Option NameKind} {x : Str} {v : Value} : ∀ {P : List Str} {vs : List Value} {i : Nat} {m : Str -> Option Value}, P.Nodup -> P[i]? = some x -> vs[i]? = some v -> kindOf x ≠ some .local ->
  bindC kindOf (P.zip vs) m x = some v
 | [], _, _, _, _, h, _, _ => by simp at h
 | _ :: _, [], _, _, _, _, h, _ => by simp at h
 | p :: P, w :: vs, 0, m, nd, h1, h2, hk => by
  simp at h1 h2; subst h1; subst h2
  show bindC kindOf ((p, w) :: P.zip vs) m p = _
  unfold bindC
  rw [aCr fun v hv => (List.nodup_cons.mp nd).1 (List.of_mem_zip hv).1, if_neg hk]
  simp
 | p :: P, w :: vs, i + 1, m, nd, h1, h2, hk => by
  show bindC kindOf ((p, w) :: P.zip vs) m x = _
  unfold bindC
  exact aCt (i := i) (List.nodup_cons.mp nd).2 (by simpa using h1) (by simpa using h2) hk
def start (N : List Str) (vs : List V) : St := vs.map some ++ List.replicate (N.length - vs.length) none
def uM (CX : CXT) (P : Program) (w : World) (K : PySem.W.Frag) (mg : Str -> Option Value) (base : Heap) (N : List Str) (qual : Str) (scope : Scope) (f : Addr) (cd : Value) (A : Around) (outer : List Env) (s : Shared) (H : Hp) (E : XK) : Cx where
 prog := P
 w := w
 K := K
 mg := mg
 base := base
 A := A.deeper (envOfC qual scope s.heap.objs.size f cd)
 N := N
 s₀ := s
 H₀ := H
 env := envOfC qual scope s.heap.objs.size f cd
 outer := outer
 stack := envOfC qual scope s.heap.objs.size f cd :: outer
 ex := []
 calm := true
 fn := fun _ => true
 pn := []
 xe := fun e s' => wpAny (model P w) (A.deeper (envOfC qual scope s.heap.objs.size f cd)) (leaving (envOfC qual scope s.heap.objs.size f cd) e) (fun _ s'' => CX outer H s E e s'') (fun e' s'' => CX outer H s E e' s'') s'
theorem aF5 {sc : Scope} {n : Nat} {x : Str} (h : sc.names.lookup x = some .cell) : ∃ c, (cellsFrom n sc.names []).lookup x = some c := by
 have q := PySem.W.cellsFrom_some sc.names n [] (.inl h)
 exact Option.isSome_iff_exists.mp q
theorem aJz {CX : CXT} {P : Program} {w : World} {K : PySem.W.Frag} {mg : Str -> Option Value} {base : Heap} {N ps : List Str} {qual : Str} {scope : Scope} {f : Addr} {cd : Value} {A : Around} {outer : List Env} {s s1 : Shared} {H : Hp} {E : XK} {us : List Value} {vs : List V}
  (S : FnScope N ps scope) (hd : A.handled = none) (e0 : Env0 P w K mg base A outer s H) (hl : vs.length = ps.length) (r : Vals vs us)
  (x : InCallC s s.heap.objs.size (bindL (envOfC qual scope s.heap.objs.size f cd).kindOf (ps.zip us) fun _ => none) (cellsFrom (s.heap.objs.size + 1) scope.names []) (bindC (envOfC qual scope s.heap.objs.size f cd).kindOf (ps.zip us) fun _ => none) s1) :
  Inv (uM CX P w K mg base N qual scope f cd A outer s H E) [] (start N vs) H s1 := by
 have hpl : ps.length <= N.length := by have := congrArg List.length S.pre; rw [List.length_take] at this; omega
 obtain ⟨h1, tk, rfl, hk⟩ := x.done
 have noA : ∀ b : Addr, b ∉ (uM CX P w K mg base N qual scope f cd A outer s H E).ex := fun b z => absurd (show b ∈ ([] : List Addr) from z) (by simp)
 refine ⟨⟨e0.mod, S.kind, rfl, rfl, Nat.le_refl _, fun y z c h1 h2 => ?_, fun y hy => ?_, fun y c _ h => ?_, fun _ => hd, Around.frames_deeper e0.frames, .inr ⟨rfl, rfl⟩, fun b z => absurd z (noA b), e0.bs, e0.bsz, fun b _ _ => noA b, fun b z => absurd z (noA b), e0.funs, e0.frf⟩,
  rfl, e0.bare, Un.kept hk, ⟨_, x.toInCall.ns, fun i y v h1 h2 h3 => ?_⟩, fun y c h => ⟨_, x.cell y c h⟩, e0.hok.fresh (Nat.le_refl _), fun y c h => ?_, fun p hp => absurd (show p ∈ ([] : List (Addr × Obj)) from hp) (by simp), e0.hok.kept hk, ?_⟩
 ·exact name_of_addr x.apart (PySem.mem_of_lookup h1) (PySem.mem_of_lookup h2)
 ·have hy : scope.names.lookup y = some .cell \/ scope.names.lookup y = some .free := hy
  rcases hy with hy | hy
  ·exact aF5 hy
  ·exact absurd rfl (S.nofree _ (PySem.mem_of_lookup hy))
 ·exact Nat.le_of_lt (x.above y c (PySem.mem_of_lookup h))
 ·have hi : i < vs.length := by
   unfold start at h2
   by_cases hi : i < vs.length
   ·exact hi
   ·rw [List.getElem?_append_right (by simpa using hi)] at h2
    rw [List.getElem?_replicate] at h2
    split at h2 <;> cases h2
  have ha : vs[i]? = some v := by
   unfold start at h2
   rw [List.getElem?_append_left (by simpa using hi), List.getElem?_map] at h2
   cases e : vs[i]? with
   | none => rw [e] at h2; cases h2
   | some a => rw [e] at h2; cases h2; rfl
  obtain ⟨u, hu, rv⟩ := r.get ha
  have hp : ps[i]? = some y := by
   rw [<- S.pre, List.getElem?_take_of_lt (by omega)]; exact h1
  have ndP : ps.Nodup := by rw [<- S.pre]; exact S.nd.sublist (List.take_sublist _ _)
  refine ⟨u, rv, ?_⟩
  rcases S.par y (List.mem_of_getElem? hp) with k | k
  ·exact .inl ⟨k, aCs ndP hp hu k⟩
  ·obtain ⟨c, e⟩ := aF5 (n := s.heap.objs.size + 1) k
   refine .inr ⟨.inl k, c, e, ?_⟩
   have q := x.cell y c e
   rw [aCt ndP hp hu (by show scope.names.lookup y ≠ _; rw [k]; decide)] at q
   exact q
 ·exact e0.hok.fresh (Nat.le_of_lt (x.above y c (PySem.mem_of_lookup h)))
 ·unfold start
  show _ = N.length
  rw [List.length_append, List.length_map, List.length_replicate]
  omega
theorem aIf {CX : CXT} {P : Program} {w : World} {K : PySem.W.Frag} {mg : Str -> Option Value} {base : Heap} {k : Nat} {f : Addr} {name qual : Str} {params : Arguments} {body : List Stmt} {scope : Scope} {dV kV doc pm cdv ct oc : Value} {an od : Option Addr}
  {osl : Array (Option Value)} {N ps : List Str} {sp : Sp} (lk : K.lookup f = some ⟨oc, od, .func (PySem.W.fnOf name qual params body scope dV kV doc pm an cdv ct), osl⟩) (hcd : PySem.W.codeIn K cdv qual = true) (S : FnScope N ps scope)
  (len : ∀ vs H Q E, sp vs H Q E -> vs.length = ps.length)
  (hbody : ∀ (A : Around) (outer : List Env) (s : Shared) (H : Hp) (vs : List V) (Q : VK) (E : XK), Room k (A.deeper (envOfC qual scope s.heap.objs.size f cdv)) -> sp vs H Q E ->
   ∃ t, PSs (uM CX P w K mg base N qual scope f cdv A outer s H E) body t /\ t { nx := fun _ H' => Q .non H', rt := Q } (start N vs) H) :
  FnOk P w K mg base CX (k + 1) f (PySem.W.fnOf name qual params body scope dV kV doc pm an cdv ct) ps sp := by
 refine ⟨len, fun A outer s H args us vs Q E hr e0 hb r hsp => ?_⟩
 have hl := len _ _ _ _ hsp
 have KX : K.In s.heap := e0.mod.kin.keeps fun b o e => (e0.bs b o e).1
 have lim : s.heap.NoLimit := e0.mod.nolimit.keeps fun b o e => (e0.bs b o e).1
 have hkind : ∀ y ∈ ps.zip us, scope.names.lookup y.1 = some .local \/ (scope.names.lookup y.1 = some .cell /\ ((cellsFrom (s.heap.objs.size + 1) scope.names []).lookup y.1).isSome = true) := fun ⟨n, v⟩ hy => by
  rcases S.par n (List.of_mem_zip hy).1 with q | q
  ·exact .inl q
  ·exact .inr ⟨q, PySem.W.cellsFrom_some _ _ _ (.inl q)⟩
 refine codeAny_call_function hr.depth (KX _ _ lk) rfl S.co S.gen rfl (PySem.W.codeRec_of KX hcd) (hb _ _ _ _ ?_)
 refine wpAny_newFunctionEnv_cells S.kind hkind fun env he s1 x => ?_
 subst he
 refine ⟨lim.keeps x.toInCall.keep, codeAny_func ?_⟩
 obtain ⟨t, ht, hq⟩ := hbody A outer s H vs Q E (hr.deeper _) hsp
 have I : Inv (uM CX P w K mg base N qual scope f cdv A outer s H E) [] (start N vs) H s1 := aJz S hr.hd e0 hl r x
 refine wpAny_mono (ht [] s1 (start N vs) H _ I hq) (fun fl s' hs => ?_) fun e s' hs => hs
 have fin : ∀ {σ' : St} {H' : Hp} {v : V} {u : Value}, Inv (uM CX P w K mg base N qual scope f cdv A outer s H E) [] σ' H' s' -> RelV v u -> Q v H' -> CE outer P w H s Q u s' :=
  fun {σ' H' v u} J rv q => ⟨v, H', J.os, J.bare, J.base, J.hok, rv, q⟩
 cases fl with
 | ret u =>
  obtain ⟨v, σ', H', J, rv, q⟩ := hs
  exact fin J rv q
 | next =>
  obtain ⟨σ', H', J, q⟩ := hs
  exact fin (v := V.non) (u := Value.none) J rfl q
 | brk =>
  obtain ⟨_, _, _, q⟩ := hs
  exact False.elim q
 | cont =>
  obtain ⟨_, _, _, q⟩ := hs
  exact False.elim q
end L2
namespace L2
open PySem PySem.Spec PyProof.Rows
section
variable {X : Cx} {x : Str} {p pos : Pos} {e : Expr} {es : List Expr} {t : TA} {id T : String} {r : List V -> Hp -> VK -> Prop}
def tCB (r : List V -> Hp -> VK -> Prop) (t : TA) : TE := fun σ H Q => t σ H fun vs H1 => r vs H1 Q
theorem pU (hc : mC X (.builtin id) r) (hg : Gl X x) (hm : X.mg x = none) (hv : bootBuiltins x = some (.builtin id)) (ha : PA X (e :: es) t) (hn : x ≠ "__name__" := by decide) (hdb : (x == ("__debug__" : Str)) = false := by decide)
  (he : starEach (e :: es) X.env = (false, eval e X.env) :: starEach es X.env := by rfl) (hpl : (backTo pos (starEach es X.env)).any (·.1) = false := by rfl) : PE X (.Call (.Name x p) (e :: es) [] pos) (tCB r t) := by
 intro pins s σ H Q I h
 refine wpAny_Call_Name_kw (yD I hg hm hv ?_ hn hdb)
 exact PyProof.Rows.callWith_builtin1 (thn (ha pos pins s σ H _ I h) fun us s1 ⟨vs, H1, I1, r1, q1⟩ => hc pins s1 σ H1 vs us Q I1 r1 q1) he hpl
theorem pW (hc : mC X (.type T) r) (hg : Gl X x) (hm : X.mg x = none) (hv : bootBuiltins x = some (.type T)) (ha : PA X (e :: es) t) (hn : x ≠ "__name__" := by decide) (hdb : (x == ("__debug__" : Str)) = false := by decide)
  (he : starEach (e :: es) X.env = (false, eval e X.env) :: starEach es X.env := by rfl) (hpl : (backTo pos (starEach es X.env)).any (·.1) = false := by rfl) : PE X (.Call (.Name x p) (e :: es) [] pos) (tCB r t) := by
 intro pins s σ H Q I h
 refine wpAny_Call_Name_kw (yD I hg hm hv ?_ hn hdb)
 exact PyProof.Rows.callWith_type1 (thn (ha pos pins s σ H _ I h) fun us s1 ⟨vs, H1, I1, r1, q1⟩ => hc pins s1 σ H1 vs us Q I1 r1 q1) he hpl
end
end L2
namespace HT
open PySem PyProof.Rows
section
open PySem.SeqAt
open PySem.AutoSeq1 (wpAny_loadPart')
open PySem.MeetsSeq PySem.MeetsSeq2 PySem.MeetsSeq3
end
section
variable {prog : Program} {w : World} {A : Around} {E : Value -> Shared -> Prop} {s : Shared}
def sIx (n d : Nat) : Option Int -> Nat
 | none => d
 | some v => if v < 0 then (v + (n : Int)).toNat else min v.toNat n
theorem sIx_none (n d : Nat) : sIx n d none = d := rfl
theorem sIx_nat (n d k : Nat) : sIx n d (some (k : Int)) = min k n := by
 show (if (k : Int) < 0 then ((k : Int) + (n : Int)).toNat else min (k : Int).toNat n) = min k n
 rw [if_neg (by omega), Int.toNat_natCast]
end
end HT
namespace L2
open PySem PySem.Spec PyProof.Rows
abbrev TO := St -> Hp -> (Option Int -> Hp -> Prop) -> Prop
def PO (X : Cx) (e : Option Expr) (t : TO) : Prop :=
 ∀ (pins : List (Addr × Obj)) (s : Shared) (σ : St) (H : Hp) (Q : Option Int -> Hp -> Prop), Inv X pins σ H s -> t σ H Q ->
  wpAny (model X.prog X.w) X.A (evalPart e X.env) (fun u s' => ∃ o H', Inv X pins σ H' s' /\ IsPart u o /\ Q o H') X.xe s
def aPg : TO := fun _ H Q => Q none H
def aVb (t : TE) : TO := fun σ H Q => t σ H fun x H1 => ∃ i, x = .int i /\ Q (some i) H1
section
variable {X : Cx} {e : Expr} {te : TE} {lo hi : Option Expr} {tl th : TO} {pos p2 : Pos}
theorem aPh : PO X none aPg := by
 intro pins s σ H Q I h
 rw [evalPart_none]
 exact wpAny_pure ⟨none, H, I, .none, h⟩
theorem aPi (h : PE X e te) : PO X (some e) (aVb te) := by
 intro pins s σ H Q I hw
 rw [evalPart_some]
 refine thn (h pins s σ H _ I hw) fun u s1 ⟨x, H1, I1, r1, q1⟩ => ?_
 obtain ⟨i, rfl, q⟩ := q1
 obtain ⟨t, rfl⟩ := r1
 exact ⟨some i, H1, I1, .int i t, q⟩
def SlR (X : Cx) (r : V -> Option Int -> Option Int -> Hp -> VK -> Prop) : Prop :=
 ∀ (pins : List (Addr × Obj)) (s : Shared) (σ : St) (H : Hp) (x : V) (v vl vu : Value) (lo hi : Option Int) (sl : Addr) (Q : VK), Inv X pins σ H s -> RelV x v -> s.heap.IsSliceOf sl vl vu .none -> IsPart vl lo -> IsPart vu hi -> r x lo hi H Q ->
  ∃ T id, typeLookup (.type T) "__getitem__" = pure (some (.builtin id)) /\ s.TypeIs v T /\ wpAny (model X.prog X.w) X.A (getItem v (.ref sl)) (EP X pins σ Q) X.xe s
theorem SlR.or {r r' : V -> Option Int -> Option Int -> Hp -> VK -> Prop} (h : SlR X r) (h' : SlR X r') : SlR X (fun x lo hi H Q => r x lo hi H Q \/ r' x lo hi H Q) := by
 intro pins s σ H x v vl vu lo hi sl Q I rx hs pl pu q
 rcases q with q | q
 ·exact h pins s σ H x v vl vu lo hi sl Q I rx hs pl pu q
 ·exact h' pins s σ H x v vl vu lo hi sl Q I rx hs pl pu q
def tSl (r : V -> Option Int -> Option Int -> Hp -> VK -> Prop) (te : TE) (tl th : TO) : TE := fun σ H Q => te σ H fun x H1 => tl σ H1 fun l H2 => th σ H2 fun u H3 => r x l u H3 Q
theorem aM0 {r : V -> Option Int -> Option Int -> Hp -> VK -> Prop} (hr : SlR X r) (he : PE X e te) (hl : PO X lo tl) (hu : PO X hi th) : PE X (.Subscript e (.Slice lo hi none p2) pos) (tSl r te tl th) := by
 intro pins s σ H Q I h
 refine Subscript_ (thn (he pins s σ H _ I h) fun v s1 ⟨x, H1, I1, r1, q1⟩ => ?_)
 refine wpAny_Slice (thn (hl pins s1 σ H1 _ I1 q1) fun vl s2 ⟨l, H2, I2, pl, q2⟩ => thn (hu pins s2 σ H2 _ I2 q2) fun vu s3 ⟨u, H3, I3, pu, q3⟩ => ?_)
 rw [evalPart_none]
 refine wpAny_pure ?_
 have I4 : Inv X pins σ H3 { s3 with heap := s3.heap.push { cls := .type "slice", data := .fields #[vl, vu, .none] } } := I3.kept (t' := s3.toks) fun b ob q => Heap.get?_push_of_some _ q
 obtain ⟨T, id, hT, ht, hg⟩ := hr pins { s3 with heap := s3.heap.push { cls := .type "slice", data := .fields #[vl, vu, .none] } } σ H3 x v vl vu l u s3.heap.objs.size Q I4 r1 (Heap.IsSliceOf.new ..) pl pu q3
 show wpAny (model X.prog X.w) X.A (subscriptTail e (.Slice lo hi none p2) v (.ref s3.heap.objs.size)) (EP X pins σ Q) X.xe { s3 with heap := s3.heap.push { cls := .type "slice", data := .fields #[vl, vu, .none] } }
 exact tail_any (ops := [.ref s3.heap.objs.size, v]) ht hT hg (by with_unfolding_all rfl)
def aK0 (xs : List V) (lo hi : Option Int) : List V := (xs.drop (HT.sIx xs.length 0 lo)).take (HT.sIx xs.length xs.length hi - HT.sIx xs.length 0 lo)
theorem aF6 (xs : List V) (lo hi : Option Int) : (aK0 xs lo hi).length <= xs.length := by
 unfold aK0
 rw [List.length_take, List.length_drop]
 omega
end
end L2
namespace L2
open PySem PySem.Spec PyProof.Rows
def ixN (n : Nat) (i : Int) : Option Nat := if 0 <= i then (if i < n then some i.toNat else none) else if -(n : Int) <= i then some (i + n).toNat else none
def atI {α : Type} (xs : List α) (i : Int) : Option α := (ixN xs.length i).bind fun j => xs[j]?
theorem aIg {n : Nat} {i : Int} {j : Nat} (h : ixN n i = some j) : seqIndex? i n = some j /\ j < n /\ -(n : Int) <= i /\ i < n := by
 unfold ixN at h
 by_cases h0 : 0 <= i
 ·rw [if_pos h0] at h
  by_cases h1 : i < n
  ·rw [if_pos h1] at h
   have e : i.toNat = j := Option.some.inj h
   exact ⟨by rw [seqIndex_of h0 h1, e], by omega, by omega, h1⟩
  ·rw [if_neg h1] at h; cases h
 ·rw [if_neg h0] at h
  by_cases h1 : -(n : Int) <= i
  ·rw [if_pos h1] at h
   have e : (i + n).toNat = j := Option.some.inj h
   exact ⟨by rw [seqIndex_neg (by omega) h1, e], by omega, h1, by omega⟩
  ·rw [if_neg h1] at h; cases h
theorem atI_get {α : Type} {xs : List α} {i : Int} {v : α} (h : atI xs i = some v) : ∃ j, seqIndex? i xs.length = some j /\ xs[j]? = some v /\ j < xs.length /\ -(xs.length : Int) <= i /\ i < xs.length := by
 unfold atI at h
 cases e : ixN xs.length i with
 | none => rw [e] at h; cases h
 | some j =>
  rw [e] at h
  obtain ⟨h1, h2, h3, h4⟩ := aIg e
  exact ⟨j, h1, h, h2, h3, h4⟩
theorem atI_nat {α : Type} {xs : List α} {j : Nat} {v : α} (h : xs[j]? = some v) : atI xs (j : Int) = some v := by
 have hj : j < xs.length := (List.getElem?_eq_some_iff.mp h).1
 have e : ixN xs.length (j : Int) = some j := by
  unfold ixN
  rw [if_pos (by omega), if_pos (by omega)]; simp
 unfold atI; rw [e]; exact h
def aAh (b : Expr) : Prop := ∀ o i, subscripted b false o i = operate [o, i] (getItem o i)
def IxR (X : Cx) (r : R2) : Prop :=
 ∀ (value slice : Expr) (pins : List (Addr × Obj)) (s : Shared) (σ : St) (H : Hp) (x y : V) (v u : Value) (Q : VK), Inv X pins σ H s -> RelV x v -> RelV y u -> r x y H Q ->
  subscripted slice false v u = operate [v, u] (getItem v u) -> wpAny (model X.prog X.w) X.A (subscriptTail value slice v u) (EP X pins σ Q) X.xe s
def MtR (X : Cx) (id : String) (r : V -> List V -> Hp -> VK -> Prop) : Prop :=
 ∀ (pins : List (Addr × Obj)) (s : Shared) (σ : St) (H : Hp) (x : V) (xs : List V) (v : Value) (us : List Value) (Q : VK), Inv X pins σ H s -> RelV x v -> Vals xs us -> r x xs H Q ->
  wpAny (model X.prog X.w) X.A (call (.builtin id) (v :: us)) (EP X pins σ Q) X.xe s
section
variable {X : Cx} {a b : Expr} {ta tb : TE} {pos : Pos}
theorem IxR.or {r r' : R2} (h : IxR X r) (h' : IxR X r') : IxR X (fun x y H Q => r x y H Q \/ r' x y H Q) := by
 intro value slice pins s σ H x y v u Q I rx ry q hs
 rcases q with q | q
 ·exact h value slice pins s σ H x y v u Q I rx ry q hs
 ·exact h' value slice pins s σ H x y v u Q I rx ry q hs
theorem aM1 {r : R2} (hr : IxR X r) (ha : PE X a ta) (hb : PE X b tb) (hs : aAh b) : PE X (.Subscript a b pos) (tOp r ta tb) := by
 intro pins s σ H Q I h
 exact Subscript_ (aSj ha hb I h fun v u s2 x y H2 I2 rx ry q => hr a b pins s2 σ H2 x y v u Q I2 rx ry q (hs _ _))
def aVc (K : PySem.W.Frag) : R2 := fun x y H Q => ∃ p xs i v, x = .ref p /\ y = .int i /\ SqL K H p xs /\ atI xs i = some v /\ Q v H
def aVd (K : PySem.W.Frag) : R2 := fun x y H Q => ∃ p xs i v, x = .ref p /\ y = .int i /\ SqT K H p xs /\ atI xs i = some v /\ Q v H
def aVe : R2 := fun x y H Q => ∃ z i c, x = .str z /\ y = .int i /\ z.length <= sizeLine /\ atI z.cps.toList i = some c /\ Q (.str ⟨#[c]⟩) H
theorem aPj : IxR X (aVc X.K) := by
 intro value slice pins s σ H x y v u Q I rx ry h hs
 obtain ⟨p, xs, i, z, rfl, rfl, hq, he, q⟩ := h
 cases rx
 obtain ⟨t, rfl⟩ := ry
 obtain ⟨its, r, pl, hz⟩ := I.list hq
 obtain ⟨j, h1, h2, h3, h4, h5⟩ := atI_get he
 obtain ⟨w, ew, rw'⟩ := r.get h2
 have hl := r.length
 have hn := yF
 have fin : EP X pins σ Q w s := ⟨z, H, I, rw', q⟩
 by_cases h0 : 0 <= i
 ·have hj : i.toNat = j := by
   rw [seqIndex_of h0 h5] at h1
   exact Option.some.inj h1
  exact item_listR pl.isList h0 (by omega) (by rw [hj]; simpa using ew) fin hs
 ·have hj : (i + (its.toArray.size : Int)).toNat = j := by
   rw [seqIndex_neg (by omega) h4] at h1
   rw [List.size_toArray, <- hl]
   exact Option.some.inj h1
  exact subscriptTail_builtinR (x := w) pl.isList.typeIs slot_list_getitem.lookup
   (wpAny_getItem_list_neg (Q := fun r s' => r = w /\ EP X pins σ Q r s') pl.isList (by omega) (by rw [List.size_toArray] <;> omega) (by omega) (by rw [hj]; simpa using ew) ⟨rfl, fin⟩) hs
theorem aSr : IxR X (aVd X.K) := by
 intro value slice pins s σ H x y v u Q I rx ry h hs
 obtain ⟨p, xs, i, z, rfl, rfl, hq, he, q⟩ := h
 cases rx
 obtain ⟨t, rfl⟩ := ry
 obtain ⟨its, r, pl, hz⟩ := I.tuple hq
 obtain ⟨j, h1, h2, h3, h4, h5⟩ := atI_get he
 obtain ⟨w, ew, rw'⟩ := r.get h2
 have hl := r.length
 have hn := yF
 have fin : EP X pins σ Q w s := ⟨z, H, I, rw', q⟩
 exact subscriptTail_builtinR (x := w) pl.typeIs slot_tuple_getitem.lookup
  (getItem_tuple (j := j) (Q := fun r s' => r = w /\ EP X pins σ Q r s') pl (by omega) (by omega) (by rw [List.size_toArray, <- hl]; exact h1) (by simpa using ew) ⟨rfl, fin⟩) hs
theorem aSs : IxR X aVe := by
 intro value slice pins s σ H x y v u Q I rx ry h hs
 obtain ⟨z, i, c, rfl, rfl, hz, he, q⟩ := h
 obtain ⟨t, rfl⟩ := rx
 obtain ⟨t', rfl⟩ := ry
 obtain ⟨j, h1, h2, h3, h4, h5⟩ := atI_get he
 have hl : z.cps.toList.length = z.length := by simp [Str.length]
 rw [hl] at h1 h4 h5
 have hn := yF
 exact tail_any (typeIs_str s z t) slot_str_getitem.lookup (getItem_str (c := c) (by
  have e1 : decide (i < -(2 ^ 63 : Int)) = false := decide_eq_false (by omega)
  have e2 : decide (i ≥ 2 ^ 63) = false := decide_eq_false (by omega)
  rw [e1, e2, Bool.or_false]) (by rw [h1]; simpa using h2) ⟨.str ⟨#[c]⟩, H, I.tok _, ⟨_, rfl⟩, q⟩) hs
def rIx (K : PySem.W.Frag) : R2 := fun x y H Q => aVc K x y H Q \/ aVd K x y H Q \/ aVe x y H Q
theorem aH4 : IxR X (rIx X.K) := aPj.or (aSr.or aSs)
theorem aH5 (its : List Value) (n j : Nat) (u : Value) : Obj.mapSeq (·.setIfInBounds j u) { cls := .type "list", data := .seq its.toArray n } = { cls := .type "list", data := .seq (its.set j u).toArray n } := by
 simp [Obj.mapSeq]
theorem Inv.lst {pins : List (Addr × Obj)} {σ : St} {H : Hp} {s : Shared} {p : Addr} {xs : List V} (I : Inv X pins σ H s) (h : H p = some (.lst xs)) :
  ∃ (its : List Value) (n : Nat), Vals xs its /\ s.heap.get? p = some { cls := .type "list", data := .seq its.toArray n } /\ xs.length <= sizeLine := by
 obtain ⟨z, its, n, r, e⟩ := I.hok p _ h
 exact ⟨its, n, r, e, z⟩
theorem Inv.lstUpd {pins : List (Addr × Obj)} {σ : St} {H : Hp} {s : Shared} {p : Addr} {xs ys : List V} {its its' : List Value} {n n' : Nat} {f : Obj -> Obj} (I : Inv X pins σ H s) (h : H p = some (.lst xs))
  (ho : s.heap.get? p = some { cls := .type "list", data := .seq its.toArray n }) (hf : f { cls := .type "list", data := .seq its.toArray n } = { cls := .type "list", data := .seq its'.toArray n' }) (r : Vals ys its') (hz : ys.length <= sizeLine) (t : Nat) :
  Inv X pins σ (upd H p (.lst ys)) { s with heap := s.heap.update p f, toks := t } := by
 have e : (s.heap.update p f).get? p = some { cls := .type "list", data := .seq its'.toArray n' } := by
  rw [Heap.get?_update_self f ho (by rw [hf] <;> rfl), hf]
 refine I.write (x := p) (e := p) (by rw [h]; trivial) (.inl rfl) (fun b u hb q => (Heap.get?_update_other _ _ (Ne.symm hb)).trans q) ⟨_, e⟩ ?_
 exact ⟨hz, its', n', r, e⟩
def aVf : V -> V -> V -> Hp -> (Hp -> Prop) -> Prop := fun o i v H Q => ∃ p xs k j, o = .ref p /\ i = .int k /\ H p = some (.lst xs) /\ ixN xs.length k = some j /\ Q (upd H p (.lst (xs.set j v)))
theorem set_list : aV0 X aVf := by
 intro pins s σ H o i v ov iv u Q I ro ri rv h
 obtain ⟨p, xs, k, j, rfl, rfl, hp, hj, q⟩ := h
 cases ro
 obtain ⟨t, rfl⟩ := ri
 obtain ⟨its, n, r, ho, hz⟩ := I.lst hp
 obtain ⟨h1, h2, h3, h4⟩ := aIg hj
 have hl := r.length
 have hn := yF
 have I' : Inv X pins σ (upd H p (.lst (xs.set j v))) { s with heap := s.heap.update p (Obj.mapSeq (·.setIfInBounds j u)) } :=
  I.lstUpd hp ho (aH5 its n j u) (r.set rv j) (by rw [List.length_set]; exact hz) s.toks
 by_cases h0 : 0 <= k
 ·have hk : k.toNat = j := by
   rw [seqIndex_of h0 h4] at h1
   exact Option.some.inj h1
  exact PySem.W.ki_setAt ho h0 (by omega) (by rw [List.size_toArray, <- hl]; exact h4) (by rw [hk]; exact ⟨_, I', q⟩)
 ·have hk : (k + (its.toArray.size : Int)).toNat = j := by
   rw [seqIndex_neg (by omega) h3] at h1
   rw [List.size_toArray, <- hl]
   exact Option.some.inj h1
  exact PySem.W.ki_setBack ho (by omega) (by rw [List.size_toArray, <- hl]; exact h3) (by omega) (by rw [hk]; exact ⟨_, I', q⟩)
theorem aDy (lo hi : Option Int) (n : Nat) : (sliceBounds lo hi none n).1 = ((HT.sIx n 0 lo : Nat) : Int) /\ (sliceBounds lo hi none n).2.1 = ((HT.sIx n n hi : Nat) : Int) /\ (sliceBounds lo hi none n).2.2 = 1 := by
 refine ⟨?_, ?_, rfl⟩
 ·cases lo with
  | none => simp [sliceBounds, HT.sIx]
  | some i =>
   simp only [sliceBounds, HT.sIx, Option.getD_none, show (1 : Int) > 0 by decide, if_true]
   by_cases h : i < 0
   ·simp only [h, if_true] <;> omega
   ·simp only [h, if_false] <;> omega
 ·cases hi with
  | none => simp [sliceBounds, HT.sIx]
  | some i =>
   simp only [sliceBounds, HT.sIx, Option.getD_none, show (1 : Int) > 0 by decide, if_true]
   by_cases h : i < 0
   ·simp only [h, if_true] <;> omega
   ·simp only [h, if_false] <;> omega
theorem aCf (its : List Value) (lo hi : Option Int) : slicePick its.toArray lo hi none = ((its.drop (HT.sIx its.length 0 lo)).take (HT.sIx its.length its.length hi - HT.sIx its.length 0 lo)).toArray := by
 obtain ⟨h1, h2, h3⟩ := aDy lo hi its.toArray.size
 unfold slicePick
 rw [h1, h2, h3]
 simp only [sliceRange_one, pick_run, List.size_toArray] <;> rfl
def aYq (K : PySem.W.Frag) : V -> Option Int -> Option Int -> Hp -> VK -> Prop := fun x lo hi H Q => ∃ a xs, x = .ref a /\ SqL K H a xs /\ ∀ p, H p = none -> Q (.ref p) (upd H p (.lst (aK0 xs lo hi)))
theorem aPk : SlR X (aYq X.K) := by
 intro pins s σ H x v vl vu lo hi sl Q I rx hs pl pu h
 obtain ⟨a, xs, rfl, hx, q⟩ := h
 cases rx
 obtain ⟨its, r, ht, hz⟩ := I.list hx
 have hlen := r.length
 refine ⟨"list", _, slot_list_getitem.lookup, ht.isList.typeIs, ?_⟩
 refine wpAny_getItem_list_slice ht.isList hs pl pu .none (by simp) ?_ (by rw [List.size_toArray] <;> omega)
 rw [aCf, <- hlen]
 refine ⟨.ref s.heap.objs.size, _, I.laid (t' := s.toks) (o := .lst (aK0 xs lo hi)) (fun b ob q => Heap.get?_push_of_some _ q) (Nat.le_refl _) ?_, rfl, q _ (I.hok.fresh (Nat.le_refl _))⟩
 exact ⟨Nat.le_trans (aF6 xs lo hi) hz, _, 0, (r.drop (HT.sIx xs.length 0 lo)).take (HT.sIx xs.length xs.length hi - HT.sIx xs.length 0 lo), Heap.get?_push_size _ rfl⟩
theorem aDz : mC X (.builtin "len") (fun xs H Q => ∃ p ys, xs = [.ref p] /\ (SqL X.K H p ys \/ SqT X.K H p ys) /\ Q (.int ys.length) H) := by
 intro pins s σ H xs us Q I r h
 obtain ⟨p, ys, rfl, hq, q⟩ := h
 obtain ⟨u, rfl, rx⟩ := vals1 r
 cases rx
 have hn := yF
 rcases hq with hq | hq
 ·obtain ⟨its, r', pl, hz⟩ := I.list hq
  have hlen := r'.length
  exact Calls.call_len_list pl.isList (by simp only [List.size_toArray] <;> omega) ⟨.int ys.length, H, I.tok _, ⟨s.toks + 1, by rw [List.size_toArray, hlen]⟩, q⟩
 ·obtain ⟨its, r', pl, hz⟩ := I.tuple hq
  have hlen := r'.length
  exact len_tuple pl (by simp only [List.size_toArray] <;> omega) ⟨.int ys.length, H, I.tok _, ⟨s.toks + 1, by rw [List.size_toArray, hlen]⟩, q⟩
theorem aE0 : mC X (.builtin "len") (fun xs H Q => ∃ z, xs = [.str z] /\ z.length <= sizeLine /\ Q (.int z.length) H) := by
 intro pins s σ H xs us Q I r h
 obtain ⟨z, rfl, hz, q⟩ := h
 obtain ⟨u, rfl, t, rfl⟩ := vals1 r
 have hn := yF
 exact len_str (by omega) ⟨.int z.length, H, I.tok _, ⟨_, rfl⟩, q⟩
theorem mC.or {f : Value} {r r' : List V -> Hp -> VK -> Prop} (h : mC X f r) (h' : mC X f r') : mC X f (fun xs H Q => r xs H Q \/ r' xs H Q) := by
 intro pins s σ H xs us Q I rs q
 rcases q with q | q
 ·exact h pins s σ H xs us Q I rs q
 ·exact h' pins s σ H xs us Q I rs q
def tyV (K : PySem.W.Frag) (T : String) (x : V) (H : Hp) : Prop := match x with
 | .str _ => T = "str"
 | .int _ => T = "int"
 | .ref p => (T = "list" /\ ∃ xs, SqL K H p xs) \/ (T = "tuple" /\ ∃ o, K.lookup p = some o /\ o.cls = .type "tuple" /\ o.dict = none) \/
   (T = "dict" /\ ((∃ kvs, H p = some (.dK kvs)) \/ ∃ kvs, H p = some (.dT kvs))) \/ (T = "set" /\ ∃ S n, H p = some (.set S n))
 | _ => False
theorem aSt {pins : List (Addr × Obj)} {σ : St} {H : Hp} {s : Shared} {T : String} {x : V} {v : Value} (I : Inv X pins σ H s) (r : RelV x v) (ty : tyV X.K T x H) :
  s.TypeIs v T /\ ∀ a, v = .ref a -> ∃ ob, s.heap.get? a = some ob /\ ob.dict = none := by
 cases x with
 | str z =>
  obtain ⟨t, rfl⟩ := r
  cases (show T = "str" from ty)
  exact ⟨typeIs_str s z t, fun _ e => nomatch e⟩
 | int i =>
  obtain ⟨t, rfl⟩ := r
  cases (show T = "int" from ty)
  exact ⟨typeIs_int s i t, fun _ e => nomatch e⟩
 | ref p =>
  cases r
  rcases ty with ⟨rfl, xs, hq⟩ | ⟨rfl, o, hk, hc, hd⟩ | ⟨rfl, hk⟩ | ⟨rfl, S, n, hk⟩
  ·obtain ⟨its, _, pl, _⟩ := I.list hq
   refine ⟨pl.isList.typeIs, fun a e => ?_⟩
   cases e
   obtain ⟨o, n, e, c, hd, _⟩ := pl
   exact ⟨o, e, hd⟩
  ·refine ⟨⟨o, I.kIn p o hk, hc⟩, fun a e => ?_⟩
   cases e
   exact ⟨o, I.kIn _ o hk, hd⟩
  ·have z : ∃ o, s.heap.get? p = some o /\ o.ExactDict := by
    rcases hk with ⟨kvs, hk⟩ | ⟨kvs, hk⟩
    ·obtain ⟨_, _, _, _, o, _, _, e, ex, _⟩ := I.hok p _ hk
     exact ⟨o, e, ex⟩
    ·obtain ⟨_, _, _, _, o, _, _, e, ex, _⟩ := I.hok p _ hk
     exact ⟨o, e, ex⟩
   obtain ⟨o, e, ex⟩ := z
   refine ⟨⟨o, e, ex.1⟩, fun a e2 => ?_⟩
   cases e2
   exact ⟨o, e, ex.2.1⟩
  ·obtain ⟨o, _, _, _, e, ex, _⟩ := I.hok p _ hk
   refine ⟨⟨o, e, ex.1⟩, fun a e2 => ?_⟩
   cases e2
   exact ⟨o, e, ex.2.1⟩
 | _ => exact False.elim ty
def tBM (K : PySem.W.Frag) (T : String) (r : V -> List V -> Hp -> VK -> Prop) (to : TE) (t : TA) : TE := fun σ H Q => to σ H fun x H1 => tyV K T x H1 /\ t σ H1 fun xs H2 => r x xs H2 Q
variable {o e : Expr} {es : List Expr} {to : TE} {t : TA} {name : Str} {apos cpos : Pos} {T id : String} {r : V -> List V -> Hp -> VK -> Prop}
theorem aM2 (pa : PlainAttrs T) (slot : Slot T name id) (hty : typeOf (.builtin id) = pure (.type "method_descriptor")) (hm : MtR X id r) (ho : PE X o to) (ha : PA X (e :: es) t)
  (hbase : attributeBase o name X.env (eval o X.env) = eval o X.env := by rfl)
  (hfew : ((backTo cpos (starEach (e :: es) X.env)).all (fun x => !x.1) && (backToKw cpos (keywordEach [] X.env)).all (fun x => x.1.isSome)
   && decide ((e :: es).length + ([] : List Keyword).length + (if ([] : List Keyword).isEmpty then 0 else 1) < 30)) = true := by rfl)
  (hline : (apos.endLine == cpos.line) = true := by rfl) (hs : starEach (e :: es) X.env = (false, eval e X.env) :: starEach es X.env := by rfl) (hplain : (backTo cpos (starEach es X.env)).any (·.1) = false := by rfl) :
  PE X (.Call (.Attribute o name apos) (e :: es) [] cpos) (tBM X.K T r to t) := by
 intro pins s σ H Q I h
 refine wpAny_Call_method_late hbase hfew hline rfl (thn (ho pins s σ H _ I h) fun v s1 ⟨x, H1, I1, r1, ty, q1⟩ => ?_)
 obtain ⟨h1, h2⟩ := aSt I1 r1 ty
 refine ⟨T, id, pa, slot, hty, h1, h2, ?_⟩
 have hA := ha cpos pins s1 σ H1 _ I1 q1
 rw [hs] at hA ⊢
 refine Calls.callWith_builtin (by show (false || (backTo cpos (starEach es X.env)).any (·.1)) = false; rw [hplain] <;> rfl) (Calls.evalArgs_plain ?_)
 exact thn hA fun us s2 ⟨vs, H2, I2, r2, q2⟩ => hm pins s2 σ H2 x vs v us Q I2 r1 r2 q2
end
end L2
namespace L2
open PySem PySem.Spec PyProof.Rows
def MtM (X : Cx) (id : String) (r : V -> List V -> Hp -> VK -> Prop) : Prop :=
 ∀ (pins : List (Addr × Obj)) (s : Shared) (σ : St) (H : Hp) (x : V) (xs : List V) (v : Value) (us : List Value) (Q : VK), Inv X pins σ H s -> RelV x v -> Vals xs us -> r x xs H Q ->
  wpAny (model X.prog X.w) X.A (call (.builtin id) (v :: us)) (EP X pins σ Q) X.xe s
theorem Vals.one : ∀ {x : V} {us : List Value}, Vals [x] us -> ∃ u, us = [u] /\ RelV x u
 | _, _, .cons r .nil => ⟨_, rfl, r⟩
theorem Vals.two : ∀ {x y : V} {us : List Value}, Vals [x, y] us -> ∃ u v, us = [u, v] /\ RelV x u /\ RelV y v
 | _, _, _, .cons r (.cons q .nil) => ⟨_, _, rfl, r, q⟩
theorem Vals.rep {xs : List V} {us : List Value} (h : Vals xs us) : ∀ k : Nat, Vals (List.replicate k xs).flatten (List.replicate k us).flatten
 | 0 => .nil
 | k + 1 => by
  rw [List.replicate_succ, List.replicate_succ, List.flatten_cons, List.flatten_cons]
  exact Vals.append h (Vals.rep h k)
theorem foldl_rep (its : List Value) : ∀ (k : Nat) (acc : List Value),
  List.foldl (fun x1 x2 => x1 ++ x2) acc.toArray (List.replicate k its.toArray) = (acc ++ (List.replicate k its).flatten).toArray
 | 0, acc => by simp
 | k + 1, acc => by
  have e : acc.toArray ++ its.toArray = (acc ++ its).toArray := by simp
  have e2 : (acc ++ its) ++ (List.replicate k its).flatten = acc ++ (List.replicate (k + 1) its).flatten := by
   rw [List.replicate_succ, List.flatten_cons, List.append_assoc]
  rw [<- e2, <- foldl_rep its k (acc ++ its), <- e, List.replicate_succ, List.foldl_cons]
section
variable {X : Cx} {pins : List (Addr × Obj)} {σ : St} {H : Hp} {s : Shared} {l b : Addr} {xs ys zs : List V}
theorem Inv.lset {its its' : List Value} {n : Nat} {f : Array Value -> Array Value} {t' : Nat} (I : Inv X pins σ H s) (hH : H l = some (.lst xs))
  (e : s.heap.get? l = some { cls := .type "list", data := .seq its.toArray n }) (hf : f its.toArray = its'.toArray) (hv : Vals ys its') (hz : ys.length <= sizeLine) :
  Inv X pins σ (upd H l (.lst ys)) { s with heap := s.heap.update l (Obj.mapSeq f), toks := t' } := by
 have q := PySem.IsL.update e f
 rw [hf] at q
 refine I.write (x := l) (e := l) (by rw [hH]; exact trivial) (.inl rfl) (fun b' u hb hu => (Heap.get?_update_other s.heap (Obj.mapSeq f) (Ne.symm hb)).trans hu) ⟨_, q⟩ ?_
 exact ⟨hz, its', _, hv, q⟩
theorem Inv.lnew {its : List Value} {t' : Nat} (I : Inv X pins σ H s) (hv : Vals ys its) (hz : ys.length <= sizeLine) :
  Inv X pins σ (upd H s.heap.objs.size (.lst ys)) { s with heap := s.heap.push { cls := .type "list", data := .seq its.toArray }, toks := t' } :=
 I.laid (fun _ _ q => Heap.get?_push_of_some _ q) (Nat.le_refl _) ⟨hz, its, 0, hv, Heap.get?_push_size _ rfl⟩
theorem Inv.fresh (I : Inv X pins σ H s) : H s.heap.objs.size = none := I.hok.fresh (Nat.le_refl _)
theorem Inv.lstM (I : Inv X pins σ H s) (hH : H l = some (.lst xs)) : xs.length <= sizeLine /\ ∃ (its : List Value) (n : Nat), Vals xs its /\ xs.length = its.length /\ s.heap.get? l = some { cls := .type "list", data := .seq its.toArray n } := by
 obtain ⟨z, its, n, r, e⟩ := I.hok l _ hH
 exact ⟨z, its, n, r, r.length, e⟩
theorem aM3 {n : Nat} (h : n <= sizeLine) : Builtin.List.listTooLong n = false := by
 unfold Builtin.List.listTooLong
 exact decide_eq_false (by omega)
end
section
variable {X : Cx}
def aPl : V -> List V -> Hp -> VK -> Prop := fun x vs H Q => ∃ l xs y, x = .ref l /\ vs = [y] /\ H l = some (.lst xs) /\ xs.length < sizeLine /\ Q .non (upd H l (.lst (xs ++ [y])))
theorem aCu : MtM X "list.append" aPl := by
 intro pins s σ H x vs v us Q I rx rv h
 obtain ⟨l, xs, y, rfl, rfl, hH, hz, q⟩ := h
 cases rx
 obtain ⟨u, rfl, ru⟩ := rv.one
 obtain ⟨z, its, n, r, hl, e⟩ := I.lstM hH
 refine call_meets F.slot_list_append ⟨_, e, rfl⟩ F.entry_list_append (F.args_list_append_2 _ _) (PySem.list_append l its.toArray n u (by rw [List.size_toArray]; omega)) ⟨e, ?_⟩
 refine ⟨.non, _, I.lset (its' := its ++ [u]) hH e (by simp) (r.append (.cons ru .nil)) ?_, rfl, q⟩
 rw [List.length_append, List.length_singleton]
 omega
def aYr : R2 := fun x y H Q => ∃ l k xs, x = .ref l /\ y = .int k /\ H l = some (.lst xs) /\ -(2 ^ 63) <= k /\ k < 2 ^ 63 /\ xs.length * k.toNat <= sizeLine /\
 ∀ p, H p = none -> Q (.ref p) (upd H p (.lst (List.replicate k.toNat xs).flatten))
theorem len_rep {α : Type} (xs : List α) (k : Nat) : (List.replicate k xs).flatten.length = k * xs.length := by
 induction k with
 | zero => simp
 | succ k ih => rw [List.replicate_succ, List.flatten_cons, List.length_append, ih, Nat.succ_mul, Nat.add_comm]
theorem aSu : OpR X (binaryOp .Mult) aYr := by
 intro pins s σ H x y v u Q I rx ry h
 obtain ⟨l, k, xs, rfl, rfl, hH, h1, h2, hz, q⟩ := h
 cases rx
 obtain ⟨t, rfl⟩ := ry
 obtain ⟨z, its, n, r, hl, e⟩ := I.lstM hH
 have hlen : its.toArray.size * k.toNat <= sizeLine := by rw [List.size_toArray, <- hl]; exact hz
 have hcap : ¬ its.toArray.size * k.toNat > (2 ^ 63 - 1) / 8 := by
  have : (sizeLine : Nat) <= (2 ^ 63 - 1) / 8 := by decide
  omega
 have hfit : ¬ (!Builtin.List.listFitsIndex k) = true := by
  rw [fitsIndex_both h1 h2]
  exact Bool.false_ne_true
 have hlong : ¬ Builtin.List.listTooLong (its.toArray.size * k.toNat) = true := by
  rw [aM3 hlen]
  exact Bool.false_ne_true
 have hnew : List.foldl (fun x1 x2 => x1 ++ x2) #[] (List.replicate (if its.toArray.isEmpty = true then 0 else k.toNat) its.toArray) = (List.replicate k.toNat its).flatten.toArray := by
  have f0 : ∀ m : Nat, List.foldl (fun x1 x2 => x1 ++ x2) #[] (List.replicate m its.toArray) = (List.replicate m its).flatten.toArray := fun m => by
   have := foldl_rep its m []
   rw [List.nil_append] at this
   exact this
  rw [f0]
  cases its with
  | nil => simp
  | cons a r' => rw [if_neg (by simp)]
 refine wpAny_binaryOp_repeat_ref (T := "list") (U := "int") (by decide) ⟨_, e, rfl⟩ (fun s' => typeIs_int s' k t) noFill_list_mul F.fills_int_mul F.slot_int_rmul repeat_list F.slot_int_index.lookup
  (call_meets F.slot_int_rmul (typeIs_int s k t) F.entry_int_rmul (F.args_int_rmul_2 _ _) (int___rmul___int_list k t l its.toArray n)
   ⟨e, rfl, ⟨_, e, rfl⟩, call_meets F.slot_list_mul ⟨_, e, rfl⟩ F.entry_list_mul (F.args_list_mul_2 _ _) (AutoListH.list___mul___list_int_3 l its.toArray n k t hfit hcap hlong) ⟨e, ?_⟩⟩)
 rw [hnew]
 exact ⟨.ref _, _, I.lnew (t' := s.toks) (r.rep k.toNat) (by rw [len_rep, Nat.mul_comm]; exact hz), rfl, q _ I.fresh⟩
end
section
variable {prog : Program} {w : World} {A : Around} {E : Value -> Shared -> Prop} {s : Shared}
end
section
variable {X : Cx}
end
end L2
namespace Att
open PySem PySem.W PySem.Calls PyProof.Rows
theorem aAd {P : Params} {h : Heap} : ∀ (ns : List Int) (vs : List Value), WellAll P h vs (ns.map WData.int) -> IntsAre vs ns := by
 intro ns
 induction ns with
 | nil =>
  intro vs w
  rw [List.map_nil] at w
  cases w
  exact .nil
 | cons n ns ih =>
  intro vs w
  rw [List.map_cons] at w
  cases w with
  | cons a b =>
   cases a
   exact .cons _ _ (ih _ b)
theorem aK1 {l : OpenLaw} {n : Nat} (hn : l.most = some n) {P : Params} {h : Heap} {args : List WData} {vals : List Value}
  (hpre : l.row.toRowW.claim.pre args = true) (hwl : WellAll P h vals args) :
  ∃ a vs ns, vals = [Value.ref a] /\ args = [WData.list (ns.map WData.int)] /\ h.get? a = some { cls := .type "list", data := .seq vs.toArray } /\ IntsAre vs ns /\ ns.length <= n := by
 have hsh : WShape.hasAll [] args [.list .int] = true := (pre_splitW hpre).1
 have hc : l.pre.holds [] { args := args } = true := (pre_splitW hpre).2
 obtain ⟨d, r, rfl, h1, h2⟩ := hasAllW_cons hsh
 obtain rfl := hasAllW_nil h2
 obtain ⟨xs, rfl, h3⟩ := hasW_list h1
 obtain ⟨ns, rfl⟩ := items_int h3
 have hlen : ns.length <= n := by
  unfold OpenLaw.pre at hc
  have h4 : (WTm.not (.lt (.lit (.int (n : Int))) (.len (.arg 0)))).holds [] { args := [.list (ns.map .int)] } = true := by
   have h4 := (holds_andW hc).1
   rw [hn] at h4
   exact h4
  have h5 := condW_of h4 (w_not (w_lt w_lit (w_len_list (w_arg rfl))))
  rw [List.length_map] at h5
  refine Nat.le_of_not_lt fun q => ?_
  have q' : (n : Int) < ((ns.length : Nat) : Int) := by omega
  first
   | (rw [decide_eq_true q'] at h5; exact absurd h5 (by decide))
   | (simp at h5; omega)
 cases hwl with
 | cons w1 w2 =>
  cases w2
  cases w1 with
  | list ho hall => exact ⟨_, _, ns, rfl, rfl, ho, aAd ns _ hall, hlen⟩
theorem aK2 (l : OpenLaw) (args : List WData) : l.row.toRowW.claim.post args (.bool true) args = true :=
 postW_of (r := l.row.toRowW) (X := (true == true))
  (show WShape.has [] (.bool true) .bool = true by first | rfl | decide | simp [WShape.has, WShape.arms, WShape.armsAll])
  (show (WTm.eq .res (.lit (.bool true))).value [] { args := args, res := some (.bool true), after := args } = some (.bool (true == true)) from w_eq_bool (w_res rfl) w_lit) rfl
theorem attach_call {l : OpenLaw} {n : Nat} {q : Program} {loose : List Str} {XP : (Str -> Option Value) -> Heap -> Prop} {YP : World -> Heap -> Prop} {d : DefRec}
  (hn : l.most = some n) (hdf : d.params.defaults = [])
  (call : ∀ (w : World) (s₀ s₁ : Shared) (mg mb : Str -> Option Value) (fa : Addr) (o : Obj) (pm cd doc : Value) (a : Addr) (vs : List Value) (ns : List Int),
   Ground q loose [] XP w s₀ mg mb s₁.heap -> YP w s₁.heap ->
   s₁.heap.get? fa = some o -> o.data = .func (docDef d.name d.params d.body d.scope pm cd doc) -> s₁.heap.CodeRec cd d.name -> mg d.name = some (.ref fa) ->
   s₁.heap.get? a = some { cls := .type "list", data := .seq vs.toArray } -> IntsAre vs ns -> ns.length <= n -> s₁.gens = #[] ->
   codeAny (model l.prog w) callerA (.call (.ref fa) ⟨[.ref a], []⟩) (fun r s' => r = .ok (.ret (.bool true)) /\ OldK s₁.heap s'.heap /\ s'.os = s₁.os /\ AllBare s'.gens) s₁) :
  WalkO q loose XP YP l.row.toRowW d [] (fun f vs => PySem.call f vs) := by
 intro w s₀ s₁ mg mb G Y fa o pm cd doc dV kV ho hd hcd hD hmg hg args vals as hpre hlay hrd hwl hlo
 obtain rfl : dV = .none := Dflts.none hD hdf
 obtain rfl : kV = .none := Dflts.noKw hD
 obtain ⟨a, vs, ns, rfl, rfl, hobj, hints, hlen⟩ := aK1 hn hpre hwl
 refine enter_call (codeAny_mono (call w s₀ s₁ mg mb fa o pm cd doc a vs ns G Y ho (fd_plain hd) hcd hmg hobj hints hlen hg) fun r s' hq => ?_)
 obtain ⟨rfl, h2, h3, h4⟩ := hq
 exact ⟨.inl ⟨.bool true, .bool true, [], rfl, fun _ => rfl, .bool true, aK2 l _, fun _ => ⟨List.Pairwise.nil, fun _ hm => (nomatch hm)⟩⟩, h2, h3, h4⟩
section
variable {prog : Program} {w : World} {A : Around} {E : Value -> Shared -> Prop} {s : Shared} {K : Frag}
end
end Att
namespace L2
open PySem PySem.Spec PyProof.Rows
theorem vals_ints : ∀ {vs : List Value} {ns : List Int}, IntsAre vs ns -> Vals (ns.map V.int) vs
 | _, _, .nil => .nil
 | _, _, .cons n t h => .cons ⟨t, rfl⟩ (vals_ints h)
def Only (H : Hp) : Prop := ∀ b, H b = none \/ ∃ o xs, H b = some (.frz o (.lst xs))
theorem aM4 {P : Program} {w : World} {K : PySem.W.Frag} {mg mb : Str -> Option Value} {CX : CXT} {k : Nat} {fa a : Addr} {fd : FuncData} {x : Str} {sp : Sp} {s₁ : Shared} {vs : List Value} {ns : List Int}
  (KX : K.In s₁.heap) (hns : s₁.heap.Ns mainGlobals mg) (hb : s₁.heap.Ns builtinsNs mb) (hbb : ∀ x : Str, x ≠ "__name__" -> mb x = bootBuiltins x) (hlim : s₁.heap.NoLimit) (hg : s₁.gens = #[])
  (ha : s₁.heap.get? a = some { cls := .type "list", data := .seq vs.toArray }) (hi : IntsAre vs ns) (hl : ns.length <= sizeLine) (hr : Room k callerA)
  (F : ∀ base : Heap, K.In base -> base.Ns mainGlobals mg -> FnOk P w K mg base CX k fa fd [x] sp) (hbind : ∀ (s : Shared) (u : Value), BindsTo s fd ⟨[u], []⟩ [(x, u)])
  (hsp : ∀ H : Hp, Only H -> SqL K H a (ns.map V.int) -> sp [.ref a] H (fun v _ => v = .bl true) fun _ _ _ => False)
  (hCX : ∀ H e s', CX [] H s₁ (fun _ _ _ => False) e s' -> False) :
  codeAny (model P w) callerA (.call (.ref fa) ⟨[.ref a], []⟩) (fun r s' => r = .ok (.ret (.bool true)) /\ OldK s₁.heap s'.heap /\ s'.os = s₁.os /\ AllBare s'.gens) s₁ := by
 have rv := vals_ints hi
 have lenV := hi.length
 have core : ∀ H : Hp, Only H -> SqL K H a (ns.map V.int) -> HOk P w H s₁.heap -> (∀ b, H b ≠ none -> b = a) -> (H a ≠ none -> K.lookup a = none) ->
   codeAny (model P w) callerA (.call (.ref fa) ⟨[.ref a], []⟩) (fun r s' => r = .ok (.ret (.bool true)) /\ OldK s₁.heap s'.heap /\ s'.os = s₁.os /\ AllBare s'.gens) s₁ := by
  intro H hO hS hok hA hK
  have base_of : ∀ {b : Addr} {o : Obj}, s₁.heap.get? b = some o -> H b = none -> (aDu s₁.heap H).get? b = some o := fun e n => aLq e n
  have noA : ∀ {b : Addr} {o : Obj} {es : Array DictEntry} {ep : Nat}, s₁.heap.get? b = some o -> o.data = .dict es ep -> H b = none := fun {b o es ep} e d => by
   cases q : H b with
   | none => rfl
   | some u =>
    have e' : b = a := hA b (by rw [q]; simp)
    subst e'
    rw [ha] at e; cases e
    have d' : Data.seq vs.toArray _ = Data.dict es ep := d
    cases d'
  have nsK : ∀ {b : Addr} {m : Str -> Option Value}, s₁.heap.Ns b m -> (aDu s₁.heap H).Ns b m := fun {b m} ⟨o, es, ep, e, d, r⟩ => ⟨o, es, ep, base_of e (noA e d), d, r⟩
  have hKb : K.In (aDu s₁.heap H) := fun b o e => base_of (KX b o e) (by
   cases q : H b with
   | none => rfl
   | some u =>
    have e' : b = a := hA b (by rw [q]; simp)
    subst e'
    rw [hK (by rw [q]; simp)] at e; cases e)
  have hM : Mod K mg (aDu s₁.heap H) := ⟨hKb, nsK hns, ⟨mb, nsK hb, hbb⟩, let ⟨mc, h1, h2⟩ := hlim; ⟨mc, nsK h1, h2⟩⟩
  have e0 : Env0 P w K mg (aDu s₁.heap H) callerA [] s₁ H := ⟨rfl, hM, fun b o e => aP2 e, Nat.le_of_eq (aJq _ _), trivial, fun b hb => absurd (show b ∈ ([] : List Addr) from hb) (by simp), hok, .of_eq hg⟩
  refine codeAny_mono ((F _ hKb (nsK hns)).run callerA [] s₁ H ⟨[.ref a], []⟩ [.ref a] [.ref a] _ _ hr e0 (hbind s₁ (.ref a)) (.cons rfl .nil) (hsp H hO hS)) fun r s' h => ?_
  cases r with
  | error e => exact (hCX H e s' h).elim
  | ok fl =>
   cases fl with
   | next => exact False.elim h
   | brk => exact False.elim h
   | cont => exact False.elim h
   | ret u =>
    obtain ⟨v, H', os, bare, un, hok', r', q⟩ := h
    have q' : v = .bl true := q
    subst q'
    obtain rfl : u = Value.bool true := r'
    refine ⟨rfl, OldK.of_keep fun b o e => ?_, os, bare⟩
    cases q : H b with
    | none => exact un.keep b o e q (by intro z; exact absurd (show b ∈ ([] : List Addr) from z) (by simp)) (by simp)
    | some u =>
     rcases hO b with z | ⟨ob, xs, z⟩
     ·rw [q] at z; cases z
     ·have z2 := un.frzs b ob _ z
      obtain ⟨e1, _⟩ := hok b _ z
      obtain ⟨e2, _⟩ := hok' b _ z2
      rw [e] at e1; cases e1
      exact e2
 cases hk : K.lookup a with
 | some o =>
  have e := KX a o hk
  rw [ha] at e
  cases e
  refine core (fun _ => none) (fun _ => .inl rfl) (.inr ⟨_, vs.toArray, _, hk, rfl, rfl, rfl, by rw [List.size_toArray, lenV]; exact hl, by simpa using rv⟩) (fun b u z => by have z' : (none : Option HO) = some u := z; cases z') (fun b z => absurd rfl z) fun z => absurd rfl z
 | none =>
  refine core (fun b => if b = a then some (.frz { cls := .type "list", data := .seq vs.toArray } (.lst (ns.map V.int))) else none) (fun b => ?_) (.inl (.inr ⟨{ cls := .type "list", data := .seq vs.toArray }, if_pos rfl⟩)) (fun b u z => ?_) (fun b z => ?_) fun _ => hk
  ·by_cases hb : b = a
   ·exact .inr ⟨_, _, if_pos hb⟩
   ·exact .inl (if_neg hb)
  ·by_cases hb : b = a
   ·have z' := (if_pos hb).symm.trans z
    cases z'
    subst hb
    exact ⟨ha, by rw [List.length_map]; exact hl, vs, _, rv, ha⟩
   ·have z' := (if_neg hb).symm.trans z
    cases z'
  ·by_cases hb : b = a
   ·exact hb
   ·exact absurd (if_neg hb) z
end L2
namespace L2
open PySem PySem.Spec PyProof.Rows
theorem walk_of {l : PySem.W.OpenLaw} {n k : Nat} {q : Program} {loose : List Str} {XP : (Str -> Option Value) -> Heap -> Prop} {YP : World -> Heap -> Prop} {d : DefRec} {K : Params -> PySem.W.Frag} {CX : World -> CXT} {sp : World -> Sp} {x : Str}
  (hn : l.most = some n) (hn2 : n <= sizeLine) (hdf : d.params.defaults = []) (hr : Room k callerA)
  (hY : ∀ (w : World) (h : Heap), YP w h -> (K w.params).In h)
  (F : ∀ (w : World) (mg : Str -> Option Value) (fa : Addr) (h : Heap), (K w.params).In h -> h.Ns mainGlobals mg -> mg d.name = some (.ref fa) ->
   ∃ fd : FuncData, (∀ (s : Shared) (u : Value), BindsTo s fd ⟨[u], []⟩ [(x, u)]) /\
    ∀ base : Heap, (K w.params).In base -> base.Ns mainGlobals mg -> FnOk l.prog w (K w.params) mg base (CX w) k fa fd [x] (sp w))
  (hsp : ∀ (w : World) (H : Hp) (a : Addr) (ns : List Int), ns.length <= n -> Only H -> SqL (K w.params) H a (ns.map V.int) -> sp w [.ref a] H (fun v _ => v = .bl true) fun _ _ _ => False)
  (hCX : ∀ (w : World) (H : Hp) (s : Shared) (e : Value) (s' : Shared), CX w [] H s (fun _ _ _ => False) e s' -> False) :
  PySem.W.WalkO q loose XP YP l.row.toRowW d [] (fun f vs => PySem.call f vs) := by
 refine Att.attach_call hn hdf fun w s₀ s₁ mg mb fa o pm cd doc a vs ns G Y ho hd hcd hmg hobj hints hlen hg => ?_
 have KX := hY w _ Y
 obtain ⟨fd, hb, hF⟩ := F w mg fa _ KX G.T.g hmg
 exact aM4 KX G.T.g G.T.b G.T.builtins G.T.nolimit hg hobj hints (Nat.le_trans hlen hn2) hr hF hb (fun H hO hS => hsp w H a ns hlen hO hS) fun H e s' => hCX w H s₁ e s'
end L2
namespace L2
open PySem PySem.Spec PyProof.Rows
def nA (s : Stmt) : Arguments := match s with
 | .FunctionDef _ a _ _ _ _ _ _ _ _ => a
 | _ => { posonlyargs := [], args := [], vararg := none, kwonlyargs := [], kw_defaults := [], kwarg := none, defaults := [] }
def gK (s : Stmt) : List Stmt := match s with
 | .FunctionDef _ _ b _ _ _ _ _ _ _ => b
 | _ => []
def aL (s : Stmt) : Scope := match s with
 | .FunctionDef _ _ _ _ _ _ sc _ _ _ => sc
 | _ => { kind := .function, names := [], isGenerator := false, isCoroutine := false }
abbrev CX0 : CXT := fun _ _ _ _ _ _ => False
abbrev E0 : XK := fun _ _ _ => False
theorem aRg {X : Cx} : aAw CX0 X E0 := fun _ _ _ _ _ _ _ h => h.elim
section
variable {P : Program} {w : World} {K : PySem.W.Frag} {mg : Str -> Option Value} {base : Heap}
end
section
variable {X : Cx}
end
def aM (H H' : Hp) : Prop := ∀ b o, H b = some o -> H' b = some o
theorem aM.refl (H : Hp) : aM H H := fun _ _ h => h
theorem aM.trans {H H1 H2 : Hp} (a : aM H H1) (b : aM H1 H2) : aM H H2 := fun c o h => b c o (a c o h)
theorem aM.seq {K : PySem.W.Frag} {H H' : Hp} {a : Addr} {xs : List V} (e : aM H H') (h : SqL K H a xs) : SqL K H' a xs := by
 rcases h with (h | ⟨o, h⟩) | h
 ·exact .inl (.inl (e _ _ h))
 ·exact .inl (.inr ⟨o, e _ _ h⟩)
 ·exact .inr h
end L2
namespace L2
open PySem PySem.Spec PyProof.Rows
section
variable {κ : Type} [DecidableEq κ]
def yH (kvs : List (κ × V)) (k : κ) : Option V := (kvs.find? fun kv => decide (kv.1 = k)).map (·.2)
theorem vY {p : κ × V} {r : List (κ × V)} {k : κ} (e : p.1 = k) : yH (p :: r) k = some p.2 := by simp [yH, List.find?_cons, e]
theorem vZ {p : κ × V} {r : List (κ × V)} {k : κ} (e : ¬ p.1 = k) : yH (p :: r) k = yH r k := by simp [yH, List.find?_cons, e]
theorem KV.val {kvs : List (κ × V)} {vs : List (κ × Value)} (r : KV kvs vs) (k : κ) : aAc (yH kvs k) (valueAt vs k) := by
 unfold KV at r
 induction r with
 | nil => exact True.intro
 | @cons p q ps qs h t ih =>
  obtain ⟨h1, h2⟩ := h
  by_cases e : p.1 = k
  ·have e' : q.1 = k := h1.symm.trans e
   have b : valueAt (q :: qs) k = some q.2 := by simp [valueAt, List.find?_cons, e']
   rw [vY e, b]; exact h2
  ·have e' : ¬ q.1 = k := fun z => e (h1.trans z)
   have b : valueAt (q :: qs) k = valueAt qs k := by simp [valueAt, List.find?_cons, e']
   rw [vZ e, b]; exact ih
theorem KV.length {kvs : List (κ × V)} {vs : List (κ × Value)} (r : KV kvs vs) : kvs.length = vs.length := Paired.length r
end
theorem aRh {P : Program} {w : World} {k : Key} {u : Value} (r : RelV (kV k) u) : (jM P w).is k u = true := by
 cases k with
 | inl i => obtain ⟨t, e⟩ := (show ∃ t, u = Value.int i t from r); subst e; exact aF1 P w i t
 | inr x => obtain ⟨t, e⟩ := (show ∃ t, u = Value.str x t from r); subst e; exact aF2 P w x t
theorem aCv {P : Program} {w : World} : ∀ {ks : List Key} {us : List Value}, Vals (ks.map kV) us -> ItemsAre (jM P w) ks us
 | [], _, r => by rw [List.map_nil] at r; cases r; exact .nil
 | k :: ks, _, r => by
  rw [List.map_cons] at r
  cases r with
  | cons h t => exact .cons (aRh h) (aCv t)
abbrev KT (H : Hp) : List (List Key × V) -> List (List Key × Addr × Value) -> Prop := Paired fun p q => p.1 = q.1 /\ H q.2.1 = some (.tup (p.1.map kV)) /\ RelV p.2 q.2.2
theorem KT.val {H : Hp} {kvs : List (List Key × V)} {xs : List (List Key × Addr × Value)} (r : KT H kvs xs) (k : List Key) : aAc (yH kvs k) ((atKey xs k).map (·.2)) := by
 induction r with
 | nil => exact True.intro
 | @cons p q ps qs h t ih =>
  obtain ⟨h1, _, h2⟩ := h
  by_cases e : p.1 = k
  ·have e' : q.1 = k := h1.symm.trans e
   have b : atKey (q :: qs) k = some q.2 := by simp [atKey, List.find?_cons, e']
   rw [vY e, b]; exact h2
  ·have e' : ¬ q.1 = k := fun z => e (h1.trans z)
   have b : atKey (q :: qs) k = atKey qs k := by simp [atKey, List.find?_cons, e']
   rw [vZ e, b]; exact ih
section
variable {P : Program} {w : World} {H : Hp} {h : Heap} {a : Addr}
theorem aRi {u : HO} (ok : HOk P w H h) (e : Rd H a u) : jN P w H h a u := e.ok ok
theorem aM5 {kvs : List (Key × V)} (ok : HOk P w H h) (e : Rd H a (.dK kvs)) : kvs.length <= sizeLine /\ (a == sysModules) = false /\ ∃ vs, KV kvs vs /\ h.DictOf (jM P w) a vs :=
 show jN P w H h a (.dK kvs) from aRi ok e
theorem aM6 {ks : List Key} (ok : HOk P w H h) (e : H a = some (.tup (ks.map kV))) : (tupleKind (jM P w)).is h ks a := by
 obtain ⟨_, its, r, o, h1, h2, n, h3⟩ := (show jN P w H h a (.tup (ks.map kV)) from ok a _ e)
 exact ⟨o, its.toArray, n, h1, h2, h3, by simpa using aCv r⟩
theorem aRj {kvs : List (List Key × V)} (ok : HOk P w H h) (e : Rd H a (.dT kvs)) : kvs.length <= sizeLine /\ (a == sysModules) = false /\
  ∃ xs, KT H kvs xs /\ h.DictOfH (tupleKind (jM P w)) a xs := by
 obtain ⟨z, y, xs, r, o, es, ep, h1, h2, h3, h4, h5⟩ := (show jN P w H h a (.dT kvs) from aRi ok e)
 refine ⟨z, y, xs, r, o, es, ep, h1, h2, h3, h4, fun x hx => ?_, h5⟩
 have all : ∀ {l : List (List Key × V)} {m : List (List Key × Addr × Value)}, KT H l m -> ∀ x ∈ m, (tupleKind (jM P w)).is h x.1 x.2.1 := by
  intro l m q
  induction q with
  | nil => intro x hx; exact nomatch hx
  | @cons p q ps qs hq t ih =>
   intro x hx
   rcases List.mem_cons.mp hx with e | hx
   ·subst e
    exact aM6 ok (by rw [<- hq.1]; exact hq.2.1)
   ·exact ih x hx
 exact all r x hx
end
def aCg (H : Hp) (a : Addr) (y : V) (r : Option V) : Prop :=
 (∃ kvs k, Rd H a (.dK kvs) /\ y = kV k /\ r = yH kvs k) \/ ∃ kvs k b, Rd H a (.dT kvs) /\ y = .ref b /\ H b = some (.tup (k.map kV)) /\ r = yH kvs k
theorem aCg.k {H : Hp} {a : Addr} {kvs : List (Key × V)} {k : Key} (e : H a = some (.dK kvs)) : aCg H a (kV k) (yH kvs k) := .inl ⟨kvs, k, .inl e, rfl, rfl⟩
theorem aCg.t {H : Hp} {a b : Addr} {kvs : List (List Key × V)} {k : List Key} (e : H a = some (.dT kvs)) (eb : H b = some (.tup (k.map kV))) : aCg H a (.ref b) (yH kvs k) := .inr ⟨kvs, k, b, .inl e, rfl, eb, rfl⟩
section
variable {X : Cx} {pins : List (Addr × Obj)} {σ : St} {H : Hp} {s : Shared} {a : Addr} {y v : V} {u r : Value} {o : Option V} {A : Around} {E : Value -> Shared -> Prop}
theorem aK3 {Q : Value -> Shared -> Prop} (hu : A.units + 1 < cLine) (I : Inv X pins σ H s) (g : aCg H a y (some v)) (ry : RelV y u) (h : ∀ w' s', Inv X pins σ H s' -> RelV v w' -> Q w' s') :
  wpAny (model X.prog X.w) A (getItem (.ref a) u) Q E s := by
 rcases g with ⟨kvs, k, e, ey, l⟩ | ⟨kvs, k, b, e, ey, eb, l⟩
 ·subst ey
  obtain ⟨z, hd, vs, rel, dd⟩ := aM5 I.hok e
  obtain ⟨w', hw, rw'⟩ := aAc.some_of (v := v) (o := valueAt vs k) (by rw [l]; exact rel.val k)
  exact wpAny_getItem_of (aRh ry) dd.mapOf hw (h w' _ (I.tok _) rw')
 ·subst ey
  cases (show u = Value.ref b from ry)
  obtain ⟨z, hd, xs, rel, dd⟩ := aRj I.hok e
  obtain ⟨w', hw, rw'⟩ := aAc.some_of (v := v) (o := (atKey xs k).map (·.2)) (by rw [l]; exact rel.val k)
  obtain ⟨p, hp, hp2⟩ := Option.map_eq_some_iff.mp hw
  refine wpAny_getItem_heap (tupleKind_room_in1 hu) (aM6 I.hok eb) dd hp ?_
  rw [hp2]
  exact h w' _ (I.tok _) rw'
end
section
variable {X : Cx} {pins : List (Addr × Obj)} {σ : St} {H : Hp} {s : Shared} {a : Addr} {kvs : List (Key × V)} {k : Key} {u : Value} {A : Around} {E : Value -> Shared -> Prop}
theorem aVg {Q : Value -> Shared -> Prop} (I : Inv X pins σ H s) (e : Rd H a (.dK kvs)) (h : ∀ t s', Inv X pins σ H s' -> Q (.int kvs.length t) s') : wpAny (model X.prog X.w) A (call (.builtin "len") [.ref a]) Q E s := by
 obtain ⟨z, hd, vs, rel, dd⟩ := aM5 I.hok e
 refine call_len_dict hd dd (by rw [<- rel.length]; rw [sizeLine_eq] at z; omega) ?_
 rw [<- rel.length]
 exact h _ _ (I.tok _)
end
theorem aF7 {X : Cx} {pins : List (Addr × Obj)} {σ : St} {H : Hp} {s : Shared} {a : Addr} {y : V} {o : Option V} (I : Inv X pins σ H s) (g : aCg H a y o) : s.TypeIs (.ref a) "dict" := by
 rcases g with ⟨kvs, k, e, _, _⟩ | ⟨kvs, k, b, e, _, _, _⟩
 ·obtain ⟨_, _, vs, _, dd⟩ := aM5 I.hok e
  exact dd.typeIs
 ·obtain ⟨_, _, xs, _, dd⟩ := aRj I.hok e
  exact dd.typeIs
section
variable {X : Cx} {o i e value : Expr} {pos pos' tpos : Pos} {td ty tv : TE}
end
section
variable {X : Cx} {pos : Pos}
end
section
variable {X : Cx} {pins : List (Addr × Obj)} {σ : St} {H : Hp} {s : Shared} {a : Addr} {y d : V} {u r : Value} {o : Option V} {A : Around} {E : Value -> Shared -> Prop}
end
section
variable {X : Cx} {o e f : Expr} {apos cpos : Pos} {td ty tx : TE}
end
section
variable {X : Cx} {pins : List (Addr × Obj)} {σ : St} {H : Hp} {s : Shared} {a : Addr} {kvs : List (Key × V)} {A : Around} {E : Value -> Shared -> Prop}
end
section
variable {X : Cx} {pins : List (Addr × Obj)} {σ : St} {H : Hp} {s : Shared} {a : Addr} {y : V} {u : Value} {A : Around} {E : Value -> Shared -> Prop}
end
end L2
set_option maxHeartbeats 1000000
open PySem.W (Frag findIn mroIn clsIn specialIn takesIn nsIn notCls keepIn kitOne kia_one fnOf codeIn callWith_K Looks looks_mroIn looks_findIn excIn mg_of OpenLaw mg_none_of WalkO InK)
open List (all_cons map_cons mem_cons_self mem_cons_of_mem length_cons length_append length_singleton length_nil length_map length_range drop_zero take_of_length_le length_drop length_set nil_append append_nil cons_append take_succ_cons drop_eq_getElem_cons mem_cons not_mem_nil length_take mem_of_mem_take mem_of_mem_drop sum_cons length_zip flatten_cons length_replicate drop_length forIn_nil forIn_cons lookup_cons getElem?_cons_succ)
open Nat (toDigits zero_le le_succ le_add_right)
open Array (ext' toList_extract)
open Int (toNat_of_nonneg emod_nonneg emod_lt_of_pos)
open Option (getD_some map_some)
open Bool (and_eq_true not_eq_true' or_eq_true)
variable {α β : Type}{c newId : String}{n np i j m at_ x1 : Nat}{b a tg o e elt : PySem.Expr}{x qual name : PySem.Str}{q : Bool}{E Qf : PySem.Value -> PySem.Shared -> Prop}{v v2 : L2.V}{ns yes : List String}{S row ts : List (List Nat)}{rk : List Nat}{rows : List (List (List Nat))}{s s0 s' : PySem.Shared}{h h' base h0 : PySem.Heap}{C fa l D' A_Machine X_NoText X_NoMachine X_RankError : PySem.Addr}{H H' H1 H0 G : L2.Hp}{vs ws : List L2.V}{A A' B A1 fp Z : List PySem.Addr}{Dn : L2.Ends}{X Y : L2.Cx}{es elts : List PySem.Expr}{pos p0 pos' p2 ppos p1 apos cpos px spos : PySem.Pos}{Q : Unit -> PySem.Shared -> Prop}{op : PySem.CmpOp}{gv : Int -> Int -> L2.V}{fd : PySem.FuncData}{ps N loose : List PySem.Str}{sm : PySem.Stmt}{y body : List PySem.Stmt}{items : Array PySem.Value}{M : PySem.Model}{w : PySem.World}{env : PySem.Env}{P prog : PySem.Program}{mg : PySem.Str -> Option PySem.Value}{scope : PySem.Scope}{pins : List (PySem.Addr × PySem.Obj)}{wi : L2.TI}{te : L2.TE}{tt : L2.TT}{tn : Nat -> PySem.Heap -> Prop}{J : L2.It}{Qe : L2.Hp -> Prop}{u dV oc a0 cd : PySem.Value}{osl : Array (Option PySem.Value)}{sp : L2.Sp}{outer fl : List PySem.Env}{tl us bmB : List PySem.Value}{CX : L2.CXT}{h₀ : PySem.ExceptHandler}{hs : List PySem.ExceptHandler}{t_MOST_FIGURES t_FIGURES t_MOST_ROOMS t_MOST_LETTERS : PySem.Tok}{XP : (PySem.Str -> Option PySem.Value) -> PySem.Heap -> Prop}
namespace Pu
inductive D where
 | non | bl (b : Bool) | int (i : Int) | str (s : List Nat) | tup (xs : List D) | lst (xs : List D)
 | dct (t : Bool) (ks vs : List D)
 | ins (c : String) (ns : List String) (xs : List D)
 | exn (c : String) (ns : List String) (xs : List D)
 | fn (f : String)
inductive R (α : Type) where
 | ok (a : α) | exc (x : D) | bad
@[inline] def R.bind {α β : Type} (r : R α) (f : α -> R β) : R β := match r with
 | .ok a => f a
 | .exc x => .exc x
 | .bad => .bad
theorem R.bind_ok (a : α) (f : α -> R β) : (R.ok a).bind f = f a := rfl
theorem R.ok_of {r : R α} {f : α -> R β} {b : β} (h : r.bind f = .ok b) : ∃ a, r = .ok a /\ f a = .ok b := by
 cases r with
 | ok a => exact ⟨a, rfl, h⟩
 | exc x => exact nomatch h
 | bad => exact nomatch h
noncomputable section
open Classical in
def aH {α : Type} (c : Prop) (r : R α) : R α := if c then r else .bad
theorem aG {c : Prop} {r : R α} (h : c) : aH c r = r := if_pos h
theorem aJ {c : Prop} {r : R α} {a : α} (h : aH c r = .ok a) : c /\ r = .ok a := by
 unfold aH at h
 split at h
 ·exact ⟨by assumption, h⟩
 ·exact nomatch h
inductive OK where
 | l | d (t : Bool) (ks : List D) | i (n : Nat) (c : String) (ns : List String)
def ofK : OK -> List D -> D
 | .l, xs => .lst xs
 | .d t ks, xs => .dct t ks xs
 | .i _ c ns, xs => .ins c ns xs
inductive Sl where
 | v (d : D) | o (k : OK) (xs : List D)
abbrev PSt := List (Option Sl)
abbrev Ex := PSt -> R D
inductive Fl where
 | nx (st : PSt) | rt (d : D) | bk (st : PSt) | ct (st : PSt)
abbrev Bd := PSt -> R Fl
@[irreducible] def big : Nat := 10000000
theorem jO : big = 10000000 := by unfold big; rfl
theorem dW (h : n <= 10000000) : n <= big := by rw [jO]; exact h
theorem aH6 (h : n < 10000000) : n < big := by rw [jO]; exact h
theorem wA {n : Int} (h : n <= 10000000) : n <= (big : Int) := by rw [jO]; exact h
theorem aAi {n : Int} (h : -10000000 <= n) : -(big : Int) <= n := by rw [jO]; exact h
def sIx (n d : Nat) : Option Int -> Nat
 | none => d
 | some v => if v < 0 then (v + (n : Int)).toNat else min v.toNat n
def ixN (n : Nat) (i : Int) : Option Nat := if 0 <= i then (if i < n then some i.toNat else none) else if -(n : Int) <= i then some (i + n).toNat else none
def atI {α : Type} (xs : List α) (i : Int) : Option α := (ixN xs.length i).bind fun j => xs[j]?
def cut {α : Type} (xs : List α) (lo hi : Option Int) : List α := (xs.drop (sIx xs.length 0 lo)).take (sIx xs.length xs.length hi - sIx xs.length 0 lo)
def rep {α : Type} (n : Nat) (xs : List α) : List α := (List.replicate n xs).flatten
def ofO {α : Type} : Option α -> R α
 | some a => .ok a
 | none => .bad
abbrev Op2 := D -> D -> R D
def cN : Op2
 | .int i, .int j => .ok (.int (i + j))
 | .str x, .str y => aH (x.length + y.length <= big) (.ok (.str (x ++ y)))
 | .lst x, .lst y => aH (x.length + y.length <= big) (.ok (.lst (x ++ y)))
 | _, _ => .bad
def aAx : Op2
 | .int i, .int j => .ok (.int (i - j))
 | _, _ => .bad
def aM7 : Op2
 | .int i, .int j => aH ((-18446744073709551616 < i /\ i < 18446744073709551616) \/ (-18446744073709551616 < j /\ j < 18446744073709551616)) (.ok (.int (i * j)))
 | .str x, .int j => aH (x.length * j.toNat <= big /\ -4611686018427387904 <= j /\ j < 4611686018427387904) (.ok (.str (rep j.toNat x)))
 | _, _ => .bad
def aIh : Op2
 | .int i, .int j => aH (0 < j /\ j < 1073741824) (.ok (.int (i / j)))
 | _, _ => .bad
def vA : Op2
 | .int i, .int j => aH (0 < j) (.ok (.int (i % j)))
 | _, _ => .bad
def aK4 : Op2
 | .int i, .int j => aH (0 <= j /\ j <= 1000000 /\ i.natAbs < 18446744073709551616) (.ok (.int (i ^ j.toNat)))
 | _, _ => .bad
def aSv : D -> Bool
 | .int _ => true
 | .str _ => true
 | _ => false
def keyOk (t : Bool) (d : D) : Bool := match d with
 | .int _ => !t
 | .str _ => !t
 | .tup xs => t && xs.all aSv
 | _ => false
mutual
def eqK : D -> D -> Bool
 | .int i, .int j => i == j
 | .str x, .str y => x == y
 | .tup x, .tup y => aH7 x y
 | _, _ => false
def aH7 : List D -> List D -> Bool
 | [], [] => true
 | a :: x, b :: y => eqK a b && aH7 x y
 | _, _ => false
end
def aH8 (ks vs : List D) (k : D) : Option D := ((ks.zip vs).find? fun p => eqK p.1 k).map (·.2)
def aPm (ks : List D) (k : D) : Bool := ks.any fun x => eqK x k
def dIx : Op2
 | .dct t ks vs, k => aH (keyOk t k = true) (ofO (aH8 ks vs k))
 | .lst x, .int i => ofO (atI x i)
 | .tup x, .int i => ofO (atI x i)
 | .str x, .int i => aH (x.length <= big) (ofO ((atI x i).map fun c => .str [c]))
 | _, _ => .bad
mutual
def eqD : D -> D -> Bool
 | .non, .non => true
 | .bl a, .bl b => a == b
 | .bl a, .int j => (if a then (1 : Int) else 0) == j
 | .int i, .bl b => i == (if b then (1 : Int) else 0)
 | .int i, .int j => i == j
 | .str x, .str y => x == y
 | .tup x, .tup y => fH x y
 | .lst x, .lst y => fH x y
 | _, _ => false
def fH : List D -> List D -> Bool
 | [], [] => true
 | a :: x, b :: y => eqD a b && fH x y
 | _, _ => false
end
mutual
def dep : D -> Nat
 | .tup x => gO x + 1
 | .lst x => gO x + 1
 | .non => 0
 | .bl _ => 0
 | .int _ => 0
 | .str _ => 0
 | .dct _ _ _ => 0
 | .ins _ _ _ => 0
 | .exn _ _ _ => 0
 | .fn _ => 0
def gO : List D -> Nat
 | [] => 0
 | a :: x => max (dep a) (gO x)
end
mutual
def plain : D -> Bool
 | .tup x => fK x
 | .lst x => fK x
 | .non => true
 | .bl _ => true
 | .int _ => true
 | .str _ => true
 | .dct _ _ _ => false
 | .ins _ _ _ => false
 | .exn _ _ _ => false
 | .fn _ => false
def fK : List D -> Bool
 | [] => true
 | a :: x => plain a && fK x
end
def dEq : Op2 := fun a b => aH (dep a <= 64 /\ plain a = true /\ plain b = true) (.ok (.bl (eqD a b)))
def dNe : Op2 := fun a b => aH (dep a <= 64 /\ plain a = true /\ plain b = true) (.ok (.bl (!eqD a b)))
def dLe : Op2
 | .int i, .int j => .ok (.bl (decide (i <= j)))
 | _, _ => .bad
def dGt : Op2
 | .int i, .int j => .ok (.bl (decide (j < i)))
 | _, _ => .bad
def dGe : Op2
 | .int i, .int j => .ok (.bl (decide (j <= i)))
 | _, _ => .bad
def eE : D -> R D
 | .dct false ks _ => .ok (.int ks.length)
 | .lst x => .ok (.int x.length)
 | .tup x => .ok (.int x.length)
 | .str x => aH (x.length <= big) (.ok (.int x.length))
 | _ => .bad
def oH : D -> Bool
 | .ins _ _ _ => false
 | .exn _ _ _ => false
 | .fn _ => false
 | _ => true
def aK5 : D -> Bool
 | .str _ => true
 | _ => false
def aK6 : D -> Bool
 | .bl _ => true
 | _ => false
def isIn : D -> Bool
 | .bl _ => true
 | .int _ => true
 | _ => false
def aVh : D -> Bool
 | .dct _ _ _ => true
 | _ => false
def aE1 : D -> Bool
 | .lst _ => true
 | _ => false
def kO (x y : List Nat) (lo : Nat) : Option Nat := (List.range' lo (x.length + 1 - lo)).find? fun i => decide (i + y.length <= x.length) && ((x.drop i).take y.length == y)
def kY (x y : List Nat) : List Nat := (((x.dropWhile fun c => y.contains c).reverse).dropWhile fun c => y.contains c).reverse
abbrev Mop := D -> List D -> R D
def vB : Mop
 | .str x, [.str y] => aH (x.length <= big) (.ok (.str (kY x y)))
 | _, _ => .bad
def aCw : D -> D -> R D
 | .int i, .int j => .ok (.int (if j > i then j else i))
 | _, _ => .bad
def aCx : D -> D -> R D
 | .int i, .int j => .ok (.int (if j < i then j else i))
 | _, _ => .bad
def aD (i : Nat) : Ex := fun st => match st[i]? with
 | some (some (.v d)) => .ok d
 | _ => .bad
def eC (d : D) : Ex := fun _ => .ok d
def e2 (op : Op2) (f g : Ex) : Ex := fun st => (f st).bind fun x => (g st).bind fun y => op x y
def e1 (op : D -> R D) (f : Ex) : Ex := fun st => (f st).bind op
def eB (p : D -> Bool) (f : Ex) : Ex := fun st => (f st).bind fun x => aH (oH x = true) (.ok (.bl (p x)))
def onB {α : Type} (d : D) (f : Bool -> R α) : R α := match d with
 | .bl b => f b
 | _ => .bad
theorem qQ {d : D} {f : Bool -> R α} {a : α} (h : onB d f = .ok a) : ∃ b, d = .bl b /\ f b = .ok a := by
 cases d <;> first | exact ⟨_, rfl, h⟩ | exact nomatch h
def vC (f g : Ex) : Ex := fun st => (f st).bind fun x => onB x fun b => if b = true then g st else .ok (.bl false)
def eOr (f g : Ex) : Ex := fun st => (f st).bind fun x => onB x fun b => if b = true then .ok (.bl true) else g st
def wB (f : Ex) : Ex := fun st => (f st).bind fun x => onB x fun b => .ok (.bl (!b))
abbrev Exs := PSt -> R (List D)
def aV : Exs := fun _ => .ok []
def aB (f : Ex) (r : Exs) : Exs := fun st => (f st).bind fun x => (r st).bind fun xs => .ok (x :: xs)
def aF8 (r : Exs) : Ex := fun st => (r st).bind fun xs => aH (xs.length <= big) (.ok (.tup xs))
def jC (r : Exs) : Ex := fun st => (r st).bind fun xs => aH (xs.length <= big) (.ok (.lst xs))
def bM (p : List D -> R D) (r : Exs) : Ex := fun st => (r st).bind p
def eMt (m : Mop) (f : Ex) (r : Exs) : Ex := fun st => (f st).bind fun x => (r st).bind fun xs => m x xs
def inI (d : D) {α : Type} (f : Int -> R α) : R α := match d with
 | .int i => f i
 | _ => .bad
theorem rU {d : D} {f : Int -> R α} {a : α} (h : inI d f = .ok a) : ∃ i, d = .int i /\ f i = .ok a := by
 cases d <;> first | exact ⟨_, rfl, h⟩ | exact nomatch h
abbrev ExO := PSt -> R (Option Int)
def wC : ExO := fun _ => .ok none
def wD (f : Ex) : ExO := fun st => (f st).bind fun x => inI x fun i => .ok (some i)
def dSl (x : D) (lo hi : Option Int) : R D := match x with
 | .lst xs => .ok (.lst (cut xs lo hi))
 | .str xs => aH (xs.length <= big) (.ok (.str (cut xs lo hi)))
 | _ => .bad
def eSl (f : Ex) (lo hi : ExO) : Ex := fun st => (f st).bind fun x => (lo st).bind fun l => (hi st).bind fun h => dSl x l h
abbrev ItE := PSt -> R (List D)
def itE (f : Ex) : ItE := fun st => (f st).bind fun x => match x with
 | .lst xs => .ok xs
 | .tup xs => .ok xs
 | .str xs => aH (xs.length <= big) (.ok (xs.map fun c => .str [c]))
 | _ => .bad
def gH (lo : Int) (n : Nat) : List D := (List.range n).map fun (k : Nat) => .int (lo + (k : Int))
def nC (f : Ex) : ItE := fun st => (f st).bind fun x => inI x fun j => aH (-(big : Int) <= j /\ j <= (big : Int)) (.ok (gH 0 j.toNat))
def aPn (f g : Ex) : ItE := fun st => (f st).bind fun x => (g st).bind fun y => inI x fun i => inI y fun j => aH (-(big : Int) <= i /\ i <= (big : Int) /\ -(big : Int) <= j /\ j <= (big : Int)) (.ok (gH i (j - i).toNat))
abbrev Tg := D -> PSt -> R PSt
def tgN (i : Nat) : Tg := fun d st => .ok (st.set i (some (.v d)))
def nP : List Nat -> List D -> PSt -> R PSt
 | [], [], st => .ok st
 | i :: is, d :: ds, st => nP is ds (st.set i (some (.v d)))
 | _, _, _ => .bad
def tgT (is : List Nat) : Tg := fun d st => match d with
 | .tup xs => nP is xs st
 | .lst xs => nP is xs st
 | _ => .bad
def cY (tg : Tg) (c f : Ex) (st : PSt) : List D -> R (List D)
 | [] => .ok []
 | d :: ds => (tg d st).bind fun s1 => (c s1).bind fun x => onB x fun b => if b = true then (f s1).bind fun y => (cY tg c f st ds).bind fun ys => .ok (y :: ys) else cY tg c f st ds
def clr (is : List Nat) (st : PSt) : PSt := is.foldl (fun s i => s.set i none) st
def cT (is : List Nat) (tg : Tg) (it : ItE) (c f : Ex) : Ex := fun st => (it st).bind fun xs => aH (xs.length <= big) ((cY tg c f (clr is st) xs).bind fun ys => .ok (.lst ys))
def aZ : Ex := fun _ => .ok (.bl true)
def aAe (r : R Fl) (f : PSt -> R Fl) : R Fl := r.bind fun x => match x with
 | .nx st => f st
 | .rt d => .ok (.rt d)
 | .bk st => .ok (.bk st)
 | .ct st => .ok (.ct st)
def eN : Bd := fun st => .ok (.nx st)
def cQ (a b : Bd) : Bd := fun st => aAe (a st) b
def eF (i : Nat) (f : Ex) : Bd := fun st => (f st).bind fun d => .ok (.nx (st.set i (some (.v d))))
def aAy (i : Nat) (f : Ex) : Bd := fun st => (f st).bind fun d => match d with
 | .lst xs => .ok (.nx (st.set i (some (.o .l xs))))
 | _ => .bad
def aSw (tg : Tg) (f : Ex) : Bd := fun st => (f st).bind fun d => (tg d st).bind fun s1 => .ok (.nx s1)
def aH9 (i : Nat) (f : Ex) : Bd := fun st => (f st).bind fun d => match st[i]? with
 | some (some (.o .l xs)) => aH (xs.length < big) (.ok (.nx (st.set i (some (.o .l (xs ++ [d]))))))
 | _ => .bad
def aAz (i : Nat) (c f : String) (e : Ex) : Bd := fun st => (e st).bind fun d => match st[i]? with
 | some (some (.o (.i n c' ns) xs)) => aH (c' = c /\ f ∉ ns /\ ns.length < 900) (.ok (.nx (st.set i (some (.o (.i n c' (ns ++ [f])) (xs ++ [d]))))))
 | _ => .bad
def yI (c f : String) : D -> R D
 | .ins c' ns xs => aH (c' = c) (ofO ((ns.zip xs).lookup f))
 | _ => .bad
def fz1 (st : PSt) (i : Nat) : PSt := match st[i]? with
 | some (some (.o k xs)) => st.set i (some (.v (ofK k xs)))
 | _ => st
def sFz (is : List Nat) (b : Bd) : Bd := fun st => b (is.foldl fz1 st)
def eV (f : Ex) : Bd := fun st => (f st).bind fun d => .ok (.rt d)
def sIf (c : Ex) (a b : Bd) : Bd := fun st => (c st).bind fun x => onB x fun q => if q = true then a st else b st
def forR (tg : Tg) (body : Bd) : List D -> PSt -> R Fl
 | [], st => .ok (.nx st)
 | d :: ds, st => (tg d st).bind fun s1 => (body s1).bind fun x => match x with
  | .nx s2 => forR tg body ds s2
  | .ct s2 => forR tg body ds s2
  | .bk s2 => .ok (.nx s2)
  | .rt v => .ok (.rt v)
def aF9 (tg : Tg) (it : ItE) (body : Bd) : Bd := fun st => (it st).bind fun xs => forR tg body xs st
def fV (np n : Nat) (b : Bd) (ds : List D) : R D :=
 aH (ds.length = np) ((b (ds.map (fun d => some (.v d)) ++ List.replicate (n - np) none)).bind fun x => match x with
  | .nx _ => .ok .non
  | .rt d => .ok d
  | _ => .bad)
def zU (c : String) (np n : Nat) (b : Bd) (x : Nat) (ds : List D) : R D :=
 aH (ds.length = np) ((b (some (.o (.i x c []) []) :: (ds.map (fun d => some (.v d)) ++ List.replicate (n - np - 1) none))).bind fun (fl : Fl) => match fl with
  | .nx st => (match (st[0]? : Option (Option Sl)) with
   | some (some (.o (.i y c' ns) xs)) => aH (y = x) (.ok (.ins c' ns xs))
   | _ => .bad)
  | _ => .bad)
open Classical in
def aZf (c : String) (np n : Nat) (b : Bd) (ds : List D) : R D := if h : ∃ d, ∀ x, zU c np n b x ds = .ok d then .ok (choose h) else .bad
end
end Pu
variable {d : Pu.D}{ds xs ys : List Pu.D}{r : Pu.Exs}{st' : Pu.PSt}{f g : Pu.Ex}{p : List Pu.D -> Pu.R Pu.D}{z : Pu.R Pu.D}{it : Pu.ItE}{L bd bd' : Pu.Bd}{xss : List (List Pu.D)}{hl : List (List String × List String × (String -> Pu.Bd))}
namespace Pu
@[simp] theorem bg3 : 3 <= big := dW (by decide)
@[simp] theorem aN (a : α) (f : α -> R β) : (R.ok a).bind f = f a := rfl
@[simp] theorem aU6 (f : α -> R β) : (R.bad : R α).bind f = .bad := rfl
@[simp] theorem vD (b : Bool) (f : Bool -> R α) : onB (.bl b) f = f b := rfl
@[simp] theorem aXc (i : Int) (f : Int -> R α) : inI (.int i) f = f i := rfl
@[simp] theorem aXd (st : PSt) (f : PSt -> R Fl) : aAe (.ok (.nx st)) f = f st := rfl
@[simp] theorem aXe (d : D) (f : PSt -> R Fl) : aAe (.ok (.rt d)) f = .ok (.rt d) := rfl
@[simp] theorem aXf (i : Nat) (st : PSt) : aD i st = (match st[i]? with | some (some (.v d)) => R.ok d | _ => .bad) := rfl
@[simp] theorem aVi (d : D) (st : PSt) : eC d st = .ok d := rfl
@[simp] theorem aVj (op : Op2) (f g : Ex) (st : PSt) : e2 op f g st = (f st).bind fun x => (g st).bind fun y => op x y := rfl
@[simp] theorem aZa (op : D -> R D) (f : Ex) (st : PSt) : e1 op f st = (f st).bind op := rfl
@[simp] theorem aZb (p : D -> Bool) (f : Ex) (st : PSt) : eB p f st = (f st).bind fun x => aH (oH x = true) (.ok (.bl (p x))) := rfl
@[simp] theorem aE2 (f g : Ex) (st : PSt) : vC f g st = (f st).bind fun x => onB x fun b => if b = true then g st else .ok (.bl false) := rfl
@[simp] theorem aSx (f g : Ex) (st : PSt) : eOr f g st = (f st).bind fun x => onB x fun b => if b = true then .ok (.bl true) else g st := rfl
@[simp] theorem aAj (f : Ex) (st : PSt) : wB f st = (f st).bind fun x => onB x fun b => .ok (.bl (!b)) := rfl
@[simp] theorem aXg (st : PSt) : aV st = .ok [] := rfl
@[simp] theorem wF (f : Ex) (r : Exs) (st : PSt) : aB f r st = (f st).bind fun x => (r st).bind fun xs => .ok (x :: xs) := rfl
@[simp] theorem aXh (r : Exs) (st : PSt) : aF8 r st = (r st).bind fun xs => aH (xs.length <= big) (.ok (.tup xs)) := rfl
@[simp] theorem aPo (r : Exs) (st : PSt) : jC r st = (r st).bind fun xs => aH (xs.length <= big) (.ok (.lst xs)) := rfl
@[simp] theorem aM8 (p : List D -> R D) (r : Exs) (st : PSt) : bM p r st = (r st).bind p := rfl
@[simp] theorem aYs (m : Mop) (f : Ex) (r : Exs) (st : PSt) : eMt m f r st = (f st).bind fun x => (r st).bind fun xs => m x xs := rfl
@[simp] theorem aVk (st : PSt) : wC st = .ok none := rfl
@[simp] theorem aVl (f : Ex) (st : PSt) : wD f st = (f st).bind fun x => inI x fun i => .ok (some i) := rfl
@[simp] theorem aSy (f : Ex) (lo hi : ExO) (st : PSt) : eSl f lo hi st = (f st).bind fun x => (lo st).bind fun l => (hi st).bind fun h => dSl x l h := rfl
@[simp] theorem aPp (f : Ex) (st : PSt) : nC f st = (f st).bind fun x => inI x fun j => aH (-(big : Int) <= j /\ j <= (big : Int)) (.ok (gH 0 j.toNat)) := rfl
@[simp] theorem aPq (f g : Ex) (st : PSt) : aPn f g st = (f st).bind fun x => (g st).bind fun y => inI x fun i => inI y fun j => aH (-(big : Int) <= i /\ i <= (big : Int) /\ -(big : Int) <= j /\ j <= (big : Int)) (.ok (gH i (j - i).toNat)) := rfl
@[simp] theorem aVm (tg : Tg) (b : Bd) (st : PSt) : forR tg b [] st = .ok (.nx st) := rfl
theorem yJ (tg : Tg) (b : Bd) (d : D) (ds : List D) (st : PSt) : forR tg b (d :: ds) st = (tg d st).bind fun s1 => (b s1).bind fun x => match x with
  | .nx s2 => forR tg b ds s2
  | .ct s2 => forR tg b ds s2
  | .bk s2 => .ok (.nx s2)
  | .rt v => .ok (.rt v) := rfl
@[simp] theorem aSz (f : Ex) (st : PSt) : itE f st = (f st).bind fun x => match x with | .lst xs => .ok xs | .tup xs => .ok xs | .str xs => aH (xs.length <= big) (.ok (xs.map fun c => .str [c])) | _ => .bad := rfl
@[simp] theorem aPr (i : Nat) (f : Ex) (st : PSt) : aH9 i f st = (f st).bind fun d => match st[i]? with | some (some (.o .l xs)) => aH (xs.length < big) (.ok (.nx (st.set i (some (.o .l (xs ++ [d])))))) | _ => .bad := rfl
@[simp] theorem aM9 (i : Nat) (f : Ex) (st : PSt) : aAy i f st = (f st).bind fun d => match d with | .lst xs => .ok (.nx (st.set i (some (.o .l xs)))) | _ => .bad := rfl
@[simp] theorem aVn (i : Nat) (c f : String) (e : Ex) (st : PSt) : aAz i c f e st = (e st).bind fun d => match st[i]? with | some (some (.o (.i n c' ns) xs)) => aH (c' = c /\ f ∉ ns /\ ns.length < 900) (.ok (.nx (st.set i (some (.o (.i n c' (ns ++ [f])) (xs ++ [d])))))) | _ => .bad := rfl
@[simp] theorem aB0 (c f c' : String) (ns : List String) (xs : List D) : yI c f (.ins c' ns xs) = aH (c' = c) (ofO ((ns.zip xs).lookup f)) := rfl
@[simp] theorem aVo (ks vs : List D) : eE (.dct false ks vs) = .ok (.int ks.length) := rfl
@[simp] theorem aYt (is : List Nat) (b : Bd) (st : PSt) : sFz is b st = b (is.foldl fz1 st) := rfl
@[simp] theorem aYu (st : PSt) (i : Nat) : fz1 st i = (match st[i]? with | some (some (.o k xs)) => st.set i (some (.v (ofK k xs))) | _ => st) := rfl
@[simp] theorem aXi (st : PSt) (f : PSt -> R Fl) : aAe (.ok (.bk st)) f = .ok (.bk st) := rfl
@[simp] theorem aXj (st : PSt) (f : PSt -> R Fl) : aAe (.ok (.ct st)) f = .ok (.ct st) := rfl
@[simp] theorem aVp (f : PSt -> R Fl) : aAe .bad f = .bad := rfl
@[simp] theorem aVq (x y : List Nat) : vB (.str x) [.str y] = aH (x.length <= big) (.ok (.str (kY x y))) := rfl
@[simp] theorem aU7 (i j : Int) : aCw (.int i) (.int j) = .ok (.int (if j > i then j else i)) := rfl
@[simp] theorem aU8 (i j : Int) : aCx (.int i) (.int j) = .ok (.int (if j < i then j else i)) := rfl
@[simp] theorem aVr (x : List D) : eE (.tup x) = .ok (.int x.length) := rfl
@[simp] theorem aXk (i j : Int) : dGe (.int i) (.int j) = .ok (.bl (decide (j <= i))) := rfl
@[simp] theorem aVs (x y : List D) : cN (.lst x) (.lst y) = aH (x.length + y.length <= big) (.ok (.lst (x ++ y))) := rfl
@[simp] theorem aXl (x : List D) (l h : Option Int) : dSl (.lst x) l h = .ok (.lst (cut x l h)) := rfl
@[simp] theorem aVt : oH .non = true := rfl
@[simp] theorem aXm (b : Bool) : oH (.bl b) = true := rfl
@[simp] theorem aVu (b : Int) : oH (.int b) = true := rfl
@[simp] theorem aVv (b : List Nat) : oH (.str b) = true := rfl
@[simp] theorem aVw (b : List D) : oH (.tup b) = true := rfl
@[simp] theorem aVx (b : List D) : oH (.lst b) = true := rfl
@[simp] theorem aVy (t : Bool) (a b : List D) : oH (.dct t a b) = true := rfl
@[simp] theorem aYv (i : Nat) (d : D) (st : PSt) : tgN i d st = .ok (st.set i (some (.v d))) := rfl
@[simp] theorem aYw (is : List Nat) (xs : List D) (st : PSt) : tgT is (.tup xs) st = nP is xs st := rfl
@[simp] theorem aXn (is : List Nat) (xs : List D) (st : PSt) : tgT is (.lst xs) st = nP is xs st := rfl
@[simp] theorem aT0 (st : PSt) : nP [] [] st = .ok st := rfl
@[simp] theorem aRk (i : Nat) (is : List Nat) (d : D) (ds : List D) (st : PSt) : nP (i :: is) (d :: ds) st = nP is ds (st.set i (some (.v d))) := rfl
@[simp] theorem aXo (st : PSt) : clr [] st = st := rfl
@[simp] theorem aVz (i : Nat) (is : List Nat) (st : PSt) : clr (i :: is) st = clr is (st.set i none) := rfl
@[simp] theorem aU9 (tg : Tg) (c f : Ex) (st : PSt) : cY tg c f st [] = .ok [] := rfl
theorem aB1 (tg : Tg) (c f : Ex) (st : PSt) (d : D) (ds : List D) : cY tg c f st (d :: ds) = (tg d st).bind fun s1 => (c s1).bind fun x => onB x fun b => if b = true then (f s1).bind fun y => (cY tg c f st ds).bind fun ys => .ok (y :: ys) else cY tg c f st ds := rfl
@[simp] theorem aW0 (st : PSt) : aZ st = .ok (.bl true) := rfl
@[simp] theorem aMa (is : List Nat) (tg : Tg) (it : ItE) (c f : Ex) (st : PSt) : cT is tg it c f st = (it st).bind fun xs => aH (xs.length <= big) ((cY tg c f (clr is st) xs).bind fun ys => .ok (.lst ys)) := rfl
@[simp] theorem aW1 (st : PSt) : eN st = .ok (.nx st) := rfl
@[simp] theorem aE3 (a b : Bd) (st : PSt) : cQ a b st = aAe (a st) b := rfl
@[simp] theorem aE4 (i : Nat) (f : Ex) (st : PSt) : eF i f st = (f st).bind fun d => .ok (.nx (st.set i (some (.v d)))) := rfl
@[simp] theorem aPs (tg : Tg) (f : Ex) (st : PSt) : aSw tg f st = (f st).bind fun d => (tg d st).bind fun s1 => .ok (.nx s1) := rfl
@[simp] theorem qR (f : Ex) (st : PSt) : eV f st = (f st).bind fun d => .ok (.rt d) := rfl
@[simp] theorem aB2 (c : Ex) (a b : Bd) (st : PSt) : sIf c a b st = (c st).bind fun x => onB x fun q => if q = true then a st else b st := rfl
@[simp] theorem aPt (tg : Tg) (it : ItE) (body : Bd) (st : PSt) : aF9 tg it body st = (it st).bind fun xs => forR tg body xs st := rfl
@[simp] theorem aW2 (i j : Int) : cN (.int i) (.int j) = .ok (.int (i + j)) := rfl
@[simp] theorem aW3 (x y : List Nat) : cN (.str x) (.str y) = aH (x.length + y.length <= big) (.ok (.str (x ++ y))) := rfl
@[simp] theorem aW4 (i j : Int) : aAx (.int i) (.int j) = .ok (.int (i - j)) := rfl
@[simp] theorem aW5 (i j : Int) : aM7 (.int i) (.int j) = aH ((-18446744073709551616 < i /\ i < 18446744073709551616) \/ (-18446744073709551616 < j /\ j < 18446744073709551616)) (.ok (.int (i * j))) := rfl
@[simp] theorem aW6 (x : List Nat) (j : Int) : aM7 (.str x) (.int j) = aH (x.length * j.toNat <= big /\ -4611686018427387904 <= j /\ j < 4611686018427387904) (.ok (.str (rep j.toNat x))) := rfl
@[simp] theorem aUa (i j : Int) : aIh (.int i) (.int j) = aH (0 < j /\ j < 1073741824) (.ok (.int (i / j))) := rfl
@[simp] theorem aW7 (i j : Int) : vA (.int i) (.int j) = aH (0 < j) (.ok (.int (i % j))) := rfl
@[simp] theorem aW8 (i j : Int) : aK4 (.int i) (.int j) = aH (0 <= j /\ j <= 1000000 /\ i.natAbs < 18446744073709551616) (.ok (.int (i ^ j.toNat))) := rfl
@[simp] theorem aXp (i j : Int) : dLe (.int i) (.int j) = .ok (.bl (decide (i <= j))) := rfl
@[simp] theorem aXq (i j : Int) : dGt (.int i) (.int j) = .ok (.bl (decide (j < i))) := rfl
@[simp] theorem aMb (x y : D) : dEq x y = aH (dep x <= 64 /\ plain x = true /\ plain y = true) (.ok (.bl (eqD x y))) := rfl
@[simp] theorem aHa (x y : D) : dNe x y = aH (dep x <= 64 /\ plain x = true /\ plain y = true) (.ok (.bl (!eqD x y))) := rfl
@[simp] theorem aYx (b : Bool) : dep (.bl b) = 0 := by unfold dep; rfl
@[simp] theorem aXr (i : Int) : dep (.int i) = 0 := by unfold dep; rfl
@[simp] theorem aXs (s : List Nat) : dep (.str s) = 0 := by unfold dep; rfl
@[simp] theorem aXt (x : List D) : dep (.lst x) = gO x + 1 := by conv => lhs; unfold dep
@[simp] theorem aW9 (b : Bool) : plain (.bl b) = true := by unfold plain; rfl
@[simp] theorem aUb (i : Int) : plain (.int i) = true := by unfold plain; rfl
@[simp] theorem aUc (s : List Nat) : plain (.str s) = true := by unfold plain; rfl
@[simp] theorem aUd (x : List D) : plain (.tup x) = fK x := by conv => lhs; unfold plain
@[simp] theorem aUe (x : List D) : plain (.lst x) = fK x := by conv => lhs; unfold plain
@[simp] theorem aUf (t : Bool) (k v : List D) : plain (.dct t k v) = false := by unfold plain; rfl
@[simp] theorem aUg (c : String) (n : List String) (v : List D) : plain (.ins c n v) = false := by unfold plain; rfl
@[simp] theorem aUh (c : String) (n : List String) (v : List D) : plain (.exn c n v) = false := by unfold plain; rfl
@[simp] theorem aWa (f : String) : plain (.fn f) = false := by unfold plain; rfl
@[simp] theorem aT1 : fK [] = true := by unfold fK; rfl
@[simp] theorem jH (a : D) (x : List D) : fK (a :: x) = (plain a && fK x) := by conv => lhs; unfold fK
@[simp] theorem aWb : gO [] = 0 := by unfold gO; rfl
@[simp] theorem yK (a : D) (x : List D) : gO (a :: x) = max (dep a) (gO x) := by conv => lhs; unfold gO
@[simp] theorem aXu (i j : Int) : eqD (.int i) (.int j) = (i == j) := by unfold eqD; rfl
@[simp] theorem aXv (i j : List Nat) : eqD (.str i) (.str j) = (i == j) := by unfold eqD; rfl
@[simp] theorem aUi (a : Bool) (b : Bool) : eqD (.bl a) (.bl b) = (a == b) := by unfold eqD; rfl
@[simp] theorem aRl (x : List D) (y : List D) : eqD (.lst x) (.lst y) = fH x y := by conv => lhs; unfold eqD
@[simp] theorem aPu : fH [] [] = true := by unfold fH; rfl
@[simp] theorem aMc (a b : D) (x y : List D) : fH (a :: x) (b :: y) = (eqD a b && fH x y) := by conv => lhs; unfold fH
@[simp] theorem aWc (x : List Nat) : eE (.str x) = aH (x.length <= big) (.ok (.int x.length)) := rfl
@[simp] theorem aWd (x : List D) : eE (.lst x) = .ok (.int x.length) := rfl
@[simp] theorem aXw (x : List Nat) (i : Int) : dIx (.str x) (.int i) = aH (x.length <= big) (ofO ((atI x i).map fun c => .str [c])) := rfl
@[simp] theorem aXx (x : List D) (i : Int) : dIx (.tup x) (.int i) = ofO (atI x i) := rfl
@[simp] theorem aXy (x : List D) (i : Int) : dIx (.lst x) (.int i) = ofO (atI x i) := rfl
@[simp] theorem aXz (x : List Nat) (l h : Option Int) : dSl (.str x) l h = aH (x.length <= big) (.ok (.str (cut x l h))) := rfl
@[simp] theorem aZc (xs : List D) : ofK .l xs = .lst xs := rfl
@[simp] theorem aZd (t : Bool) (ks xs : List D) : ofK (.d t ks) xs = .dct t ks xs := rfl
@[simp] theorem aZe (n : Nat) (c : String) (ns : List String) (xs : List D) : ofK (.i n c ns) xs = .ins c ns xs := rfl
@[simp] theorem aWe (a : α) : ofO (some a) = .ok a := rfl
@[simp] theorem gR {c : Prop} {r : R α} (h : c) : aH c r = r := aG h
@[simp] theorem aE5 {b : Bd}  (h : ds.length = np) : fV np n b ds = (b (ds.map (fun d => some (.v d)) ++ List.replicate (n - np) none)).bind fun x => match x with
  | .nx _ => .ok .non
  | .rt d => .ok d
  | _ => .bad := aG h
theorem aHb {xs : List α} {i : Int} (h0 : 0 <= i) (h : i < xs.length) : atI xs i = some (xs[i.toNat]'(by omega)) := by
 unfold atI ixN
 rw [if_pos h0, if_pos h]
 exact List.getElem?_eq_getElem (by omega)
theorem atI_nat {xs : List α} {i : Nat} (h : i < xs.length) : atI xs (i : Int) = some xs[i] := by
 rw [aHb (by omega) (by omega)]
 simp
theorem lJ (lo : Int) (n : Nat) : (gH lo n).length = n := by simp [gH]
end Pu
namespace Pu
def aCy : D -> R D
 | .lst x => .ok (.lst x)
 | .tup x => .ok (.lst x)
 | _ => .bad
def bls : List D -> R (List Bool)
 | [] => .ok []
 | .bl b :: r => (bls r).bind fun x => .ok (b :: x)
 | _ :: _ => .bad
def oJ : List D -> R (List (List Nat))
 | [] => .ok []
 | .str s :: r => (oJ r).bind fun x => .ok (s :: x)
 | _ :: _ => .bad
def rW : D -> R D
 | .lst x => (bls x).bind fun l => .ok (.bl (l.all id))
 | _ => .bad
def cJ (sep : List Nat) : List (List Nat) -> List Nat
 | [] => []
 | [x] => x
 | x :: r => x ++ sep ++ cJ sep r
noncomputable def uN : Mop
 | .str sep, [.lst x] => (oJ x).bind fun l => aH ((l.map List.length).sum + l.length * sep.length <= big) (.ok (.str (cJ sep l)))
 | _, _ => .bad
theorem aMd : ∀ {x : List D} {l : List Bool}, bls x = .ok l -> x = l.map D.bl
 | [], l, h => by cases h; rfl
 | d :: x, l, h => by
  cases d <;> first | (cases h; done) | skip
  obtain ⟨l', h1, h2⟩ := R.ok_of h
  cases h2
  rw [aMd h1]; rfl
theorem aFa : ∀ {x : List D} {l : List (List Nat)}, oJ x = .ok l -> x = l.map D.str
 | [], l, h => by cases h; rfl
 | d :: x, l, h => by
  cases d <;> first | (cases h; done) | skip
  obtain ⟨l', h1, h2⟩ := R.ok_of h
  cases h2
  rw [aFa h1]; rfl
theorem aE6 : ∀ (l : List Bool), bls (l.map D.bl) = .ok l
 | [] => rfl
 | b :: l => by show (bls (l.map D.bl)).bind _ = _; rw [aE6 l]; rfl
def R.nox {α : Type} (r : R α) : R α := match r with
 | .exc _ => .bad
 | r => r
theorem R.nox_ok {r : R α} {a : α} (h : r.nox = .ok a) : r = .ok a := by
 cases r with
 | ok b => exact h
 | exc x => cases h
 | bad => cases h
@[simp] theorem aY0 (a : α) : (R.ok a).nox = .ok a := rfl
def sNX (b : Bd) : Bd := fun st => (b st).nox
def eNX (f : Ex) : Ex := fun st => (f st).nox
def pNX (p : List D -> R D) : List D -> R D := fun ds => (p ds).nox
noncomputable def mQ (c : String) (r : Exs) : Bd := fun st => (r st).nox.bind fun xs => aH (xs.length <= 100) (.exc (.exn c [] []))
def aCh : List (List String × List String × (String -> Bd)) -> String -> PSt -> R Fl
 | [], _, _ => .bad
 | (yes, no, b) :: hs, c, st => if c ∈ yes then (b c st).nox else if c ∈ no then aCh hs c st else .bad
def yL (i : Nat) : Fl -> Fl
 | .nx st => .nx (st.set i none)
 | .bk st => .bk (st.set i none)
 | .ct st => .ct (st.set i none)
 | .rt d => .rt d
def hAs (i : Nat) (b : Bd) : String -> Bd := fun c st => (b (st.set i (some (.v (.exn c [] []))))).bind fun fl => .ok (yL i fl)
def aFb (yes no : List String) : D -> R D
 | .exn c _ _ => if c ∈ yes then .ok (.bl true) else if c ∈ no then .ok (.bl false) else .bad
 | _ => .bad
def aYy (b : Bd) (hs : List (List String × List String × (String -> Bd))) : Bd := fun st => match b st with
 | .exc (.exn c [] []) => aCh hs c st
 | .exc _ => .bad
 | r => r
def gP (p : List D -> R D) (r : Exs) : Ex := fun st => (r st).nox.bind p
noncomputable def aCz : Mop
 | .str x, [.str y] => aH (y ≠ [] /\ x.length <= big) (match kO x y 0 with
  | some i => .ok (.tup [.str (x.take i), .str y, .str (x.drop (i + y.length))])
  | none => .ok (.tup [.str x, .str [], .str []]))
 | _, _ => .bad
noncomputable def aHc (r : Exs) : Ex := fun st => (r st).bind fun xs => (oJ xs).bind fun l => aH (l.flatten.length <= big) (.ok (.str l.flatten))
inductive NFl where
 | nx (xss : List (List D)) (st : PSt) | rt (d : D)
abbrev NB := List (List D) -> PSt -> R NFl
def aHd (j : Nat) (f : Ex) : NB := fun xss st => (f st).bind fun d => .ok (.nx xss (st.set j (some (.v d))))
def aYz (f : Ex) : NB := fun _ st => (f st).bind fun d => .ok (.rt d)
def nIf (c : Ex) (a b : NB) : NB := fun xss st => (c st).bind fun x => onB x fun q => if q = true then a xss st else b xss st
noncomputable def aK7 (g f : Ex) : NB := fun xss st => (g st).bind fun x => inI x fun j => (f st).bind fun d => (ofO (ixN xss.length j)).bind fun k => match xss[k]? with
 | some ys => aH (ys.length < big) (.ok (.nx (xss.set k (ys ++ [d])) st))
 | none => .bad
def atom : D -> Bool
 | .non => true
 | .bl _ => true
 | .int _ => true
 | .str _ => true
 | _ => false
def aD0 : D -> Bool
 | .lst xs => xs.all atom
 | _ => false
noncomputable section
def aHe : D -> R D
 | .lst xs => aH (xs.all atom = true) (.ok (.lst xs))
 | _ => .bad
def rY : D -> R D
 | .lst xs => aH (xs.length <= big /\ xs.all aD0 = true) (.ok (.lst xs))
 | _ => .bad
def eAt (f : Ex) : Ex := fun st => (f st).bind fun d => aH (atom d = true) (.ok d)
def unL : D -> List D
 | .lst xs => xs
 | _ => []
theorem aIi : ∀ {xs : List D}, xs.all aD0 = true -> (xs.map unL).map D.lst = xs
 | [], _ => rfl
 | x :: xs, h => by
  rw [all_cons, and_eq_true] at h
  rw [map_cons, map_cons, aIi h.2]
  cases x <;> first | rfl | exact nomatch h.1
open Classical in
def rZ (c : String) (np n : Nat) (b : Bd) (ds : List D) : R D := if h : ∃ r, ∀ x, zU c np n b x ds = r then choose h else .bad
theorem aFc {b : Bd}  {r : R D} (h : ∀ x, zU c np n b x ds = r) : rZ c np n b ds = r := by
 unfold rZ
 rw [dif_pos ⟨r, h⟩]
 have := Classical.choose_spec (p := fun r => ∀ x, zU c np n b x ds = r) ⟨r, h⟩ 0
 rw [h 0] at this
 exact this.symm
theorem aFd {b : Bd}  (h : rZ c np n b ds ≠ .bad) (x : Nat) : zU c np n b x ds = rZ c np n b ds := by
 unfold rZ at h ⊢
 split at h
 ·rename_i e
  rw [dif_pos e]
  exact Classical.choose_spec e x
 ·exact (h rfl).elim
end
def zV (i : Nat) (xss : List (List D)) (st : PSt) : PSt := st.set i (some (.v (.lst (xss.map D.lst))))
noncomputable section
end
noncomputable section
def vG (i : Nat) (f : Ex) (nb : NB) : Bd := fun st => (f st).bind fun d => (rY d).bind fun d => (nb ((unL d).map unL) (st.set i none)).bind fun r => match r with
 | .rt d => .ok (.rt d)
 | _ => .bad
end
noncomputable section
end
noncomputable section
end
def aMe : Op2
 | .int i, .int j => .ok (.bl (decide (i < j)))
 | _, _ => .bad
noncomputable def sE : Op2
 | .int i, .int j => aH ((-18446744073709551616 < i /\ i < 18446744073709551616) \/ (-18446744073709551616 < j /\ j < 18446744073709551616)) (.ok (.int (i * j)))
 | _, _ => .bad
@[simp] theorem aWf (i j : Int) : aMe (.int i) (.int j) = .ok (.bl (decide (i < j))) := rfl
@[simp] theorem aUj (i j : Int) : sE (.int i) (.int j) = aH ((-18446744073709551616 < i /\ i < 18446744073709551616) \/ (-18446744073709551616 < j /\ j < 18446744073709551616)) (.ok (.int (i * j))) := rfl
end Pu
variable {na nb : Pu.NB}
namespace Pu
noncomputable section
def aIj (r : Exs) (g : Ex) : Ex := fun st => (r st).bind fun xs => (g st).bind fun y => inI y fun j => aH (xs.length <= big /\ xs.length * j.toNat <= big /\ -4611686018427387904 <= j /\ j < 4611686018427387904) (.ok (.lst (rep j.toNat xs)))
end
end Pu
namespace Pu
noncomputable section
def cG (n : Nat) : List Nat := (toDigits 10 n).map Char.toNat
def nD (x : List Nat) : Nat := x.foldl (fun a c => a * 10 + (c - 48)) 0
def aIk (c : Nat) : Bool := decide (48 <= c) && decide (c <= 57)
def aE7 : D -> R D
 | .int n => aH (0 <= n /\ n < 10 ^ 40) (.ok (.str (cG n.toNat)))
 | _ => .bad
def aD1 : D -> R D
 | .int n => aH (0 <= n /\ n < 10 ^ 40) (.ok (.str (cG n.toNat)))
 | .str x => aH (x.length <= big) (.ok (.str x))
 | _ => .bad
def aMf : D -> R D
 | .str x => aH (x ≠ [] /\ x.all aIk = true /\ x.length <= 640) (.ok (.int (nD x)))
 | _ => .bad
def wG : Mop
 | .str x, [.str y] => .ok (.bl (decide (y.length <= x.length) && (x.take y.length == y)))
 | _, _ => .bad
def bC (y : List Nat) : Nat -> List Nat -> List Nat -> List (List Nat)
 | _, cur, [] => [cur]
 | 0, cur, c :: r => if (c :: r).take y.length = y then cur :: bC y (y.length - 1) [] r else bC y 0 (cur ++ [c]) r
 | k + 1, cur, _ :: r => bC y k cur r
def pG : Mop
 | .str x, [.str y] => aH (y ≠ [] /\ y.all (fun c => decide (c < 256)) = true /\ x.length + 2 <= big) (.ok (.lst ((bC y 0 [] x).map .str)))
 | _, _ => .bad
end
noncomputable def aB3 (i j : Nat) (f : Ex) : NB := fun xss st => (f (zV i xss st)).bind fun d => aH (atom d = true) (.ok (.nx xss (st.set j (some (.v d)))))
noncomputable def aD2 (i : Nat) (g h f : Ex) : NB := fun xss st => (f (zV i xss st)).bind fun d => aH (atom d = true) ((g st).bind fun a => inI a fun j => (h (zV i xss st)).bind fun b => inI b fun k => (ofO (ixN xss.length j)).bind fun m => match xss[m]? with
 | some ys => (ofO (ixN ys.length k)).bind fun l => .ok (.nx (xss.set m (ys.set l d)) st)
 | none => .bad)
abbrev NP := List (List D) -> PSt -> R Fl
def pClose (i : Nat) (b : Bd) : NP := fun xss st => b (zV i xss st)
def vH (a : NB) (b : NP) : NP := fun xss st => (a xss st).bind fun r => match r with
 | .nx xss' st' => b xss' st'
 | .rt d => .ok (.rt d)
def pIf (i : Nat) (c : Ex) (a b : NP) : NP := fun xss st => (c (zV i xss st)).bind fun x => onB x fun q => if q = true then a xss st else b xss st
def aIl (a : NP) (b : Bd) : NP := fun xss st => aAe (a xss st) b
def aMg (a : NP) : NB := fun xss st => (a xss st).bind fun fl => match fl with
 | .rt d => .ok (.rt d)
 | _ => .bad
def aD3 (b : Bd) (hs : List (List String × List String × (String -> Bd))) (e : Bd) : Bd := fun st => match b st with
 | .exc (.exn c [] []) => aCh hs c st
 | .exc _ => .bad
 | .ok (.nx st') => e st'
 | r => r
noncomputable def jD (j : Nat) (it : ItE) (f : Ex) : Ex := fun st => match it st with
 | .ok xs => aH (xs.length <= big) ((cY (tgN j) aZ f (clr [j] st) xs).bind fun ys => .ok (.lst ys))
 | _ => .bad
def sG : List D -> List D -> List D
 | c :: z, d :: y => .tup [c, d] :: sG z y
 | _, _ => []
def vI (f g : Ex) : ItE := fun st => (f st).bind fun x => (g st).bind fun y => match x, y with
 | .lst z, .lst w => .ok (sG z w)
 | _, _ => .bad
end Pu
namespace Pu
noncomputable section
def sH : Bd := cQ (sIf (e2 aMe (aD 1) (e1 eE (aD 0))) (eV (e2 dIx (aD 0) (aD 1))) (eN)) (cQ (sIf (e2 dEq (e1 eE (aD 0)) (eC (.int 0))) (eV (e2 cN (e2 sE (eC (.int 48271)) (aD 1)) (eC (.int 7)))) (eN)) (eV (e2 cN (e2 dIx (aD 0) (e2 vA (e2 sE (aD 1) (eC (.int 7))) (e1 eE (aD 0)))) (e2 sE (eC (.int 7919)) (aD 1)))))
def cA : List D -> R D := fV 2 2 sH
def vJ : Bd := cQ (eF 3 (e2 vA (e2 sE (e2 cN (e2 cN (e2 vA (aD 0) (eC (.int 2147483647))) (e2 sE (eC (.int 7919)) (aD 1))) (eC (.int 104729))) (eC (.int 48271))) (eC (.int 2147483629)))) (cQ (eF 3 (e2 vA (e2 sE (e2 vA (e2 sE (aD 3) (aD 3)) (eC (.int 2147483647))) (eC (.int 69621))) (eC (.int 2147483587)))) (eV (e2 vA (e2 vA (e2 sE (aD 3) (aD 3)) (eC (.int 2147483629))) (aD 2))))
def aR : List D -> R D := fV 3 4 vJ
def mR (st : PSt) : R Fl := (cQ (aH9 3 (e2 vA (aD 0) (aD 1))) (eF 0 (e2 aIh (aD 0) (aD 1)))) st
def pH : Bd := cQ (aAy 3 (jC (aV))) (cQ (aF9 (tgN 4) (nC (aD 2)) (mR)) (sFz [3] (eV (aD 3))))
def iV : List D -> R D := fV 3 5 pH
def uO (st : PSt) : R D := (bM aR (aB (bM cA (aB (aD 0) (aB (e2 cN (eC (.int 2)) (aD 8)) (aV)))) (aB (aD 10) (aB (aD 3) (aV))))) st
def uP (st : PSt) : R D := (cT [10] (tgN 10) (nC (aD 4)) aZ (uO)) st
def uQ (st : PSt) : R D := (e2 vA (e2 cN (aD 8) (aD 10)) (aD 3)) st
def lK (st : PSt) : R D := (cT [10] (tgN 10) (nC (aD 4)) aZ (uQ)) st
def pI (st : PSt) : R D := (bM iV (aB (bM cA (aB (aD 0) (aB (e2 cN (eC (.int 2)) (aD 8)) (aV)))) (aB (aD 3) (aB (aD 4) (aV))))) st
def fL (st : PSt) : R Fl := (cQ (eF 9 (bM aR (aB (bM cA (aB (aD 0) (aB (e2 cN (eC (.int 10)) (aD 8)) (aV)))) (aB (eC (.int 5)) (aB (eC (.int 5)) (aV)))))) (cQ (sIf (e2 dEq (bM aR (aB (bM cA (aB (aD 0) (aB (e2 cN (eC (.int 10)) (aD 8)) (aV)))) (aB (eC (.int 6)) (aB (eC (.int 8)) (aV))))) (eC (.int 0))) (eF 9 (e2 vA (bM cA (aB (aD 0) (aB (e2 cN (eC (.int 10)) (aD 8)) (aV)))) (e2 aK4 (eC (.int 10)) (eC (.int 30))))) (eN)) (aH9 7 (aD 9)))) st
def zW : Bd := cQ (eF 2 (bM cA (aB (aD 0) (aB (eC (.int 0)) (aV))))) (cQ (eF 3 (e2 cN (eC (.int 1)) (bM aR (aB (aD 2) (aB (eC (.int 1)) (aB (aD 1) (aV))))))) (cQ (eF 4 (e2 cN (eC (.int 1)) (bM aR (aB (aD 2) (aB (eC (.int 2)) (aB (eC (.int 3)) (aV))))))) (cQ (eF 5 (cT [8] (tgN 8) (nC (aD 3)) aZ (uP))) (cQ (eF 6 (bM aR (aB (aD 2) (aB (eC (.int 3)) (aB (eC (.int 6)) (aV)))))) (cQ (sIf (e2 dEq (aD 6) (eC (.int 0))) (eF 5 (cT [8] (tgN 8) (nC (aD 3)) aZ (lK))) (eN)) (cQ (sIf (e2 dGt (aD 6) (eC (.int 2))) (eF 5 (cT [8] (tgN 8) (nC (aD 3)) aZ (pI))) (eN)) (cQ (aAy 7 (jC (aV))) (cQ (aF9 (tgN 8) (nC (aD 3)) (fL)) (sFz [7] (eV (jC (aB (aD 5) (aB (aD 7) (aV))))))))))))))
def mF : List D -> R D := fV 2 11 zW
def pX (st : PSt) : R D := (e1 aE7 (aD 4)) st
def pY (st : PSt) : R D := (e2 cN (jC (aB (e1 aE7 (aD 2)) (aV))) (cT [4] (tgN 4) (itE (aD 3)) aZ (pX))) st
def sI : Bd := eV (cT [2, 3] (tgT [2, 3]) (vI (aD 1) (aD 0)) aZ (pY))
def jP : List D -> R D := fV 2 5 sI
def uR (st : PSt) : R D := (e1 aE7 (aD 3)) st
def zX : Bd := cQ (eF 2 (eMt uN (eC (.str [32])) (aB (cT [3] (tgN 3) (itE (aD 1)) aZ (uR)) (aV)))) (eV (aHc (aB (e1 aD1 (aD 0)) (aB (eC (.str [58, 32])) (aB (e1 aD1 (aD 2)) (aV))))))
def oK : List D -> R D := fV 2 4 zX
def pZ (st : PSt) : R D := (bM oK (aB (aD 1) (aB (aD 2) (aV)))) st
def sJ : Bd := eV (eMt uN (eC (.str [59, 32])) (aB (cT [1, 2] (tgT [1, 2]) (vI (e1 (yI "Machine" "ranks") (aD 0)) (e1 (yI "Machine" "steps") (aD 0))) aZ (pZ)) (aV)))
def jQ : List D -> R D := fV 1 3 sJ
def pJ (st : PSt) : R D := (e2 cN (e2 cN (e2 dIx (aD 1) (eC (.int 0))) (eC (.str [58, 32]))) (eMt uN (eC (.str [32])) (aB (eSl (aD 1) (wD (eC (.int 1))) (wC)) (aV)))) st
def zY : Bd := eV (eMt uN (eC (.str [59, 32])) (aB (cT [1] (tgN 1) (itE (aD 0)) aZ (pJ)) (aV)))
def dJ : List D -> R D := fV 1 2 zY
def qC : Bd := cQ (sIf (eOr (e2 dEq (aD 0) (eC (.str []))) (eOr (e2 dGt (e1 eE (aD 0)) (eC (.int 30))) (e2 dNe (eMt vB (aD 0) (aB (eC (.str [48, 49, 50, 51, 52, 53, 54, 55, 56, 57])) (aV))) (eC (.str []))))) (eV (eC (.bl false))) (eN)) (eV (eOr (e2 dEq (aD 0) (eC (.str [48]))) (wB (eMt wG (aD 0) (aB (eC (.str [48])) (aV))))))
def gZ : List D -> R D := fV 1 1 qC
def uT : Bd := cQ (sIf (eNX (wB (bM gZ (aB (aD 0) (aV))))) (mQ "NoText" (aB (eC (.str [97, 32, 110, 117, 109, 98, 101, 114, 32, 105, 115, 32, 111, 110, 101, 32, 116, 111, 32, 116, 104, 105, 114, 116, 121, 32, 102, 105, 103, 117, 114, 101, 115, 44, 32, 119, 105, 116, 104, 111, 117, 116, 32, 97, 32, 110, 111, 117, 103, 104, 116, 32, 97, 104, 101, 97, 100])) (aV))) (eN)) (sNX (eV (e1 aMf (aD 0))))
def fD : List D -> R D := fV 1 1 uT
def lL (st : PSt) : R D := (gP fD (aB (aD 2) (aV))) st
def zZ : Bd := cQ (sNX (eF 1 (eMt aCz (aD 0) (aB (eC (.str [58, 32])) (aV))))) (cQ (sIf (eNX (e2 dEq (e2 dIx (aD 1) (eC (.int 1))) (eC (.str [])))) (mQ "NoText" (aB (eC (.str [97, 32, 114, 111, 111, 109, 32, 105, 115, 32, 105, 116, 115, 32, 114, 97, 110, 107, 44, 32, 97, 32, 99, 111, 108, 111, 110, 32, 97, 110, 100, 32, 97, 32, 98, 108, 97, 110, 107, 44, 32, 97, 110, 100, 32, 116, 104, 101, 32, 114, 111, 111, 109, 115, 32, 116, 111, 32, 119, 104, 105, 99, 104, 32, 105, 116, 115, 32, 108, 101, 116, 116, 101, 114, 115, 32, 108, 101, 97, 100])) (aV))) (eN)) (eV (aF8 (aB (gP fD (aB (e2 dIx (aD 1) (eC (.int 0))) (aV))) (aB (jD 2 (itE (eMt pG (e2 dIx (aD 1) (eC (.int 2))) (aB (eC (.str [32])) (aV)))) lL) (aV))))))
def fW : List D -> R D := fV 1 3 zZ
def iB : Bd := eV (vC (eB aE1 (aD 0)) (vC (e2 dGe (e1 eE (aD 0)) (eC (.int 1))) (e2 dLe (e1 eE (aD 0)) (aD 1))))
def bT : List D -> R D := fV 2 2 iB
def qT : Bd := eV (vC (eB isIn (aD 0)) (wB (eB aK6 (aD 0))))
def gQ : List D -> R D := fV 1 1 qT
def qU : Bd := eV (vC (bM gQ (aB (aD 0) (aV))) (vC (e2 dGe (aD 0) (eC (.int 0))) (e2 aMe (aD 0) (aD 1))))
def jE : List D -> R D := fV 2 2 qU
def nQ (st : PSt) : R D := (bM jE (aB (aD 3) (aB (aD 2) (aV)))) st
def wH : Bd := eV (vC (e2 dEq (e1 eE (aD 0)) (aD 1)) (e1 rW (cT [3] (tgN 3) (itE (aD 0)) aZ (nQ))))
def sO : List D -> R D := fV 3 4 wH
def iW (st : PSt) : R D := (bM bT (aB (aD 1) (aB (eC (.int 3)) (aV)))) st
def iY (st : PSt) : R D := (bM sO (aB (aD 1) (aB (e1 eE (e2 dIx (aD 0) (eC (.int 0)))) (aB (e1 eE (aD 0)) (aV))))) st
def mG : Bd := cQ (sIf (wB (bM bT (aB (aD 0) (aB (eC (.int 8)) (aV))))) (eV (eC (.bl false))) (eN)) (cQ (sIf (wB (e1 rW (cT [1] (tgN 1) (itE (aD 0)) aZ (iW)))) (eV (eC (.bl false))) (eN)) (eV (e1 rW (cT [1] (tgN 1) (itE (aD 0)) aZ (iY)))))
def fX : List D -> R D := fV 1 2 mG
def pK (st : PSt) : R D := (vC (bM gQ (aB (aD 2) (aV))) (e2 dGe (aD 2) (eC (.int 0)))) st
def sS : Bd := cQ (sIf (eOr (wB (eB aE1 (aD 0))) (e2 dNe (e1 eE (aD 0)) (aD 1))) (eV (eC (.bl false))) (eN)) (eV (e1 rW (cT [2] (tgN 2) (itE (aD 0)) aZ (pK))))
def oM : List D -> R D := fV 2 3 sS
def cO : Bd := cQ (sIf (eNX (wB (bM fX (aB (aD 1) (aV))))) (mQ "NoMachine" (aB (eC (.str [115, 116, 101, 112, 115, 32, 97, 114, 101, 32, 111, 110, 101, 32, 116, 111, 32, 101, 105, 103, 104, 116, 32, 108, 105, 115, 116, 115, 32, 111, 102, 32, 111, 110, 101, 32, 116, 111, 32, 116, 104, 114, 101, 101, 32, 114, 111, 111, 109, 115, 44, 32, 97, 108, 108, 32, 97, 115, 32, 108, 111, 110, 103])) (aV))) (eN)) (cQ (sIf (eNX (wB (bM oM (aB (aD 2) (aB (e1 eE (aD 1)) (aV)))))) (mQ "NoMachine" (aB (eC (.str [114, 97, 110, 107, 115, 32, 97, 114, 101, 32, 97, 32, 108, 105, 115, 116, 32, 119, 105, 116, 104, 32, 97, 32, 119, 104, 111, 108, 101, 32, 110, 117, 109, 98, 101, 114, 32, 102, 114, 111, 109, 32, 48, 32, 111, 110, 32, 102, 111, 114, 32, 101, 97, 99, 104, 32, 114, 111, 111, 109])) (aV))) (eN)) (cQ (sNX (aAz 0 "Machine" "steps" (e1 rY (aD 1)))) (cQ (sNX (aAz 0 "Machine" "ranks" (e1 aHe (aD 2)))) (cQ (sNX (aAz 0 "Machine" "many" (eAt (e1 eE (aD 1))))) (sNX (aAz 0 "Machine" "letters" (eAt (e1 eE (e2 dIx (aD 1) (eC (.int 0)))))))))))
def bD : List D -> R D := rZ "Machine" 2 4 cO
def bN (st : PSt) : R D := (gP fW (aB (aD 2) (aV))) st
def iC (st : PSt) : R D := (e2 dIx (aD 3) (eC (.int 0))) st
def iD (st : PSt) : R D := (e2 dIx (aD 3) (eC (.int 1))) st
def gU : Bd := cQ (sIf (eNX (wB (eB aK5 (aD 0)))) (mQ "NoText" (aB (eC (.str [97, 32, 109, 97, 99, 104, 105, 110, 101, 32, 105, 115, 32, 114, 101, 97, 100, 32, 102, 114, 111, 109, 32, 97, 32, 116, 101, 120, 116])) (aV))) (eN)) (cQ (eF 1 (jD 2 (itE (eMt pG (aD 0) (aB (eC (.str [59, 32])) (aV)))) bN)) (eV (gP bD (aB (cT [3] (tgN 3) (itE (aD 1)) aZ (iD)) (aB (cT [3] (tgN 3) (itE (aD 1)) aZ (iC)) (aV))))))
def cB : List D -> R D := fV 1 4 gU
def mH : Bd := cQ (eF 1 (jC (aV))) (cQ (aD3 (eF 3 (gP cB (aB (aD 0) (aV)))) ((["NoText"], ["NoMachine"], hAs 2 (eF 1 (jC (aB (eC (.str [116, 101, 120, 116])) (aB (e1 (aFb ["NoMachine", "NoText"] []) (aD 2)) (aB (e1 (aFb ["NoMachine"] ["NoText"]) (aD 2)) (aV))))))) :: (["NoMachine"], ["NoText"], hAs 2 (eF 1 (jC (aB (eC (.str [109, 97, 99, 104, 105, 110, 101])) (aB (e1 (aFb ["NoMachine", "NoText"] []) (aD 2)) (aB (e1 (aFb ["NoText"] ["NoMachine"]) (aD 2)) (aV))))))) :: []) (eF 1 (jC (aB (e1 (yI "Machine" "steps") (aD 3)) (aB (e1 (yI "Machine" "ranks") (aD 3)) (aV)))))) (eV (aD 1)))
def cR : List D -> R D := fV 1 4 mH
def uU : Bd := vG 0 (aD 0) (aMg (vH (aB3 0 2 (bM aR (aB (aD 1) (aB (eC (.int 1)) (aB (e1 eE (aD 0)) (aV)))))) (vH (aB3 0 3 (bM aR (aB (aD 1) (aB (eC (.int 2)) (aB (e1 eE (e2 dIx (aD 0) (aD 2))) (aV)))))) (vH (aB3 0 4 (e2 dIx (e2 dIx (aD 0) (aD 2)) (aD 3))) (vH (aHd 5 (jC (aB (e2 cN (eC (.str [48])) (aD 4)) (aB (e2 cN (eC (.str [43])) (aD 4)) (aB (e2 cN (eC (.str [45])) (aD 4)) (aB (e2 cN (aD 4) (eC (.str [120]))) (aB (eC (.str [])) (aB (e2 cN (eC (.str [32])) (aD 4)) (aB (e2 cN (aD 4) (eC (.str [32]))) (aB (e2 aM7 (eC (.str [57])) (eC (.int 31))) (aB (e2 cN (aD 4) (eC (.str [58]))) (aB (e2 cN (aD 4) (eC (.str [59]))) (aV))))))))))))) (vH (aHd 5 (e2 cN (aD 5) (jC (aB (e2 cN (e2 cN (eSl (aD 4) (wC) (wD (eC (.int 1)))) (eC (.str [95]))) (aD 4)) (aB (e2 cN (aD 4) (eC (.str [46, 48]))) (aB (e2 cN (aD 4) (eC (.str [101, 49]))) (aB (e2 cN (e2 cN (eC (.str [43])) (aD 4)) (eC (.str [95]))) (aV)))))))) (vH (aD2 0 (aD 2) (aD 3) (e2 dIx (aD 5) (bM aR (aB (aD 1) (aB (eC (.int 3)) (aB (e1 eE (aD 5)) (aV))))))) (pClose 0 (eV (bM dJ (aB (aD 0) (aV))))))))))))
def lM : List D -> R D := fV 2 7 uU
def uV (st : PSt) : R D := (bM dJ (aB (jC (aB (aD 6) (aV))) (aV))) st
def uW (st : PSt) : R D := (bM dJ (aB (jC (aB (aD 6) (aV))) (aV))) st
def aA0 : Bd := cQ (eF 2 (bM dJ (aB (aD 0) (aV)))) (cQ (eF 3 (bM aR (aB (aD 1) (aB (eC (.int 1)) (aB (e1 eE (aD 0)) (aV)))))) (cQ (eF 4 (eMt uN (eC (.str [59, 32])) (aB (e2 cN (cT [6] (tgN 6) (itE (eSl (aD 0) (wC) (wD (aD 3)))) aZ (uV)) (jC (aB (eC (.str [])) (aV)))) (aV)))) (cQ (eF 5 (eMt uN (eC (.str [59, 32])) (aB (e2 cN (jC (aB (eC (.str [])) (aV))) (cT [6] (tgN 6) (itE (eSl (aD 0) (wD (e2 cN (aD 3) (eC (.int 1)))) (wC))) aZ (uW))) (aV)))) (cQ (eF 6 (e2 dIx (aD 0) (aD 3))) (cQ (eF 7 (jC (aB (eC (.str [])) (aB (e2 cN (aD 2) (eC (.str [59, 32]))) (aB (e2 cN (eC (.str [59, 32])) (aD 2)) (aB (e2 cN (aD 2) (eC (.str [59]))) (aB (e2 cN (aD 2) (eC (.str [32]))) (aB (e2 cN (eC (.str [32])) (aD 2)) (aB (e2 cN (aD 2) (eC (.str [126]))) (aB (e2 cN (e2 cN (aD 2) (eC (.str [59]))) (aD 2)) (aV))))))))))) (cQ (eF 7 (e2 cN (aD 7) (jC (aB (e2 cN (e2 cN (aD 4) (e2 dIx (aD 6) (eC (.int 0)))) (aD 5)) (aB (e2 cN (e2 cN (e2 cN (e2 cN (aD 4) (e2 dIx (aD 6) (eC (.int 0)))) (eC (.str [58]))) (e2 dIx (aD 6) (eC (.int 1)))) (aD 5)) (aB (e2 cN (e2 cN (e2 cN (aD 4) (e2 dIx (aD 6) (eC (.int 0)))) (eC (.str [32, 58, 32, 48]))) (aD 5)) (aV))))))) (eV (e2 dIx (aD 7) (bM aR (aB (aD 1) (aB (eC (.int 4)) (aB (e1 eE (aD 7)) (aV)))))))))))))
def oN : List D -> R D := fV 2 8 aA0
def iJ (st : PSt) : R D := (e2 cN (aD 4) (aIj (aB (eC (.str [48])) (aV)) (e2 aAx (eC (.int 5)) (e1 eE (aD 4))))) st
def iK (st : PSt) : R D := (e1 aCy (e2 dIx (aD 0) (eC (.int 0)))) st
def oO : Bd := vG 0 (aD 0) (aMg (vH (aB3 0 2 (bM aR (aB (aD 1) (aB (eC (.int 1)) (aB (e1 eE (aD 0)) (aV)))))) (vH (aHd 3 (bM aR (aB (aD 1) (aB (eC (.int 3)) (aB (eC (.int 4)) (aV)))))) (aIl (pIf 0 (e2 dEq (aD 3) (eC (.int 0))) (vH (aD2 0 (aD 2) (e2 cN (eC (.int 1)) (bM aR (aB (aD 1) (aB (eC (.int 2)) (aB (e2 aAx (e1 eE (e2 dIx (aD 0) (aD 2))) (eC (.int 1))) (aV)))))) (e1 aE7 (e2 cN (e1 eE (aD 0)) (bM aR (aB (aD 1) (aB (eC (.int 4)) (aB (eC (.int 3)) (aV)))))))) (pClose 0 (eN))) (pIf 0 (vC (e2 dEq (aD 3) (eC (.int 1))) (e2 dGt (e1 eE (aD 0)) (eC (.int 1)))) (vH (aK7 (aD 2) (eC (.str [48]))) (pClose 0 (eN))) (pClose 0 (sIf (e2 dEq (aD 3) (eC (.int 2))) (eF 0 (cT [4] (tgN 4) (itE (aD 0)) aZ (iJ))) (eF 0 (e2 cN (aD 0) (cT [5] (tgN 5) (nC (e2 aAx (eC (.int 9)) (e1 eE (aD 0)))) aZ (iK)))))))) (eV (bM dJ (aB (aD 0) (aV))))))))
def dN : List D -> R D := fV 2 6 oO
def aIm (st : PSt) : R D := (e1 aCy (aD 7)) st
def aE8 (st : PSt) : R Fl := (cQ (eF 6 (bM cA (aB (aD 0) (aB (aD 3) (aV))))) (cQ (sIf (e2 dNe (bM cR (aB (bM lM (aB (aD 2) (aB (aD 6) (aV)))) (aV))) (jC (aB (eC (.str [116, 101, 120, 116])) (aB (eC (.bl true)) (aB (eC (.bl false)) (aV)))))) (eV (eC (.bl false))) (eN)) (cQ (sIf (e2 dNe (bM cR (aB (bM oN (aB (aD 2) (aB (aD 6) (aV)))) (aV))) (jC (aB (eC (.str [116, 101, 120, 116])) (aB (eC (.bl true)) (aB (eC (.bl false)) (aV)))))) (eV (eC (.bl false))) (eN)) (cQ (sIf (e2 dNe (bM cR (aB (bM dN (aB (aD 2) (aB (aD 6) (aV)))) (aV))) (jC (aB (eC (.str [109, 97, 99, 104, 105, 110, 101])) (aB (eC (.bl true)) (aB (eC (.bl false)) (aV)))))) (eV (eC (.bl false))) (eN)) (sIf (e2 dNe (bM cR (aB (e2 dIx (jC (aB (eC .non) (aB (eC (.int 7)) (aB (jC (aV)) (aB (aF8 (aB (eC (.str [49, 58, 32, 48])) (aV))) (aB (eC (.bl true)) (aV))))))) (bM aR (aB (aD 6) (aB (eC (.int 6)) (aB (eC (.int 5)) (aV)))))) (aV))) (jC (aB (eC (.str [116, 101, 120, 116])) (aB (eC (.bl true)) (aB (eC (.bl false)) (aV)))))) (eV (eC (.bl false))) (eN)))))) st
def aRm : Bd := cQ (aSw (tgT [4, 5]) (bM mF (aB (aD 0) (aB (eC (.int 8)) (aV))))) (cQ (eF 1 (bM (pNX bD) (aB (cT [7] (tgN 7) (itE (aD 4)) aZ (aIm)) (aB (e1 aCy (aD 5)) (aV))))) (cQ (eF 2 (bM jP (aB (aD 4) (aB (aD 5) (aV))))) (cQ (sIf (eOr (e2 dNe (bM jQ (aB (aD 1) (aV))) (bM dJ (aB (aD 2) (aV)))) (e2 dNe (bM cR (aB (bM dJ (aB (aD 2) (aV))) (aV))) (jC (aB (aD 4) (aB (aD 5) (aV)))))) (eV (eC (.bl false))) (eN)) (cQ (aF9 (tgN 3) (aPn (eC (.int 18)) (e2 aCw (eC (.int 22)) (e2 aCx (eC (.int 58)) (e1 eE (aD 0))))) (aE8)) (eV (vC (e2 dEq (e1 (yI "Machine" "steps") (aD 1)) (aD 4)) (e2 dEq (e1 (yI "Machine" "ranks") (aD 1)) (aD 5))))))))
def aD4 : List D -> R D := fV 1 8 aRm
end
end Pu
namespace Pu
@[simp] theorem aUk (x : D) (f : α -> R β) : (R.exc x : R α).bind f = .exc x := rfl
@[simp] theorem aWg : (R.bad : R α).nox = .bad := rfl
@[simp] theorem aWh (x : D) : (R.exc x : R α).nox = .bad := rfl
@[simp] theorem aWi (x : D) (f : PSt -> R Fl) : aAe (.exc x) f = .exc x := rfl
@[simp] theorem aZ0 (b : Bd) (st : PSt) : sNX b st = (b st).nox := rfl
@[simp] theorem aZ1 (f : Ex) (st : PSt) : eNX f st = (f st).nox := rfl
@[simp] theorem aZ2 (p : List D -> R D) (ds : List D) : pNX p ds = (p ds).nox := rfl
@[simp] theorem aUl (c : String) (r : Exs) (st : PSt) : mQ c r st = (r st).nox.bind fun xs => aH (xs.length <= 100) (.exc (.exn c [] [])) := rfl
@[simp] theorem aUm (p : List D -> R D) (r : Exs) (st : PSt) : gP p r st = (r st).nox.bind p := rfl
@[simp] theorem aY1 (b : Bd) (hs : List (List String × List String × (String -> Bd))) (st : PSt) : aYy b hs st = (match b st with | .exc (.exn c [] []) => aCh hs c st | .exc _ => .bad | r => r) := rfl
@[simp] theorem aUn (yes no : List String) (b : String -> Bd) (hs : List (List String × List String × (String -> Bd))) (c : String) (st : PSt) : aCh ((yes, no, b) :: hs) c st = if c ∈ yes then (b c st).nox else if c ∈ no then aCh hs c st else .bad := rfl
@[simp] theorem aZ3 (i : Nat) (b : Bd) (c : String) (st : PSt) : hAs i b c st = (b (st.set i (some (.v (.exn c [] []))))).bind fun fl => .ok (yL i fl) := rfl
@[simp] theorem aUo (i : Nat) (st : PSt) : yL i (.nx st) = .nx (st.set i none) := rfl
@[simp] theorem aWj (yes no : List String) (c : String) (n : List String) (d : List D) : aFb yes no (.exn c n d) = if c ∈ yes then .ok (.bl true) else if c ∈ no then .ok (.bl false) else .bad := rfl
@[simp] theorem aFe (x : List D) : rW (.lst x) = (bls x).bind fun l => .ok (.bl (l.all id)) := rfl
@[simp] theorem aUp (x : List D) : aCy (.lst x) = .ok (.lst x) := rfl
@[simp] theorem aUq (x : List D) : aCy (.tup x) = .ok (.lst x) := rfl
theorem aMh {x : List D} {l : List Bool} (h : x = l.map D.bl) (ht : ∀ b ∈ l, b = true) : rW (.lst x) = .ok (.bl true) := by
 subst h
 rw [aFe, aE6]
 have : l.all id = true := List.all_eq_true.mpr fun b hb => by simp [ht b hb]
 simp [this]
end Pu
namespace Pu
@[simp] theorem aY2 (x y : List Nat) : aCz (.str x) [.str y] = aH (y ≠ [] /\ x.length <= big) (match kO x y 0 with
  | some i => .ok (.tup [.str (x.take i), .str y, .str (x.drop (i + y.length))])
  | none => .ok (.tup [.str x, .str [], .str []])) := rfl
@[simp] theorem aUr (r : Exs) (st : PSt) : aHc r st = (r st).bind fun xs => (oJ xs).bind fun l => aH (l.flatten.length <= big) (.ok (.str l.flatten)) := rfl
@[simp] theorem aUs : oJ [] = .ok [] := rfl
@[simp] theorem aT2 (s : List Nat) (r : List D) : oJ (.str s :: r) = (oJ r).bind fun x => .ok (s :: x) := rfl
@[simp] theorem aY3 (j : Nat) (f : Ex) (xss : List (List D)) (st : PSt) : aHd j f xss st = (f st).bind fun d => .ok (.nx xss (st.set j (some (.v d)))) := rfl
@[simp] theorem aY4 (f : Ex) (xss : List (List D)) (st : PSt) : aYz f xss st = (f st).bind fun d => .ok (.rt d) := rfl
@[simp] theorem aZ4 (c : Ex) (a b : NB) (xss : List (List D)) (st : PSt) : nIf c a b xss st = (c st).bind fun x => onB x fun q => if q = true then a xss st else b xss st := rfl
@[simp] theorem aY5 (g f : Ex) (xss : List (List D)) (st : PSt) : aK7 g f xss st = (g st).bind fun x => inI x fun j => (f st).bind fun d => (ofO (ixN xss.length j)).bind fun k => match xss[k]? with
 | some ys => aH (ys.length < big) (.ok (.nx (xss.set k (ys ++ [d])) st))
 | none => .bad := rfl
end Pu
namespace Pu
theorem cI {a b : Bd} {st : PSt} {r : R Fl} (h : a st = .ok (.nx st')) (h2 : b st' = r) : cQ a b st = r := by
 rw [aE3, h]
 exact h2
theorem cU {a b : Bd} {st : PSt} {r : R Fl} (h : a st = .ok (.nx st)) (h2 : b st = r) : cQ a b st = r := cI h h2
theorem aE9 {a b : Bd} {st : PSt}  (h : a st = .ok (.rt d)) : cQ a b st = .ok (.rt d) := by
 rw [aE3, h]
 rfl
theorem fG {b : Bd}  {d : D} (h : ds.length = np) (hb : b (ds.map (fun d => some (.v d)) ++ List.replicate (n - np) none) = .ok (.rt d)) : fV np n b ds = .ok d := by
 rw [aE5 h, hb]
 rfl
end Pu
namespace Pu
theorem aFf (n : Nat) : gH 0 n = (List.range n).map fun (k : Nat) => D.int (k : Int) := by
 unfold gH
 refine List.map_congr_left fun k _ => ?_
 rw [Int.zero_add]
theorem kZ {tg : Tg} {c f : Ex} {st : PSt} (g : D -> D) : ∀ (ds : List D), (∀ d ∈ ds, ∃ s1, tg d st = .ok s1 /\ c s1 = .ok (.bl true) /\ f s1 = .ok (g d)) -> cY tg c f st ds = .ok (ds.map g)
 | [], _ => rfl
 | d :: ds, h => by
  obtain ⟨s1, e1, e2, e3⟩ := h d mem_cons_self
  rw [aB1, e1]
  simp only [aN, e2, vD, if_true, e3, kZ g ds fun d hd => h d (mem_cons_of_mem _ hd), map_cons]
end Pu
namespace Pu
theorem dD {st : PSt}  (h : f st = .ok d) : eF i f st = .ok (.nx (st.set i (some (.v d)))) := by rw [aE4, h, aN]
theorem aPv {st : PSt}  (h : f st = .ok (.lst xs)) : aAy i f st = .ok (.nx (st.set i (some (.o .l xs)))) := by rw [aM9, h, aN]
theorem bJ {st : PSt}  {x : R D} (h : r st = .ok ds) (hp : p ds = x) : bM p r st = x := by rw [aM8, h, aN, hp]
theorem aQ {op : Op2}  {st : PSt} {x y : D}  (hf : f st = .ok x) (hg : g st = .ok y) (h : op x y = z) : e2 op f g st = z := by rw [aVj, hf, aN, hg, aN, h]
theorem aFg {c : Ex} {a b : Bd} {st : PSt} {r : R Fl} (h : c st = .ok (.bl true)) (ha : a st = r) : sIf c a b st = r := by rw [aB2, h, aN, vD, if_pos rfl, ha]
theorem vK {c : Ex} {a b : Bd} {st : PSt} {r : R Fl} (h : c st = .ok (.bl false)) (hb : b st = r) : sIf c a b st = r := by rw [aB2, h, aN, vD, if_neg Bool.false_ne_true, hb]
theorem aHf {st : PSt} {p : Bool} (hf : f st = .ok (.bl p)) (hg : p = true -> g st = .ok (.bl q)) : vC f g st = .ok (.bl (p && q)) := by
 rw [aE2, hf, aN, vD]
 cases p with
 | true => rw [if_pos rfl, hg rfl]; rfl
 | false => rfl
theorem aIn {st : PSt} {p : Bool} (hf : f st = .ok (.bl p)) (hg : p = false -> g st = .ok (.bl q)) : eOr f g st = .ok (.bl (p || q)) := by
 rw [aSx, hf, aN, vD]
 cases p with
 | true => rfl
 | false => rw [if_neg Bool.false_ne_true, hg rfl]; rfl
theorem yM {st : PSt} {p : Bool} (hf : f st = .ok (.bl p)) : wB f st = .ok (.bl (!p)) := by rw [aAj, hf, aN, vD]
theorem lA {st : PSt}  (h : f st = .ok d) : eV f st = .ok (.rt d) := by rw [qR, h, aN]
theorem aMi {tg : Tg}   {st : PSt}  {r : R Fl} (h : it st = .ok xs) (hr : forR tg L xs st = r) : aF9 tg it L st = r := by rw [aPt, h, aN, hr]
theorem aF {st : PSt} {d : D}  (h : f st = .ok d) (hr : r st = .ok ds) : aB f r st = .ok (d :: ds) := by rw [wF, h, aN, hr, aN]
theorem eX {st : PSt}  (h : r st = .ok ds) (hl : ds.length <= 1000 := by exact of_decide_eq_true rfl) : jC r st = .ok (.lst ds) := by rw [aPo, h, aN, aG (dW (Nat.le_trans hl (by decide)))]
theorem aMj {i j : Int} (h : 0 < j) : vA (.int i) (.int j) = .ok (.int (i % j)) := aG h
theorem aHg (i j : Int) : dEq (.int i) (.int j) = .ok (.bl (decide (i = j))) := by
 have : (i == j) = decide (i = j) := by by_cases h : i = j <;> simp [h]
 rw [<- this]
 exact aG ⟨zero_le 64, rfl, rfl⟩
theorem aT3 {st : PSt}   (h : f st = .ok d) (hs : st[i]? = some (some (.o .l xs))) (hl : xs.length < 1000000) : aH9 i f st = .ok (.nx (st.set i (some (.o .l (xs ++ [d]))))) := by
 rw [aPr, h, aN, hs]
 exact aG (aH6 (Nat.lt_trans hl (by decide)))
theorem aRn {st : PSt}  (h : f st = .ok (.int n)) (hn : n <= 1000000) : nC f st = .ok ((List.range n).map fun (k : Nat) => D.int (k : Int)) := by
 rw [aPp, h, aN, <- aFf]
 exact aG ⟨aAi (by omega), wA (by omega)⟩
theorem jR {E C : Ex} {is : List Nat} {tg : Tg}  {st : PSt}  (h : it st = .ok xs) (hl : xs.length <= 1000000) (hc : cY tg C E (clr is st) xs = .ok ys) : cT is tg it C E st = .ok (.lst ys) := by
 rw [aMa, h, aN, aG (dW (Nat.le_trans hl (by decide))), hc, aN]
theorem aT4 {tg : Tg}  {d : D}  {st s1 s2 : PSt} {r : R Fl} (ht : tg d st = .ok s1) (hL : L s1 = .ok (.nx s2)) (hr : forR tg L ds s2 = r) : forR tg L (d :: ds) st = r := by
 rw [yJ, ht, aN, hL]
 exact hr
theorem rJ {i : Int}  (h : atI xs i = some d) : dIx (.lst xs) (.int i) = .ok d := by
 show ofO (atI xs i) = _
 rw [h]
 rfl
theorem aD5 {r : R D} {p : Bool} (h : r = .ok (.bl p)) (e : p = q) : r = .ok (.bl q) := by rw [h, e]
theorem sU {st : PSt}  (h : f st = .ok (.lst xs)) : itE f st = .ok xs := by rw [aSz, h, aN]
end Pu
namespace Pu
def nats (l : List Nat) : List D := l.map fun (x : Nat) => D.int (x : Int)
structure Mch (S : List (List Nat)) (rk : List Nat) (c : Nat) : Prop where
 one : 1 <= S.length
 most : S.length <= 8
 c1 : 1 <= c
 c3 : c <= 3
 row : ∀ r ∈ S, r.length = c /\ ∀ x ∈ r, x < S.length
 rks : rk.length = S.length
def stD (S : List (List Nat)) : List D := S.map fun r => D.lst (nats r)
theorem aFh {tg : Tg} {c f : Ex} {st : PSt} {P : D -> D -> Prop} : ∀ (ds : List D), (∀ d ∈ ds, ∃ s1 y, tg d st = .ok s1 /\ c s1 = .ok (.bl true) /\ f s1 = .ok y /\ P d y) -> ∃ ys, cY tg c f st ds = .ok ys /\ ys.length = ds.length /\ ∀ y ∈ ys, ∃ d ∈ ds, P d y
 | [], _ => ⟨[], rfl, rfl, fun _ h => nomatch h⟩
 | d :: ds, h => by
  obtain ⟨s1, y, e1, e2, e3, e4⟩ := h d mem_cons_self
  obtain ⟨ys, e5, e6, e7⟩ := aFh ds fun d hd => h d (mem_cons_of_mem _ hd)
  refine ⟨y :: ys, ?_, by simp [e6], fun z hz => ?_⟩
  ·rw [aB1, e1]
   simp [e2, e3, e5]
  ·rcases List.mem_cons.mp hz with rfl | hz
   ·exact ⟨d, mem_cons_self, e4⟩
   ·obtain ⟨d', h1, h2⟩ := e7 z hz
    exact ⟨d', mem_cons_of_mem _ h1, h2⟩
theorem aB4 {lo : Int}   (h : d ∈ gH lo n) : ∃ k : Nat, k < n /\ d = .int (lo + k) := by
 unfold gH at h
 obtain ⟨k, h1, h2⟩ := List.mem_map.mp h
 exact ⟨k, List.mem_range.mp h1, h2.symm⟩
theorem aIo : ∀ (ys : List D) (c n : Nat), (∀ y ∈ ys, ∃ r : List Nat, y = .lst (nats r) /\ r.length = c /\ ∀ x ∈ r, x < n) -> ∃ S : List (List Nat), ys = stD S /\ ∀ r ∈ S, r.length = c /\ ∀ x ∈ r, x < n
 | [], _, _, _ => ⟨[], rfl, fun _ h => nomatch h⟩
 | y :: ys, c, n, h => by
  obtain ⟨r, rfl, h1⟩ := h y mem_cons_self
  obtain ⟨S, rfl, h2⟩ := aIo ys c n fun y hy => h y (mem_cons_of_mem _ hy)
  refine ⟨r :: S, rfl, fun r' hr => ?_⟩
  rcases List.mem_cons.mp hr with rfl | hr
  ·exact h1
  ·exact h2 r' hr
theorem aIp : ∀ (ys : List D) (n : Int), (∀ y ∈ ys, ∃ i : Int, y = .int i /\ 0 <= i /\ i < n) -> ∃ r : List Nat, ys = nats r /\ ∀ x ∈ r, (x : Int) < n
 | [], _, _ => ⟨[], rfl, fun _ h => nomatch h⟩
 | y :: ys, n, h => by
  obtain ⟨i, rfl, h0, h1⟩ := h y mem_cons_self
  obtain ⟨r, rfl, h2⟩ := aIp ys n fun y hy => h y (mem_cons_of_mem _ hy)
  refine ⟨i.toNat :: r, ?_, fun x hx => ?_⟩
  ·unfold nats; rw [map_cons, toNat_of_nonneg h0]
  ·rcases List.mem_cons.mp hx with rfl | hx
   ·rw [toNat_of_nonneg h0]; exact h1
   ·exact h2 x hx
theorem aFi {E : Ex} {st : PSt} {v : Nat} {P : D -> Prop} (hv : st[v]? = some (some (.v (.int n)))) (hn : n <= 100000) (hE : ∀ k : Nat, k < n -> ∃ y, E ((st.set j none).set j (some (.v (.int k)))) = .ok y /\ P y) :
  ∃ ys, cT [j] (tgN j) (nC (aD v)) aZ E st = .ok (.lst ys) /\ ys.length = n /\ ∀ y ∈ ys, P y := by
 obtain ⟨ys, e1, e2, e3⟩ := aFh (tg := tgN j) (c := aZ) (f := E) (st := st.set j none) (P := fun _ y => P y) (gH 0 n) (fun d hd => by
  obtain ⟨k, hk, rfl⟩ := aB4 hd
  obtain ⟨y, h1, h2⟩ := hE k hk
  rw [Int.zero_add]
  exact ⟨_, y, rfl, rfl, h1, h2⟩)
 rw [lJ] at e2
 refine ⟨ys, ?_, e2, fun y hy => let ⟨_, _, h⟩ := e3 y hy; h⟩
 simp [hv, show (n : Int) <= (big : Int) from wA (by omega), lJ, show n <= big from dW (by omega), e1]
theorem aK8 {E : Ex} {st : PSt} {v : Nat} {m : Int} (hv : st[v]? = some (some (.v (.int n)))) (hn : n <= 100000) (hE : ∀ k : Nat, k < n -> ∃ i, E ((st.set j none).set j (some (.v (.int k)))) = .ok (.int i) /\ 0 <= i /\ i < m) :
  ∃ r, cT [j] (tgN j) (nC (aD v)) aZ E st = .ok (.lst (nats r)) /\ r.length = n /\ ∀ x ∈ r, (x : Int) < m := by
 obtain ⟨ys, e1, e2, e3⟩ := aFi (P := fun y => ∃ i : Int, y = .int i /\ 0 <= i /\ i < m) hv hn fun k hk => let ⟨i, h1, h2⟩ := hE k hk; ⟨_, h1, i, rfl, h2⟩
 obtain ⟨r, rfl, h⟩ := aIp ys m e3
 exact ⟨r, e1, by rw [<- e2]; unfold nats; simp, h⟩
theorem aD6 {E : Ex} {st : PSt} {v c : Nat} (hv : st[v]? = some (some (.v (.int n)))) (hn : n <= 100000) (hE : ∀ k : Nat, k < n -> ∃ r, E ((st.set j none).set j (some (.v (.int k)))) = .ok (.lst (nats r)) /\ r.length = c /\ ∀ x ∈ r, x < n) :
  ∃ S, cT [j] (tgN j) (nC (aD v)) aZ E st = .ok (.lst (stD S)) /\ S.length = n /\ ∀ r ∈ S, r.length = c /\ ∀ x ∈ r, x < n := by
 obtain ⟨ys, e1, e2, e3⟩ := aFi (P := fun y => ∃ r : List Nat, y = .lst (nats r) /\ r.length = c /\ ∀ x ∈ r, x < n) hv hn fun k hk => let ⟨r, h1, h2⟩ := hE k hk; ⟨_, h1, r, rfl, h2⟩
 obtain ⟨S, rfl, h⟩ := aIo ys c n e3
 exact ⟨S, e1, by rw [<- e2]; unfold stD; simp, h⟩
end Pu
namespace Pu
def cv (ns : List Int) (k : Nat) : Int := if k < ns.length then ns.getD k 0 else if ns.length = 0 then 48271 * (k : Int) + 7 else ns.getD (k * 7 % ns.length) 0 + 7919 * (k : Int)
theorem aMk {ns : List Int} {k : Nat} (h : k < ns.length) : atI (ns.map D.int) (k : Int) = some (.int (ns.getD k 0)) := by
 rw [atI_nat (by simpa using h)]
 simp [List.getD_eq_getElem?_getD, List.getElem?_eq_getElem h]
theorem aFj (ns : List Int) (k : Nat) : cA [.lst (ns.map D.int), .int k] = .ok (.int (cv ns k)) := by
 unfold cA sH cv
 by_cases h : k < ns.length
 ·simp [h, aMk h]
 ·by_cases h0 : ns.length = 0
  ·have hz : ¬ ((k : Int) < 0) := by omega
   simp [h, h0, hz]
  ·have hm : k * 7 % ns.length < ns.length := Nat.mod_lt _ (Nat.pos_of_ne_zero h0)
   have e := aMk hm
   have ec : ((k : Int) * 7 % (ns.length : Int)) = ((k * 7 % ns.length : Nat) : Int) := by push_cast; rfl
   rw [<- ec] at e
   simp only [List.getD_eq_getElem?_getD] at e
   simp [h, h0, Nat.pos_of_ne_zero h0, e]
theorem yN (ns : List Int) (i : Int) (h : 0 <= i) : cA [.lst (ns.map D.int), .int i] = .ok (.int (cv ns i.toNat)) := by
 have := aFj ns i.toNat
 rwa [toNat_of_nonneg h] at this
def yO (c k m : Int) : Int :=
 let a := (c % 2147483647 + 7919 * k + 104729) * 48271 % 2147483629
 let b := a * a % 2147483647 * 69621 % 2147483587
 b * b % 2147483629 % m
theorem aB5 (c k : Int) {m : Int} (h : 0 < m) : 0 <= yO c k m /\ yO c k m < m := ⟨emod_nonneg _ (by omega), emod_lt_of_pos _ h⟩
theorem fJ (c k m : Int) (h : 0 < m) : aR [.int c, .int k, .int m] = .ok (.int (yO c k m)) := by
 unfold aR vJ yO
 have a0 : ∀ x : Int, 0 <= x % 2147483629 := fun x => emod_nonneg _ (by decide)
 have a1 : ∀ x : Int, x % 2147483629 < 2147483629 := fun x => emod_lt_of_pos _ (by decide)
 have b0 : ∀ x : Int, 0 <= x % 2147483587 := fun x => emod_nonneg _ (by decide)
 have b1 : ∀ x : Int, x % 2147483587 < 2147483587 := fun x => emod_lt_of_pos _ (by decide)
 generalize hA : (c % 2147483647 + 7919 * k + 104729) * 48271 % 2147483629 = a
 have h1 := a0 ((c % 2147483647 + 7919 * k + 104729) * 48271)
 have h2 := a1 ((c % 2147483647 + 7919 * k + 104729) * 48271)
 rw [hA] at h1 h2
 generalize hB : a * a % 2147483647 * 69621 % 2147483587 = b
 have h3 := b0 (a * a % 2147483647 * 69621)
 have h4 := b1 (a * a % 2147483647 * 69621)
 rw [hB] at h3 h4
 have g1 : -18446744073709551616 < a := by omega
 have g2 : a < 18446744073709551616 := by omega
 have g3 : -18446744073709551616 < b := by omega
 have g4 : b < 18446744073709551616 := by omega
 simp [hA, g1, g2, hB, g3, g4, h]
theorem aA1 (m n : Int) (hm : 1 <= m) (hm2 : m < 1073741824) : ∀ (ks : List D) (c : Int) (row : List Nat) (k : Option Sl), row.length + ks.length <= 1000000 -> (∀ x ∈ row, (x : Int) < m) ->
  ∃ c' row' k', forR (tgN 4) mR ks [some (.v (.int c)), some (.v (.int m)), some (.v (.int n)), some (.o .l (nats row)), k] = .ok (.nx [some (.v (.int c')), some (.v (.int m)), some (.v (.int n)), some (.o .l (nats row')), k']) /\ row'.length = row.length + ks.length /\ ∀ x ∈ row', (x : Int) < m
 | [], c, row, k, _, h => ⟨c, row, k, rfl, rfl, h⟩
 | d :: ks, c, row, k, hl, h => by
  rw [length_cons] at hl
  have m0 : 0 < m := by omega
  have e0 : 0 <= c % m := emod_nonneg _ (by omega)
  have e1 : c % m < m := emod_lt_of_pos _ m0
  have ec : ((c % m).toNat : Int) = c % m := toNat_of_nonneg e0
  obtain ⟨c', row', k', e, hr, hx⟩ := aA1 m n hm hm2 ks (c / m) (row ++ [(c % m).toNat]) (some (.v d)) (by rw [length_append, length_singleton]; omega) (fun x hx => by
   rcases List.mem_append.mp hx with hx | hx
   ·exact h x hx
   ·rw [List.mem_singleton.mp hx, ec]; exact e1)
  refine ⟨c', row', k', ?_, by rw [hr, length_append, length_singleton, length_cons]; omega, hx⟩
  rw [<- e, yJ]
  have e2 : nats (row ++ [(c % m).toNat]) = nats row ++ [D.int (c % m)] := by unfold nats; rw [List.map_append, List.map_singleton, ec]
  have e3 : (nats row).length = row.length := by unfold nats; simp
  simp [mR, m0, hm2, e2, e3, show row.length < big from aH6 (by omega)]
theorem aK9 (c m n : Int) (hm : 1 <= m) (hm2 : m < 1073741824) (h0 : 0 <= n) (h1 : n <= 100000) : ∃ row, iV [.int c, .int m, .int n] = .ok (.lst (nats row)) /\ row.length = n.toNat /\ ∀ x ∈ row, (x : Int) < m := by
 obtain ⟨c', row', k', e, hr, hx⟩ := aA1 m n hm hm2 (gH 0 n.toNat) c [] none (by rw [lJ, length_nil]; omega) (fun _ h => nomatch h)
 refine ⟨row', ?_, by rw [hr, lJ]; simp, hx⟩
 unfold iV pH
 have en : nats [] = [] := rfl
 rw [en] at e
 simp [show -(big : Int) <= n from aAi (by omega), show n <= (big : Int) from wA (by omega), e]
end Pu
namespace Pu
def kst (ns : List Int) (n c : Nat) (f : Int) (x5 x6 x7 x8 x9 : Option Sl) : PSt := [some (.v (.lst (ns.map D.int))), some (.v (.int 8)), some (.v (.int f)), some (.v (.int n)), some (.v (.int c)), x5, x6, x7, x8, x9, none]
theorem aKa (rk : List Nat) {v : Int} (h : 0 <= v) : nats (rk ++ [v.toNat]) = nats rk ++ [D.int v] := by unfold nats; rw [List.map_append, List.map_singleton, toNat_of_nonneg h]
theorem aHh (ns : List Int) (n c : Nat) (f : Int) (x5 x6 x9 : Option Sl) (rk : List Nat) (x : Nat) (hl : rk.length <= 1000) : ∃ v r, v < 1000000000000000000000000000000 /\ fL (kst ns n c f x5 x6 (some (.o .l (nats rk))) (some (.v (.int x))) x9) = .ok (.nx (kst ns n c f x5 x6 (some (.o .l (nats (rk ++ [v])))) (some (.v (.int x))) r)) := by
 have hc := yN ns (10 + x) (by omega)
 generalize cv ns (10 + (x : Int)).toNat = u at hc
 obtain ⟨m0, m1⟩ := aB5 u 5 (m := 5) (by decide)
 have hm1 := fJ u 5 5 (by decide)
 have hm2 := fJ u 6 8 (by decide)
 generalize yO u 5 5 = a at hm1 m0 m1
 have cl : ∀ y9, bM cA (aB (aD 0) (aB (e2 cN (eC (.int 10)) (aD 8)) (aV))) (kst ns n c f x5 x6 (some (.o .l (nats rk))) (some (.v (.int x))) y9) = .ok (.int u) := fun y9 => bJ (aF rfl (aF (aQ rfl rfl rfl) rfl)) hc
 have t : e2 dEq (bM aR (aB (bM cA (aB (aD 0) (aB (e2 cN (eC (.int 10)) (aD 8)) (aV)))) (aB (eC (.int 6)) (aB (eC (.int 8)) (aV))))) (eC (.int 0)) (kst ns n c f x5 x6 (some (.o .l (nats rk))) (some (.v (.int x))) (some (.v (.int a)))) = .ok (.bl (decide (yO u 6 8 = 0))) := aQ (bJ (aF (cl _) rfl) hm2) rfl (aHg _ _)
 have go : ∀ {r : R Fl}, cQ (sIf (e2 dEq (bM aR (aB (bM cA (aB (aD 0) (aB (e2 cN (eC (.int 10)) (aD 8)) (aV)))) (aB (eC (.int 6)) (aB (eC (.int 8)) (aV))))) (eC (.int 0))) (eF 9 (e2 vA (bM cA (aB (aD 0) (aB (e2 cN (eC (.int 10)) (aD 8)) (aV)))) (e2 aK4 (eC (.int 10)) (eC (.int 30))))) (eN)) (aH9 7 (aD 9)) (kst ns n c f x5 x6 (some (.o .l (nats rk))) (some (.v (.int x))) (some (.v (.int a)))) = r -> fL (kst ns n c f x5 x6 (some (.o .l (nats rk))) (some (.v (.int x))) x9) = r := fun {r} h => cI (st' := kst ns n c f x5 x6 (some (.o .l (nats rk))) (some (.v (.int x))) (some (.v (.int a)))) (dD (bJ (aF (cl _) rfl) hm1)) h
 have app : ∀ v : Int, 0 <= v -> aH9 7 (aD 9) (kst ns n c f x5 x6 (some (.o .l (nats rk))) (some (.v (.int x))) (some (.v (.int v)))) = .ok (.nx (kst ns n c f x5 x6 (some (.o .l (nats (rk ++ [v.toNat])))) (some (.v (.int x))) (some (.v (.int v))))) := fun v hv => by
  rw [aT3 (xs := nats rk) (d := .int v) rfl rfl (by unfold nats; rw [length_map]; omega), aKa rk hv]
  rfl
 by_cases h6 : yO u 6 8 = 0
 ·rw [decide_eq_true h6] at t
  have p : e2 aK4 (eC (.int 10)) (eC (.int 30)) (kst ns n c f x5 x6 (some (.o .l (nats rk))) (some (.v (.int x))) (some (.v (.int a)))) = .ok (.int 1000000000000000000000000000000) := by simp
  have mb := emod_lt_of_pos u (b := 1000000000000000000000000000000) (by decide)
  have ma := emod_nonneg u (b := 1000000000000000000000000000000) (by decide)
  exact ⟨_, _, by omega, go (cI (st' := kst ns n c f x5 x6 (some (.o .l (nats rk))) (some (.v (.int x))) (some (.v (.int (u % 1000000000000000000000000000000))))) (aFg t (dD (aQ (cl _) p (aMj (by decide))))) (app _ (emod_nonneg _ (by decide))))⟩
 ·rw [decide_eq_false h6] at t
  exact ⟨_, _, by omega, go (cU (vK t rfl) (app a m0))⟩
theorem aB6 (ns : List Int) (n c : Nat) (f : Int) (x5 x6 : Option Sl) : ∀ (ks rk : List Nat) (x8 x9 : Option Sl), rk.length + ks.length <= 1000 -> (∀ x ∈ rk, x < 1000000000000000000000000000000) ->
  ∃ rk' k' r', (∀ x ∈ rk', x < 1000000000000000000000000000000) /\ forR (tgN 8) fL (nats ks) (kst ns n c f x5 x6 (some (.o .l (nats rk))) x8 x9) = .ok (.nx (kst ns n c f x5 x6 (some (.o .l (nats rk'))) k' r')) /\ rk'.length = rk.length + ks.length
 | [], rk, x8, x9, _, hb => ⟨rk, x8, x9, hb, rfl, rfl⟩
 | x :: ks, rk, x8, x9, hl, hb => by
  rw [length_cons] at hl
  obtain ⟨v, r, vb, e⟩ := aHh ns n c f x5 x6 x9 rk x (by omega)
  have hv : (rk ++ [v]).length = rk.length + 1 := length_append
  obtain ⟨rk', k', r', hb', e', h⟩ := aB6 ns n c f x5 x6 ks (rk ++ [v]) (some (.v (.int x))) r (by omega) (fun y hy => (List.mem_append.mp hy).elim (hb y) fun z => by rw [List.mem_singleton.mp z]; exact vb)
  exact ⟨rk', k', r', hb', aT4 rfl e e', by rw [h, hv, length_cons]; omega⟩
theorem aMl (ns : List Int) : ∃ S rk c, mF [.lst (ns.map D.int), .int 8] = .ok (.lst [.lst (stD S), .lst (nats rk)]) /\ Mch S rk c /\ ∀ x ∈ rk, x < 1000000000000000000000000000000 := by
 have hc0 : cA [.lst (ns.map D.int), .int 0] = .ok (.int (cv ns 0)) := aFj ns 0
 generalize cv ns 0 = f at hc0
 obtain ⟨a1, a2⟩ := aB5 f 1 (m := 8) (by decide)
 obtain ⟨b1, b2⟩ := aB5 f 2 (m := 3) (by decide)
 have hM1 := fJ f 1 8 (by decide)
 have hM2 := fJ f 2 3 (by decide)
 have hM3 := fJ f 3 6 (by decide)
 generalize yO f 1 8 = A at *
 generalize yO f 2 3 = C at *
 generalize yO f 3 6 = W at *
 obtain ⟨n, hn⟩ : ∃ n : Nat, 1 + A = n := ⟨(1 + A).toNat, by omega⟩
 obtain ⟨c, hc⟩ : ∃ c : Nat, 1 + C = c := ⟨(1 + C).toNat, by omega⟩
 have n0 : (0 : Int) < n := by omega
 have row : ∀ (E F : Ex) (x5 x6 : Option Sl), (∀ k : Nat, F ((((kst ns n c f x5 x6 none none none).set 8 none).set 8 (some (.v (.int k))))) = cT [10] (tgN 10) (nC (aD 4)) aZ E ((((kst ns n c f x5 x6 none none none).set 8 none).set 8 (some (.v (.int k)))))) -> (∀ k j : Nat, ∃ i : Int, E (kst ns n c f x5 x6 none (some (.v (.int k))) none |>.set 10 (some (.v (.int j)))) = .ok (.int i) /\ 0 <= i /\ i < n) -> ∃ S, cT [8] (tgN 8) (nC (aD 3)) aZ F (kst ns n c f x5 x6 none none none) = .ok (.lst (stD S)) /\ S.length = n /\ ∀ r ∈ S, r.length = c /\ ∀ x ∈ r, x < n := fun E F x5 x6 hF hE => aD6 rfl (by omega) fun k hk => by
  obtain ⟨r, e1, e2, e3⟩ := aK8 (E := E) (st := ((kst ns n c f x5 x6 none none none).set 8 none).set 8 (some (.v (.int k)))) (j := 10) (v := 4) (n := c) (m := n) rfl (by omega) (fun j _ => hE k j)
  exact ⟨r, (hF k).trans e1, e2, fun x hx => by have := e3 x hx; omega⟩
 have cell : ∀ (k : Nat) (st : PSt), aD 0 st = .ok (.lst (ns.map D.int)) -> aD 8 st = .ok (.int k) -> bM cA (aB (aD 0) (aB (e2 cN (eC (.int 2)) (aD 8)) (aV))) st = .ok (.int (cv ns (2 + (k : Int)).toNat)) := fun k st h0 h8 => bJ (aF h0 (aF (aQ rfl h8 rfl) rfl)) (yN ns (2 + k) (by omega))
 obtain ⟨S1, e1, l1, r1⟩ := row uO uP none none (fun _ => rfl) fun k j => ⟨yO (cv ns (2 + (k : Int)).toNat) j n, bJ (aF (cell k _ rfl rfl) rfl) (fJ _ _ _ n0), aB5 _ _ n0⟩
 obtain ⟨S5, e5, l5, r5⟩ := row uQ lK (some (.v (.lst (stD S1)))) (some (.v (.int W))) (fun _ => rfl) fun k j => ⟨((k : Int) + j) % n, aQ (aQ rfl rfl rfl) rfl (aMj n0), emod_nonneg _ (by omega), emod_lt_of_pos _ n0⟩
 obtain ⟨S8, e8, l8, r8⟩ : ∃ S, cT [8] (tgN 8) (nC (aD 3)) aZ pI (kst ns n c f (some (.v (.lst (stD S1)))) (some (.v (.int W))) none none none) = .ok (.lst (stD S)) /\ S.length = n /\ ∀ r ∈ S, r.length = c /\ ∀ x ∈ r, x < n := aD6 rfl (by omega) fun k hk => by
  obtain ⟨r, d1, d2, d3⟩ := aK9 (cv ns (2 + (k : Int)).toNat) n c (by omega) (by omega) (by omega) (by omega)
  exact ⟨r, bJ (aF (cell k _ rfl rfl) rfl) d1, by rw [d2, Int.toNat_natCast], fun x hx => by have := d3 x hx; omega⟩
 have fin : ∀ S : List (List Nat), S.length = n -> (∀ r ∈ S, r.length = c /\ ∀ x ∈ r, x < n) -> ∃ rk, (cQ (aAy 7 (jC aV)) (cQ (aF9 (tgN 8) (nC (aD 3)) fL) (sFz [7] (eV (jC (aB (aD 5) (aB (aD 7) aV))))))) (kst ns n c f (some (.v (.lst (stD S)))) (some (.v (.int W))) none none none) = .ok (.rt (.lst [.lst (stD S), .lst (nats rk)])) /\ Mch S rk c /\ ∀ x ∈ rk, x < 1000000000000000000000000000000 := fun S hS hr => by
  obtain ⟨rk, k', r', hb, h1, h2⟩ := aB6 ns n c f (some (.v (.lst (stD S)))) (some (.v (.int W))) (List.range n) [] none none (by rw [length_range]; show 0 + n <= 1000; omega) (fun x hx => by cases hx)
  refine ⟨rk, cI (st' := kst ns n c f (some (.v (.lst (stD S)))) (some (.v (.int W))) (some (.o .l [])) none none) (aPv (eX rfl)) (cI (aMi (aRn rfl (by omega)) h1) ?_), ⟨by omega, by omega, by omega, by omega, by rw [hS]; exact hr, by rw [h2, hS, length_range]; exact Nat.zero_add n⟩, hb⟩
  exact lA (eX rfl)
 have start : ∀ (r : D), (cQ (sIf (e2 dEq (aD 6) (eC (.int 0))) (eF 5 (cT [8] (tgN 8) (nC (aD 3)) aZ lK)) eN) (cQ (sIf (e2 dGt (aD 6) (eC (.int 2))) (eF 5 (cT [8] (tgN 8) (nC (aD 3)) aZ pI)) eN) (cQ (aAy 7 (jC aV)) (cQ (aF9 (tgN 8) (nC (aD 3)) fL) (sFz [7] (eV (jC (aB (aD 5) (aB (aD 7) aV))))))))) (kst ns n c f (some (.v (.lst (stD S1)))) (some (.v (.int W))) none none none) = .ok (.rt r) -> mF [.lst (ns.map D.int), .int 8] = .ok r := fun r h => by
  refine fG rfl (cI (st' := [some (.v (.lst (ns.map D.int))), some (.v (.int 8)), some (.v (.int f)), none, none, none, none, none, none, none, none]) (dD (bJ rfl hc0)) ?_)
  refine cI (st' := [some (.v (.lst (ns.map D.int))), some (.v (.int 8)), some (.v (.int f)), some (.v (.int n)), none, none, none, none, none, none, none]) (dD (aQ rfl (bJ rfl hM1) (by rw [<- hn]; rfl))) ?_
  refine cI (st' := kst ns n c f none none none none none) (dD (aQ rfl (bJ rfl hM2) (by rw [<- hc]; rfl))) ?_
  refine cI (st' := kst ns n c f (some (.v (.lst (stD S1)))) none none none none) (dD e1) ?_
  exact cI (st' := kst ns n c f (some (.v (.lst (stD S1)))) (some (.v (.int W))) none none none) (dD (bJ rfl hM3)) h
 have t0 : ∀ x5, e2 dEq (aD 6) (eC (.int 0)) (kst ns n c f x5 (some (.v (.int W))) none none none) = .ok (.bl (decide (W = 0))) := fun x5 => aQ rfl rfl (aHg _ _)
 have t2 : ∀ x5, e2 dGt (aD 6) (eC (.int 2)) (kst ns n c f x5 (some (.v (.int W))) none none none) = .ok (.bl (decide ((2 : Int) < W))) := fun x5 => aQ rfl rfl rfl
 by_cases h0 : W = 0
 ·obtain ⟨rk, h1, h2⟩ := fin S5 l5 r5
  exact ⟨S5, rk, c, start _ (cI (st' := kst ns n c f (some (.v (.lst (stD S5)))) (some (.v (.int W))) none none none) (aFg (aD5 (t0 _) (decide_eq_true h0)) (dD e5)) (cU (vK (aD5 (t2 _) (decide_eq_false (by omega))) rfl) h1)), h2⟩
 ·have f0 := vK (a := eF 5 (cT [8] (tgN 8) (nC (aD 3)) aZ lK)) (b := eN) (aD5 (t0 (some (.v (.lst (stD S1))))) (decide_eq_false h0)) rfl
  by_cases h2' : 2 < W
  ·obtain ⟨rk, h1, h2⟩ := fin S8 l8 r8
   exact ⟨S8, rk, c, start _ (cU f0 (cI (st' := kst ns n c f (some (.v (.lst (stD S8)))) (some (.v (.int W))) none none none) (aFg (aD5 (t2 _) (decide_eq_true h2')) (dD e8)) h1)), h2⟩
  ·obtain ⟨rk, h1, h2⟩ := fin S1 l1 r1
   exact ⟨S1, rk, c, start _ (cU f0 (cU (vK (aD5 (t2 _) (decide_eq_false h2')) rfl) h1)), h2⟩
end Pu
namespace Pu
theorem aIq {tg : Tg} {L : Bd} (P : PSt -> Prop) : ∀ (ks : List D), (∀ d ∈ ks, ∀ st, P st -> ∃ s1 st', tg d st = .ok s1 /\ L s1 = .ok (.nx st') /\ P st') -> ∀ st, P st -> ∃ st', P st' /\ forR tg L ks st = .ok (.nx st')
 | [], _, st, p => ⟨st, p, rfl⟩
 | d :: ks, h, st, p => by
  obtain ⟨s1, st', e1, e2, p'⟩ := h d mem_cons_self st p
  obtain ⟨st2, p2, e3⟩ := aIq P ks (fun d hd => h d (mem_cons_of_mem _ hd)) st' p'
  refine ⟨st2, p2, ?_⟩
  rw [yJ, e1]
  simp only [aN, e2]
  exact e3
theorem wI {E : Ex} {st : PSt} {v : Nat} {xs : List D} (hv : st[v]? = some (some (.v (.lst xs)))) (hl : xs.length <= 100000) (h : ∀ d ∈ xs, E ((st.set j none).set j (some (.v d))) = .ok (.bl true)) : e1 rW (cT [j] (tgN j) (itE (aD v)) aZ E) st = .ok (.bl true) := by
 have e := kZ (tg := tgN j) (c := aZ) (f := E) (st := st.set j none) (fun _ => D.bl true) xs fun d hd => ⟨_, rfl, rfl, h d hd⟩
 have e2 : xs.map (fun _ => D.bl true) = (xs.map fun _ => true).map D.bl := by simp
 simp [hv, show xs.length <= big from dW (by omega), e]
 rw [e2, <- aFe]
 exact aMh rfl fun b hb => by obtain ⟨_, _, z⟩ := List.mem_map.mp hb; exact z.symm
theorem aKb {E : Ex} {st : PSt} {v : Nat} {xs : List D} (hv : st[v]? = some (some (.v (.lst xs)))) (hl : xs.length <= 100000) (h : ∀ d ∈ xs, E ((st.set j none).set j (some (.v d))) = .ok d) : cT [j] (tgN j) (itE (aD v)) aZ E st = .ok (.lst xs) := by
 have e := kZ (tg := tgN j) (c := aZ) (f := E) (st := st.set j none) id xs fun d hd => ⟨_, rfl, rfl, h d hd⟩
 simp [hv, show xs.length <= big from dW (by omega), e]
def wJ (n : Int) : D -> Bool
 | .int i => decide (0 <= i) && decide (i < n)
 | _ => false
theorem aD7 (i : Int) : gQ [.int i] = .ok (.bl true) := by
 unfold gQ qT
 simp [isIn, aK6]
theorem aMm (d : D) (hb : oH d = true) : gQ [d] = .ok (.bl (isIn d && !aK6 d)) := by
 unfold gQ qT
 cases hi : isIn d <;> simp [hb, hi]
theorem aMn (d : D) (n : Int) (hb : oH d = true) : jE [d, .int n] = .ok (.bl (wJ n d)) := by
 have hw := aMm d hb
 unfold jE qU
 cases d <;> first | (simp [hw, isIn, aK6, wJ]; done) | skip
 rename_i i
 by_cases h0 : 0 <= i <;> simp [hw, isIn, aK6, wJ, h0]
theorem aKc {x : Nat} (h : x < n) : jE [.int x, .int n] = .ok (.bl true) := by
 have hw := aD7 x
 unfold jE qU
 simp [hw, h]
theorem yP (xs : List D) (m : Int) : bT [.lst xs, .int m] = .ok (.bl (decide (1 <= (xs.length : Int)) && decide ((xs.length : Int) <= m))) := by
 unfold bT iB
 by_cases h : 1 <= xs.length
 ·have h' : (1 : Int) <= xs.length := by omega
  simp [aE1, h, h']
 ·have h' : ¬ (1 : Int) <= xs.length := by omega
  simp [aE1, h, h']
theorem eQ (r : List Nat) : (nats r).length = r.length := by unfold nats; simp
theorem lO (S : List (List Nat)) : (stD S).length = S.length := by unfold stD; simp
theorem wK {r : List Nat}  (h : d ∈ nats r) : ∃ x ∈ r, d = .int (x : Nat) := by
 obtain ⟨x, h1, h2⟩ := List.mem_map.mp h
 exact ⟨x, h1, h2.symm⟩
theorem wL {S : List (List Nat)}  (h : d ∈ stD S) : ∃ r ∈ S, d = .lst (nats r) := by
 obtain ⟨x, h1, h2⟩ := List.mem_map.mp h
 exact ⟨x, h1, h2.symm⟩
theorem aT5 (r : List Nat) (n : Nat) (h : ∀ x ∈ r, x < n) (hl : r.length <= 1000) : sO [.lst (nats r), .int r.length, .int n] = .ok (.bl true) := by
 have e := wI (E := nQ) (st := [some (.v (.lst (nats r))), some (.v (.int r.length)), some (.v (.int n)), none]) (j := 3) (v := 0) (xs := nats r) rfl (by rw [eQ]; omega) (fun d hd => by
  obtain ⟨x, hx, rfl⟩ := wK hd
  have := h x hx
  simp [nQ, aKc this])
 refine fG rfl ?_
 unfold wH
 have h1 : e2 dEq (e1 eE (aD 0)) (aD 1) [some (.v (.lst (nats r))), some (.v (.int r.length)), some (.v (.int n)), none] = .ok (.bl true) := by simp [eQ]
 show eV _ [some (.v (.lst (nats r))), some (.v (.int r.length)), some (.v (.int n)), none] = _
 rw [qR, aE2, h1]
 show (e1 rW _ _).bind _ = _
 rw [e]
 rfl
def mD (S : List (List Nat)) (rk : List Nat) (c : Nat) : D := .ins "Machine" ["steps", "ranks", "many", "letters"] [.lst (stD S), .lst (nats rk), .int S.length, .int c]
section
variable   {c : Nat}
theorem Mch.row0 (M : Mch S rk c) : ∃ r T, S = r :: T /\ r.length = c := by
 cases S with
 | nil => exact absurd M.one (by simp)
 | cons r T => exact ⟨r, T, rfl, (M.row r mem_cons_self).1⟩
theorem Mch.at0 (M : Mch S rk c) : ∃ r, r ∈ S /\ atI (stD S) 0 = some (.lst (nats r)) /\ r.length = c := by
 obtain ⟨r, T, rfl, h⟩ := M.row0
 refine ⟨r, mem_cons_self, ?_, h⟩
 have := atI_nat (xs := stD (r :: T)) (i := 0) (by simp [stD])
 simpa [stD] using this
theorem aMo (M : Mch S rk c) : fX [.lst (stD S)] = .ok (.bl true) := by
 obtain ⟨r0, hr0, e0, l0⟩ := M.at0
 have h1 := M.one
 have h8 := M.most
 have f1 := yP (stD S) 8
 rw [lO] at f1
 have f1' : bT [.lst (stD S), .int 8] = .ok (.bl true) := by rw [f1]; congr 2; simp; omega
 have a1 := wI (E := iW) (st := [some (.v (.lst (stD S))), none]) (j := 1) (v := 0) (xs := stD S) rfl (by rw [lO]; omega) (fun d hd => by
  obtain ⟨r, hr, rfl⟩ := wL hd
  have f := yP (nats r) 3
  rw [eQ, (M.row r hr).1] at f
  have h3 := M.c3
  have h0 := M.c1
  simp [iW, f]
  omega)
 have a2 := wI (E := iY) (st := [some (.v (.lst (stD S))), none]) (j := 1) (v := 0) (xs := stD S) rfl (by rw [lO]; omega) (fun d hd => by
  obtain ⟨r, hr, rfl⟩ := wL hd
  have h3 := M.c3
  have f := aT5 r S.length (M.row r hr).2 (by rw [(M.row r hr).1]; omega)
  have el : (nats r0).length = r.length := by rw [eQ, l0, (M.row r hr).1]
  simp [iY, e0, el, lO, f])
 refine fG rfl ?_
 unfold mG
 refine cU (by simp [f1']) (cU ?_ ?_)
 ·rw [aB2, aAj]
  show ((e1 rW _ [some (.v (.lst (stD S))), none]).bind _).bind _ = _
  rw [a1]; rfl
 ·rw [qR]
  show (e1 rW _ [some (.v (.lst (stD S))), none]).bind _ = _
  rw [a2]; rfl
theorem aMp (M : Mch S rk c) : oM [.lst (nats rk), .int S.length] = .ok (.bl true) := by
 have h8 := M.most
 have a1 := wI (E := pK) (st := [some (.v (.lst (nats rk))), some (.v (.int S.length)), none]) (j := 2) (v := 0) (xs := nats rk) rfl (by rw [eQ, M.rks]; omega) (fun d hd => by
  obtain ⟨x, hx, rfl⟩ := wK hd
  simp [pK, aD7])
 refine fG rfl ?_
 unfold sS
 refine cU (by simp [aE1, eQ, M.rks]) ?_
 rw [qR]
 show (e1 rW _ [some (.v (.lst (nats rk))), some (.v (.int S.length)), none]).bind _ = _
 rw [a1]; rfl
theorem yQ : yI "Machine" "steps" (mD S rk c) = .ok (.lst (stD S)) := by unfold mD; rw [aB0, aG rfl]; rfl
end
end Pu
namespace Pu
theorem sIx_none (n d : Nat) : sIx n d none = d := rfl
theorem sIx_nat (n d k : Nat) : sIx n d (some (k : Int)) = min k n := by
 show (if (k : Int) < 0 then ((k : Int) + n).toNat else min (k : Int).toNat n) = _
 rw [if_neg (by omega), Int.toNat_natCast]
theorem aMq (x : List α) (n : Nat) : cut x none (some (n : Int)) = x.take n := by
 unfold cut
 rw [sIx_none, sIx_nat, drop_zero, Nat.sub_zero]
 by_cases h : n <= x.length
 ·rw [Nat.min_eq_left h]
 ·rw [Nat.min_eq_right (by omega), List.take_length, take_of_length_le (by omega)]
theorem aMr (x : List α) (n : Nat) (h : n <= x.length) : cut x (some (n : Int)) none = x.drop n := by
 unfold cut
 rw [sIx_none, sIx_nat]
 rw [Nat.min_eq_left h, take_of_length_le (by rw [length_drop]; omega)]
end Pu
namespace Pu
theorem aKd (x : Nat) (l : List Nat) : nats (x :: l) = .int (x : Nat) :: nats l := rfl
theorem aMs (r : List Nat) (S : List (List Nat)) : stD (r :: S) = .lst (nats r) :: stD S := rfl
theorem qW : ∀ l : List Nat, fK (nats l) = true /\ gO (nats l) = 0 /\ fH (nats l) (nats l) = true
 | [] => ⟨rfl, by unfold nats; simp, by unfold nats; simp [fH]⟩
 | x :: l => by
  obtain ⟨h1, h2, h3⟩ := qW l
  rw [aKd]
  refine ⟨by simp [h1], by simp [h2], ?_⟩
  unfold fH
  rw [h3]
  simp
theorem yR : ∀ S : List (List Nat), fK (stD S) = true /\ gO (stD S) <= 1 /\ fH (stD S) (stD S) = true
 | [] => ⟨rfl, by unfold stD; simp, by unfold stD; simp [fH]⟩
 | r :: S => by
  obtain ⟨h1, h2, h3⟩ := yR S
  obtain ⟨k1, k2, k3⟩ := qW r
  have kd : dep (.lst (nats r)) = 1 := by unfold dep; rw [k2]
  have ke : eqD (.lst (nats r)) (.lst (nats r)) = true := by (conv => lhs; unfold eqD); exact k3
  have kp : plain (.lst (nats r)) = true := by (conv => lhs; unfold plain); exact k1
  rw [aMs]
  refine ⟨by rw [jH, kp, h1]; rfl, by rw [yK, kd]; omega, ?_⟩
  conv => lhs; unfold fH
  rw [ke, h3]
  rfl
theorem aPw (l : List Nat) : dNe (.lst (nats l)) (.lst (nats l)) = .ok (.bl false) /\ dEq (.lst (nats l)) (.lst (nats l)) = .ok (.bl true) := by
 obtain ⟨k1, k2, k3⟩ := qW l
 have kd : dep (.lst (nats l)) = 1 := by unfold dep; rw [k2]
 have ke : eqD (.lst (nats l)) (.lst (nats l)) = true := by (conv => lhs; unfold eqD); exact k3
 have kp : plain (.lst (nats l)) = true := by (conv => lhs; unfold plain); exact k1
 rw [aHa, aMb, aG ⟨by omega, kp, kp⟩, aG ⟨by omega, kp, kp⟩, ke]
 exact ⟨rfl, rfl⟩
theorem aT6 (S : List (List Nat)) : dNe (.lst (stD S)) (.lst (stD S)) = .ok (.bl false) /\ dEq (.lst (stD S)) (.lst (stD S)) = .ok (.bl true) := by
 obtain ⟨k1, k2, k3⟩ := yR S
 have kd : dep (.lst (stD S)) <= 2 := by unfold dep; omega
 have ke : eqD (.lst (stD S)) (.lst (stD S)) = true := by (conv => lhs; unfold eqD); exact k3
 have kp : plain (.lst (stD S)) = true := by (conv => lhs; unfold plain); exact k1
 rw [aHa, aMb, aG ⟨by omega, kp, kp⟩, aG ⟨by omega, kp, kp⟩, ke]
 exact ⟨rfl, rfl⟩
end Pu
namespace Pu
theorem yS {E : Ex} {st : PSt} {v : Nat} {xs : List D} (g : D -> Bool) (hv : st[v]? = some (some (.v (.lst xs)))) (hl : xs.length <= 100000) (h : ∀ d ∈ xs, E ((st.set j none).set j (some (.v d))) = .ok (.bl (g d))) : e1 rW (cT [j] (tgN j) (itE (aD v)) aZ E) st = .ok (.bl (xs.all g)) := by
 have e := kZ (tg := tgN j) (c := aZ) (f := E) (st := st.set j none) (fun d => D.bl (g d)) xs fun d hd => ⟨_, rfl, rfl, h d hd⟩
 have e2 : xs.map (fun d => D.bl (g d)) = (xs.map g).map D.bl := by simp
 simp [hv, show xs.length <= big from dW (by omega), e]
 rw [e2, aE6]
 simp [List.all_map, Function.comp_def]
def mW (m : Nat) : D -> Bool
 | .lst xs => decide (1 <= xs.length) && decide (xs.length <= m)
 | _ => false
theorem aFk (m : Nat) (xs : List D) : mW m (.lst xs) = (decide (1 <= xs.length) && decide (xs.length <= m)) := rfl
def aPx : D -> Nat
 | .lst xs => xs.length
 | _ => 0
def aFl (c n : Nat) : D -> Bool
 | .lst xs => decide (xs.length = c) && xs.all (wJ n)
 | _ => false
def stB (xs : List D) : Bool := mW 8 (.lst xs) && xs.all (mW 3) && xs.all (aFl (aPx (xs.headD .non)) xs.length)
def Tame (d : D) : Prop := oH d = true /\ ∀ ys, d = .lst ys -> ys.length <= 1000 /\ ∀ y ∈ ys, oH y = true
theorem aB7 (d : D) (m : Nat) (hb : oH d = true) : bT [d, .int m] = .ok (.bl (mW m d)) := by
 cases d <;> first | (unfold bT iB; simp [aE1, mW, oH]; done) | (cases hb; done) | skip
 rename_i xs
 rw [yP]
 congr 2
 unfold mW
 congr 1
 ·exact decide_eq_decide.mpr ⟨fun h => by omega, fun h => by omega⟩
 ·exact decide_eq_decide.mpr ⟨fun h => by omega, fun h => by omega⟩
theorem aPy (xs : List D) (c n : Nat) (hl : xs.length <= 1000) (hb : ∀ x ∈ xs, oH x = true) : sO [.lst xs, .int c, .int n] = .ok (.bl (aFl c n (.lst xs))) := by
 have e := yS (E := nQ) (st := [some (.v (.lst xs)), some (.v (.int c)), some (.v (.int n)), none]) (j := 3) (v := 0) (xs := xs) (wJ n) rfl (by omega) (fun d hd => by
  simp [nQ, aMn d n (hb d hd)])
 refine fG rfl ?_
 unfold wH
 have h1 : e2 dEq (e1 eE (aD 0)) (aD 1) [some (.v (.lst xs)), some (.v (.int c)), some (.v (.int n)), none] = .ok (.bl (decide (xs.length = c))) := by
  by_cases h : xs.length = c
  ·simp [h]
  ·have : ¬ ((xs.length : Int) = (c : Int)) := by omega
   simp [h, this]
 show eV _ [some (.v (.lst xs)), some (.v (.int c)), some (.v (.int n)), none] = _
 rw [qR, aE2, h1]
 unfold aFl
 by_cases h : xs.length = c
 ·simp only [h, decide_true, aN, vD, if_true, Bool.true_and]
  show (e1 rW _ _).bind _ = _
  rw [e]
  rfl
 ·simp [h]
theorem aMt (d : D) (hb : oH d = true) (h : aE1 d = false) : fX [d] = .ok (.bl false) := by
 have f := aB7 d 8 hb
 have : mW 8 d = false := by cases d <;> first | rfl | (cases h; done)
 rw [this] at f
 have f' : bT [d, .int 8] = .ok (.bl false) := f
 refine fG rfl ?_
 unfold mG
 exact aE9 (by simp [f'])
theorem aKe (xs : List D) (hl : xs.length <= 1000) (ht : ∀ x ∈ xs, Tame x) : fX [.lst xs] = .ok (.bl (stB xs)) := by
 have f1 : bT [.lst xs, .int 8] = .ok (.bl (mW 8 (.lst xs))) := aB7 (.lst xs) 8 rfl
 have a1 := yS (E := iW) (st := [some (.v (.lst xs)), none]) (j := 1) (v := 0) (xs := xs) (mW 3) rfl (by omega) (fun d hd => by
  have := aB7 d 3 (ht d hd).1
  have f : bT [d, .int 3] = .ok (.bl (mW 3 d)) := this
  simp [iW, f])
 refine fG rfl ?_
 unfold mG stB
 cases h1 : mW 8 (.lst xs) with
 | false => exact aE9 (by simp [f1, h1])
 | true =>
  refine cU (by simp [f1, h1]) ?_
  cases h2 : xs.all (mW 3) with
  | false =>
   refine aE9 ?_
   rw [aB2, aAj]
   show ((e1 rW _ [some (.v (.lst xs)), none]).bind _).bind _ = _
   rw [a1, h2]; rfl
  | true =>
   refine cU ?_ ?_
   ·rw [aB2, aAj]
    show ((e1 rW _ [some (.v (.lst xs)), none]).bind _).bind _ = _
    rw [a1, h2]; rfl
   ·have hne : 1 <= xs.length := by
     have := h1
     simp [mW] at this
     omega
    obtain ⟨x0, T, rfl⟩ : ∃ x0 T, xs = x0 :: T := by
     cases xs with
     | nil => simp at hne
     | cons x T => exact ⟨x, T, rfl⟩
    have hx0 := List.all_eq_true.mp h2 x0 mem_cons_self
    obtain ⟨z0, rfl⟩ : ∃ z0, x0 = .lst z0 := by cases x0 <;> first | exact ⟨_, rfl⟩ | (cases hx0; done)
    have e0 : atI (D.lst z0 :: T) 0 = some (.lst z0) := atI_nat (i := 0) (by simp)
    have a2 := yS (E := iY) (st := [some (.v (.lst (D.lst z0 :: T))), none]) (j := 1) (v := 0) (xs := D.lst z0 :: T) (aFl z0.length (T.length + 1)) rfl (by omega) (fun d hd => by
     have hd2 := List.all_eq_true.mp h2 d hd
     obtain ⟨ys, rfl⟩ : ∃ ys, d = .lst ys := by cases d <;> first | exact ⟨_, rfl⟩ | (cases hd2; done)
     obtain ⟨_, hh⟩ := ht _ hd
     obtain ⟨l1, l2⟩ := hh ys rfl
     have := aPy ys z0.length (T.length + 1) l1 l2
     simp only [Int.natCast_add, Int.ofNat_one, Int.cast_ofNat_Int] at this
     simp [iY, e0]
     exact this)
    rw [qR]
    show (e1 rW _ [some (.v (.lst (D.lst z0 :: T))), none]).bind _ = _
    rw [a2]; rfl
theorem aKf {r : D} (h : fX [d] = .ok (.bl false)) : bD [d, r] = .exc (.exn "NoMachine" [] []) := by
 refine aFc fun x => ?_
 unfold zU
 rw [aG (show ([d, r] : List D).length = 2 from rfl)]
 show (cO [some (.o (.i x "Machine" []) []), some (.v d), some (.v r), none]).bind _ = _
 have : cO [some (.o (.i x "Machine" []) []), some (.v d), some (.v r), none] = .exc (.exn "NoMachine" [] []) := by
  unfold cO
  simp [h]
 rw [this]
 rfl
section
variable {S : List (List Nat)} {rk : List Nat} {c : Nat}
theorem aB8 (l : List Nat) : (nats l).all atom = true := List.all_eq_true.mpr fun d hd => by
 obtain ⟨x, _, rfl⟩ := wK hd
 rfl
theorem aMu (S : List (List Nat)) : (stD S).all aD0 = true := List.all_eq_true.mpr fun d hd => by
 obtain ⟨x, _, rfl⟩ := wL hd
 exact aB8 x
theorem aFm (M : Mch S rk c) : bD [.lst (stD S), .lst (nats rk)] = .ok (mD S rk c) := by
 obtain ⟨r0, hr0, e0, l0⟩ := M.at0
 have h8 := M.most
 refine aFc fun x => ?_
 unfold zU
 rw [aG (show ([D.lst (stD S), D.lst (nats rk)] : List D).length = 2 from rfl)]
 have hs := aMo M
 have hk := aMp M
 have g1 : rY (.lst (stD S)) = .ok (.lst (stD S)) := aG ⟨by rw [lO]; exact dW (by omega), aMu S⟩
 have g2 : aHe (.lst (nats rk)) = .ok (.lst (nats rk)) := aG (aB8 rk)
 have key : cO [some (.o (.i x "Machine" []) []), some (.v (.lst (stD S))), some (.v (.lst (nats rk))), none] = .ok (.nx [some (.o (.i x "Machine" ["steps", "ranks", "many", "letters"]) [.lst (stD S), .lst (nats rk), .int S.length, .int c]), some (.v (.lst (stD S))), some (.v (.lst (nats rk))), none]) := by
  unfold cO
  refine cU (by simp [hs]) (cU (by simp [lO, hk]) ?_)
  refine cI (st' := [some (.o (.i x "Machine" ["steps"]) [.lst (stD S)]), some (.v (.lst (stD S))), some (.v (.lst (nats rk))), none]) (by simp [g1]) ?_
  refine cI (st' := [some (.o (.i x "Machine" ["steps", "ranks"]) [.lst (stD S), .lst (nats rk)]), some (.v (.lst (stD S))), some (.v (.lst (nats rk))), none]) (by simp [g2]) ?_
  refine cI (st' := [some (.o (.i x "Machine" ["steps", "ranks", "many"]) [.lst (stD S), .lst (nats rk), .int S.length]), some (.v (.lst (stD S))), some (.v (.lst (nats rk))), none]) (by simp [eAt, atom, lO]) ?_
  simp [eAt, atom, e0, eQ, l0]
 show (cO [some (.o (.i x "Machine" []) []), some (.v (.lst (stD S))), some (.v (.lst (nats rk))), none]).bind _ = _
 rw [key]
 simp [mD]
def aPz (d : D) : Prop := (oH d = true /\ aE1 d = false) \/ ∃ xs, d = .lst xs /\ xs.length <= 1000 /\ (∀ x ∈ xs, Tame x) /\ stB xs = false
theorem aPz.no (h : aPz d) : fX [d] = .ok (.bl false) := by
 rcases h with ⟨h1, h2⟩ | ⟨xs, rfl, h1, h2, h3⟩
 ·exact aMt d h1 h2
 ·rw [aKe xs h1 h2, h3]
theorem qD (r : List Nat) (h : r.length <= 1000) : Tame (.lst (nats r)) := ⟨rfl, fun ys e => by
 cases e
 exact ⟨by rw [eQ]; exact h, fun y hy => by obtain ⟨x, _, rfl⟩ := wK hy; rfl⟩⟩
theorem aMv (M : Mch S rk c) {r : List Nat} (h : r ∈ S) : Tame (.lst (nats r)) := qD r (by rw [(M.row r h).1]; have := M.c3; omega)
theorem aIr {xs : List D} (h : ∃ x ∈ xs, mW 3 x = false \/ aFl (aPx (xs.headD .non)) xs.length x = false) : stB xs = false := by
 obtain ⟨x, hx, h⟩ := h
 cases hs : stB xs with
 | false => rfl
 | true =>
  unfold stB at hs
  simp only [and_eq_true] at hs
  rcases h with h | h
  ·rw [List.all_eq_true.mp hs.1.2 x hx] at h; cases h
  ·rw [List.all_eq_true.mp hs.2 x hx] at h; cases h
theorem aMw (M : Mch S rk c) {at_ : Nat} {x : D} (hx : Tame x) : ∀ y ∈ (stD S).set at_ x, Tame y := fun y hy => by
 rcases List.mem_or_eq_of_mem_set hy with h | h
 ·obtain ⟨r, hr, rfl⟩ := wL h
  exact aMv M hr
 ·rw [h]; exact hx
theorem aIs (M : Mch S rk c)  {x : D} (h : at_ < S.length) (hx : Tame x) (hb : mW 3 x = false \/ (∃ ys, x = .lst ys /\ ((ys.length ≠ c /\ 1 < S.length) \/ (ys.length = c /\ ∃ y ∈ ys, wJ S.length y = false)))) : aPz (.lst ((stD S).set at_ x)) := by
 have hl : ((stD S).set at_ x).length = S.length := by rw [length_set, lO]
 have h8 := M.most
 refine .inr ⟨_, rfl, by rw [hl]; omega, aMw M hx, aIr ?_⟩
 rw [hl]
 have mem : x ∈ (stD S).set at_ x := List.mem_set (by rw [lO]; exact h) x
 rcases hb with hb | ⟨ys, rfl, ⟨hne, h1⟩ | ⟨he, y, hy, hr⟩⟩
 ·exact ⟨x, mem, .inl hb⟩
 ·by_cases h0 : at_ = 0
  ·subst h0
   obtain ⟨r, T, rfl, hr⟩ := M.row0
   cases T with
   | nil => simp at h1
   | cons r1 T =>
    refine ⟨.lst (nats r1), by simp [stD], .inr ?_⟩
    have hl1 : r1.length = c := (M.row r1 (by simp)).1
    have : ¬ (nats r1).length = ys.length := by rw [eQ, hl1]; exact fun z => hne z.symm
    simp [stD, aFl, aPx, this]
  ·obtain ⟨r, T, rfl, hr⟩ := M.row0
   refine ⟨.lst ys, mem, .inr ?_⟩
   obtain ⟨k, rfl⟩ : ∃ k, at_ = k + 1 := ⟨at_ - 1, by omega⟩
   have : ¬ ys.length = (nats r).length := by rw [eQ, hr]; exact hne
   simp [stD, aFl, aPx, this]
 ·refine ⟨.lst ys, mem, .inr ?_⟩
  have : ys.all (wJ S.length) = false := by
   cases hh : ys.all (wJ S.length) with
   | false => rfl
   | true => rw [List.all_eq_true.mp hh y hy] at hr; cases hr
  simp [aFl, this]
end
end Pu
namespace Pu
theorem aB9 : ∀ d : Nat, d < 10 -> (Nat.digitChar d).toNat = 48 + d := by decide
theorem aIt (h : n < 10) : cG n = [48 + n] := by
 unfold cG
 rw [Nat.toDigits_of_lt_base h, List.map_singleton, aB9 n h]
theorem aQ0 (h : 10 <= n) : cG n = cG (n / 10) ++ [48 + n % 10] := by
 have hm : n % 10 < 10 := Nat.mod_lt n (by decide)
 have t : toDigits 10 (n / 10) ++ toDigits 10 (n % 10) = toDigits 10 (10 * (n / 10) + n % 10) := Nat.toDigits_append_toDigits (by decide) (by omega) hm
 rw [Nat.div_add_mod] at t
 unfold cG
 rw [<- t, List.map_append, Nat.toDigits_of_lt_base hm, List.map_singleton, aB9 _ hm]
theorem aKg (x : List Nat) (c : Nat) : nD (x ++ [c]) = nD x * 10 + (c - 48) := by
 unfold nD
 rw [List.foldl_append]
 rfl
theorem qX (n : Nat) : cG n ≠ [] /\ (∀ c ∈ cG n, 48 <= c /\ c <= 57) /\ nD (cG n) = n /\ (n = 0 \/ ∀ c r, cG n = c :: r -> c ≠ 48) /\ ∀ k, n < 10 ^ (k + 1) -> (cG n).length <= k + 1 := by
 induction n using Nat.strongRecOn with
 | _ n ih =>
  by_cases h : n < 10
  ·rw [aIt h]
   refine ⟨by simp, fun c hc => ?_, ?_, ?_, fun k _ => by simp⟩
   ·rw [List.mem_singleton] at hc; omega
   ·show 0 * 10 + (48 + n - 48) = n; omega
   ·by_cases z : n = 0
    ·exact .inl z
    ·refine .inr fun c r e => ?_
     injection e with e1 _
     omega
  ·have hg : 10 <= n := by omega
   obtain ⟨i1, i2, i3, i4, i5⟩ := ih (n / 10) (by omega)
   rw [aQ0 hg]
   refine ⟨by simp, fun c hc => ?_, ?_, .inr fun c r e => ?_, fun k hk => ?_⟩
   ·rcases List.mem_append.mp hc with z | z
    ·exact i2 c z
    ·rw [List.mem_singleton] at z; omega
   ·rw [aKg, i3]; omega
   ·cases hf : cG (n / 10) with
    | nil => exact (i1 hf).elim
    | cons a b =>
     rw [hf] at e
     injection e with e1 _
     rcases i4 with z | z
     ·omega
     ·rw [<- e1]; exact z a b hf
   ·rw [length_append, length_singleton]
    cases k with
    | zero => rw [Nat.zero_add, Nat.pow_one] at hk; omega
    | succ k =>
     have := i5 k (by rw [Nat.pow_succ] at hk; omega)
     omega
structure NTok (x : List Nat) : Prop where
 ne : x ≠ []
 fig : ∀ c ∈ x, 48 <= c /\ c <= 57
 len : x.length <= 30
 head : x = [48] \/ ∀ c r, x = c :: r -> c ≠ 48
theorem mJ (h : n < 10 ^ 30) : NTok (cG n) := by
 obtain ⟨h1, h2, h3, h4, h5⟩ := qX n
 refine ⟨h1, h2, h5 29 h, ?_⟩
 rcases h4 with z | z
 ·subst z; exact .inl (aIt (by decide))
 ·exact .inr z
inductive AQ where
 | r0 | r (n : Nat) (z : Bool) | c1 | t0 | t (n : Nat) (z : Bool) | s1 | dead
def aCi (c : Nat) : Bool := decide (48 <= c /\ c <= 57)
def rK : AQ -> Nat -> AQ
 | .r0, c => if aCi c = true then .r 1 (c == 48) else .dead
 | .r n z, c => if aCi c = true then (if z = true \/ 30 <= n then .dead else .r (n + 1) false) else if c = 58 then .c1 else .dead
 | .c1, c => if c = 32 then .t0 else .dead
 | .t0, c => if aCi c = true then .t 1 (c == 48) else .dead
 | .t n z, c => if aCi c = true then (if z = true \/ 30 <= n then .dead else .t (n + 1) false) else if c = 32 then .t0 else if c = 59 then .s1 else .dead
 | .s1, c => if c = 32 then .r0 else .dead
 | .dead, _ => .dead
theorem aRo (c : Nat) : rK .r0 c = if aCi c = true then .r 1 (c == 48) else .dead := rfl
theorem aT7 (n : Nat) (z : Bool) (c : Nat) : rK (.r n z) c = if aCi c = true then (if z = true \/ 30 <= n then .dead else .r (n + 1) false) else if c = 58 then .c1 else .dead := rfl
theorem aRp (c : Nat) : rK .c1 c = if c = 32 then .t0 else .dead := rfl
theorem aRq (c : Nat) : rK .t0 c = if aCi c = true then .t 1 (c == 48) else .dead := rfl
theorem aT8 (n : Nat) (z : Bool) (c : Nat) : rK (.t n z) c = if aCi c = true then (if z = true \/ 30 <= n then .dead else .t (n + 1) false) else if c = 32 then .t0 else if c = 59 then .s1 else .dead := rfl
theorem aRr (c : Nat) : rK .s1 c = if c = 32 then .r0 else .dead := rfl
def cP (q : AQ) (x : List Nat) : AQ := x.foldl rK q
def aOk : AQ -> Bool
 | .t _ _ => true
 | _ => false
theorem bU (q : AQ) (x y : List Nat) : cP q (x ++ y) = cP (cP q x) y := List.foldl_append
theorem nJ (q : AQ) (c : Nat) (x : List Nat) : cP q (c :: x) = cP (rK q c) x := rfl
theorem bW : ∀ x : List Nat, cP .dead x = .dead
 | [] => rfl
 | _ :: x => bW x
theorem yU {c : Nat} (h : 48 <= c /\ c <= 57) : aCi c = true := decide_eq_true h
theorem aT9 {c : Nat} (h : ¬ (48 <= c /\ c <= 57)) : aCi c = false := decide_eq_false h
theorem aMx : ∀ (x : List Nat) (n : Nat), (∀ c ∈ x, 48 <= c /\ c <= 57) -> n + x.length <= 30 -> cP (.r n false) x = .r (n + x.length) false
 | [], n, _, _ => rfl
 | c :: x, n, h, hl => by
  rw [length_cons] at hl
  rw [nJ]
  rw [aT7, if_pos (yU (h c mem_cons_self)), if_neg (by simp; omega), aMx x (n + 1) (fun c hc => h c (mem_cons_of_mem _ hc)) (by omega), length_cons]
  congr 1
  omega
theorem aMy : ∀ (x : List Nat) (n : Nat), (∀ c ∈ x, 48 <= c /\ c <= 57) -> n + x.length <= 30 -> cP (.t n false) x = .t (n + x.length) false
 | [], n, _, _ => rfl
 | c :: x, n, h, hl => by
  rw [length_cons] at hl
  rw [nJ]
  rw [aT8, if_pos (yU (h c mem_cons_self)), if_neg (by simp; omega), aMy x (n + 1) (fun c hc => h c (mem_cons_of_mem _ hc)) (by omega), length_cons]
  congr 1
  omega
theorem NTok.cases {x : List Nat} (h : NTok x) : x = [48] \/ ∃ c r, x = c :: r /\ c ≠ 48 /\ (48 <= c /\ c <= 57) /\ (∀ d ∈ r, 48 <= d /\ d <= 57) /\ 1 + r.length <= 30 := by
 rcases h.head with z | z
 ·exact .inl z
 ·cases x with
  | nil => exact (h.ne rfl).elim
  | cons c r => exact .inr ⟨c, r, rfl, z c r rfl, h.fig c mem_cons_self, fun d hd => h.fig d (mem_cons_of_mem _ hd), by have := h.len; rw [length_cons] at this; omega⟩
theorem aA2 {x : List Nat} (h : NTok x) : ∃ n z, cP .r0 x = .r n z := by
 rcases h.cases with rfl | ⟨c, r, rfl, hc, hf, hr, hl⟩
 ·exact ⟨1, true, rfl⟩
 ·refine ⟨1 + r.length, false, ?_⟩
  rw [nJ]
  rw [aRo, if_pos (yU hf), show (c == 48) = false by simpa using hc]
  exact aMx r 1 hr hl
theorem aD8 {x : List Nat} (h : NTok x) : ∃ n z, cP .t0 x = .t n z := by
 rcases h.cases with rfl | ⟨c, r, rfl, hc, hf, hr, hl⟩
 ·exact ⟨1, true, rfl⟩
 ·refine ⟨1 + r.length, false, ?_⟩
  rw [nJ]
  rw [aRq, if_pos (yU hf), show (c == 48) = false by simpa using hc]
  exact aMy r 1 hr hl
theorem dX (y x : List Nat) (r : List (List Nat)) (h : r ≠ []) : cJ y (x :: r) = x ++ y ++ cJ y r := by
 cases r with
 | nil => exact (h rfl).elim
 | cons a b => rfl
def cV : List (List Nat) -> List Nat
 | [] => []
 | r :: ts => r ++ [58, 32] ++ cJ [32] ts
def dO (row : List (List Nat)) : Prop := ∃ r ts, row = r :: ts /\ NTok r /\ ts ≠ [] /\ ∀ t ∈ ts, NTok t
theorem aFn : ∀ (ts : List (List Nat)), ts ≠ [] -> (∀ t ∈ ts, NTok t) -> ∃ n z, cP .t0 (cJ [32] ts) = .t n z
 | [], h, _ => (h rfl).elim
 | [x], _, h => aD8 (h x mem_cons_self)
 | x :: y :: r, _, h => by
  obtain ⟨n, z, e⟩ := aD8 (h x mem_cons_self)
  rw [dX _ _ _ (by simp), bU, bU, e]
  exact aFn (y :: r) (by simp) fun t ht => h t (mem_cons_of_mem _ ht)
theorem aFo {r : List Nat} (h : NTok r) : cP .r0 (r ++ [58, 32]) = .t0 := by
 obtain ⟨n, z, e⟩ := aA2 h
 rw [bU, e]
 rfl
theorem aAk (h : dO row) : ∃ n z, cP .r0 (cV row) = .t n z := by
 obtain ⟨r, ts, rfl, hr, hn, ht⟩ := h
 unfold cV
 rw [bU, aFo hr]
 exact aFn ts hn ht
theorem aBa : ∀ (rows : List (List (List Nat))), rows ≠ [] -> (∀ row ∈ rows, dO row) -> ∃ n z, cP .r0 (cJ [59, 32] (rows.map cV)) = .t n z
 | [], h, _ => (h rfl).elim
 | [x], _, h => aAk (h x mem_cons_self)
 | x :: y :: r, _, h => by
  obtain ⟨n, z, e⟩ := aAk (h x mem_cons_self)
  rw [map_cons, dX _ _ _ (by simp), bU, bU, e]
  exact aBa (y :: r) (by simp) fun t ht => h t (mem_cons_of_mem _ ht)
theorem qF (y : List Nat) : ∀ (x : List Nat) (k : Nat) (cur : List Nat), bC y k cur x ≠ []
 | [], k, cur => by cases k <;> simp [bC]
 | c :: r, 0, cur => by
  unfold bC
  split
  ·simp
  ·exact qF y r 0 _
 | _ :: r, k + 1, cur => qF y r k cur
theorem join_split (y : List Nat) (hy : y ≠ []) : ∀ (x : List Nat) (k : Nat) (cur : List Nat), cJ y (bC y k cur x) = cur ++ x.drop k
 | [], k, cur => by cases k <;> simp [bC, cJ]
 | c :: r, 0, cur => by
  unfold bC
  split
  ·rename_i h
   rw [dX _ _ _ (qF y r _ _), join_split y hy r, nil_append, List.append_assoc]
   congr 1
   obtain ⟨a, t, rfl⟩ : ∃ a t, y = a :: t := by cases y with
    | nil => exact (hy rfl).elim
    | cons a t => exact ⟨a, t, rfl⟩
   have e := List.take_append_drop (a :: t).length (c :: r)
   rw [h] at e
   rw [drop_zero, <- e]
   rfl
  ·rw [join_split y hy r, List.append_assoc]; rfl
 | c :: r, k + 1, cur => by
  rw [show bC y (k + 1) cur (c :: r) = bC y k cur r from rfl, join_split y hy r]
  rfl
theorem yV (h : Nat) (t : List Nat) : ∀ (a cur rest : List Nat), (∀ c ∈ a, c ≠ h) -> bC (h :: t) 0 cur (a ++ rest) = bC (h :: t) 0 (cur ++ a) rest
 | [], cur, rest, _ => by rw [append_nil]; rfl
 | c :: a, cur, rest, hc => by
  rw [cons_append]
  rw [bC]
  rw [if_neg (fun z => by
   rw [length_cons, take_succ_cons] at z
   injection z with z1 _
   exact hc c mem_cons_self z1), yV h t a _ _ fun d hd => hc d (mem_cons_of_mem _ hd), List.append_assoc]
  rfl
theorem aBb (y : List Nat) : ∀ (t cur rest : List Nat), bC y t.length cur (t ++ rest) = bC y 0 cur rest
 | [], _, _ => rfl
 | _ :: t, cur, rest => aBb y t cur rest
theorem aMz (h : Nat) (t cur rest : List Nat) : bC (h :: t) 0 cur ((h :: t) ++ rest) = cur :: bC (h :: t) 0 [] rest := by
 rw [cons_append, bC]
 rw [if_pos (by rw [<- cons_append, List.take_left' rfl])]
 rw [show (h :: t).length - 1 = t.length from rfl, aBb]
theorem vL (h : Nat) (t : List Nat) : ∀ (ps : List (List Nat)), ps ≠ [] -> (∀ p ∈ ps, ∀ c ∈ p, c ≠ h) -> bC (h :: t) 0 [] (cJ (h :: t) ps) = ps
 | [], hn, _ => (hn rfl).elim
 | [x], _, hx => by
  show bC (h :: t) 0 [] x = [x]
  have := yV h t x [] [] (hx x mem_cons_self)
  rw [append_nil] at this
  rw [this]
  rfl
 | x :: y :: r, _, hx => by
  rw [dX _ _ _ (by simp), List.append_assoc, yV h t x [] _ (hx x mem_cons_self), aMz, vL h t (y :: r) (by simp) fun p hp => hx p (mem_cons_of_mem _ hp)]
  rfl
theorem aHi (a b : List Nat) (ha : ∀ c ∈ a, c ≠ 58) : kO (a ++ [58, 32] ++ b) [58, 32] 0 = some a.length := by
 unfold kO
 rw [List.find?_range'_eq_some]
 refine ⟨?_, ?_, fun j _ hj => ?_⟩
 ·simp
 ·simp
  omega
 ·rw [not_eq_true', Bool.and_eq_false_iff]
  right
  have hj' : j < a.length := hj
  have e : (a ++ [58, 32] ++ b).drop j = a[j] :: (a.drop (j + 1) ++ ([58, 32] ++ b)) := by
   rw [List.append_assoc, List.drop_append_of_le_length (by omega), drop_eq_getElem_cons hj']
   rfl
  rw [e]
  have := ha _ (List.getElem_mem hj')
  simp [this]
theorem find_some {x : List Nat}  (h : kO x [58, 32] 0 = some i) : x = x.take i ++ [58, 32] ++ x.drop (i + 2) := by
 unfold kO at h
 have := List.find?_some h
 simp only [and_eq_true, decide_eq_true_eq, beq_iff_eq] at this
 obtain ⟨h1, h2⟩ := this
 have e := List.take_append_drop 2 (x.drop i)
 rw [show ([58, 32] : List Nat).length = 2 from rfl] at h2
 rw [h2, List.drop_drop] at e
 rw [List.append_assoc, e, List.take_append_drop]
end Pu
namespace Pu
theorem aAl {a b : Bd} {st : PSt}  (h : a st = .exc d) : cQ a b st = .exc d := by
 rw [aE3, h]
 rfl
theorem uF {b : Bd}  {d : D} (h : ds.length = np) (hb : b (ds.map (fun d => some (.v d)) ++ List.replicate (n - np) none) = .exc d) : fV np n b ds = .exc d := by
 rw [aE5 h, hb]
 rfl
theorem yW {st : PSt}  (h : r st = .ok [d]) : mQ c r st = .exc (.exn c [] []) := by
 show (r st).nox.bind _ = _
 rw [h]
 exact aG (show 1 <= 100 by decide)
theorem vM {st : PSt}  (h : f st = .ok d) : eNX f st = .ok d := by
 show (f st).nox = _
 rw [h]; rfl
theorem aHj {b : Bd} {st : PSt} {d : Fl} (h : b st = .ok d) : sNX b st = .ok d := by
 show (b st).nox = _
 rw [h]; rfl
theorem fM {st : PSt}  {x : R D} (h : r st = .ok ds) (hp : p ds = x) : gP p r st = x := by
 show (r st).nox.bind p = _
 rw [h]; exact hp
theorem fC {op : D -> R D}  {st : PSt} {x : D}  (hf : f st = .ok x) (h : op x = z) : e1 op f st = z := by
 show (f st).bind op = _
 rw [hf]; exact h
theorem qG {m : Mop}   {st : PSt} {x : D}   (hf : f st = .ok x) (hr : r st = .ok xs) (h : m x xs = z) : eMt m f r st = z := by
 show (f st).bind (fun x => (r st).bind fun xs => m x xs) = _
 rw [hf, aN, hr]; exact h
theorem aEa (x y : List Nat) : dEq (.str x) (.str y) = .ok (.bl (x == y)) := by simp
theorem aN0 (x y : List Nat) : dNe (.str x) (.str y) = .ok (.bl (!(x == y))) := by simp
theorem aWk {x : List Nat} (h : x.length <= 1000000) : eE (.str x) = .ok (.int (x.length : Nat)) := aG (dW (Nat.le_trans h (by decide)))
theorem uX {α : Type} (p : α -> Bool) : ∀ x : List α, x.dropWhile p = [] ↔ ∀ c ∈ x, p c = true
 | [] => by simp
 | a :: x => by
  cases h : p a with
  | true => rw [List.dropWhile_cons_of_pos h, uX p x]; simp [h]
  | false => rw [List.dropWhile_cons_of_neg (by simp [h])]; simp [h]
theorem takeWhile_all {α : Type} (p : α -> Bool) : ∀ (x : List α) (c : α), c ∈ x.takeWhile p -> p c = true
 | [], c, h => by simp at h
 | a :: x, c, h => by
  cases ha : p a with
  | true =>
   rw [List.takeWhile_cons_of_pos ha] at h
   rcases List.mem_cons.mp h with rfl | h
   ·exact ha
   ·exact takeWhile_all p x c h
  | false => rw [List.takeWhile_cons_of_neg (by simp [ha])] at h; simp at h
theorem aHk (x y : List Nat) : kY x y = [] ↔ ∀ c ∈ x, c ∈ y := by
 unfold kY
 rw [List.reverse_eq_nil_iff, uX]
 constructor
 ·intro h
  have h2 : ∀ c ∈ x.dropWhile (fun c => y.contains c), c ∈ y := fun c hc => by simpa using h c (by simpa using hc)
  have h3 : ∀ c ∈ x.takeWhile (fun c => y.contains c), c ∈ y := fun c hc => by
   simpa using takeWhile_all (fun c => y.contains c) x c hc
  intro c hc
  rw [<- List.takeWhile_append_dropWhile (p := fun c => y.contains c) (l := x)] at hc
  exact (List.mem_append.mp hc).elim (h3 c) (h2 c)
 ·intro h c hc
  rw [List.mem_reverse] at hc
  have : c ∈ x := List.IsSuffix.subset (List.dropWhile_suffix _) hc
  simpa using h c this
def aKh (x : List Nat) : Bool := !(x == [] || (decide ((30 : Int) < (x.length : Nat)) || !(kY x [48, 49, 50, 51, 52, 53, 54, 55, 56, 57] == []))) && (x == [48] || !(decide (1 <= x.length) && (x.take 1 == [48])))
theorem aIu (x : List Nat) : aKh x = true ↔ NTok x := by
 have hs : (kY x [48, 49, 50, 51, 52, 53, 54, 55, 56, 57] == []) = true ↔ ∀ c ∈ x, 48 <= c /\ c <= 57 := by
  rw [beq_iff_eq, aHk]
  refine forall_congr' fun c => imp_congr_right fun _ => ?_
  simp only [mem_cons, not_mem_nil, or_false]
  omega
 unfold aKh
 constructor
 ·intro h
  simp only [and_eq_true, not_eq_true', Bool.or_eq_false_iff, Bool.not_eq_false', or_eq_true, Bool.and_eq_false_iff, decide_eq_false_iff_not, beq_eq_false_iff_ne, beq_iff_eq] at h
  obtain ⟨⟨h1, h2, h3⟩, h4⟩ := h
  refine ⟨h1, hs.mp (by rw [h3]; rfl), by omega, ?_⟩
  rcases h4 with z | z | z
  ·exact .inl z
  ·exact absurd (List.length_pos_iff.mpr h1) z
  ·refine .inr fun c r e hc => z ?_
   rw [e, hc]; rfl
 ·intro h
  have h3 := hs.mpr h.fig
  have hl := h.len
  simp only [and_eq_true, not_eq_true', Bool.or_eq_false_iff, Bool.not_eq_false', or_eq_true, Bool.and_eq_false_iff, decide_eq_false_iff_not, beq_eq_false_iff_ne]
  refine ⟨⟨h.ne, by omega, h3⟩, ?_⟩
  rcases h.head with z | z
  ·exact .inl (by rw [z]; rfl)
  ·right; right
   intro e
   cases x with
   | nil => exact h.ne rfl
   | cons c r =>
    rw [take_succ_cons] at e
    injection e with e1 _
    exact z c r rfl e1
theorem aFp (x : List Nat) (hl : x.length <= 1000000) : gZ [.str x] = .ok (.bl (aKh x)) := by
 have hA : eOr (e2 dEq (aD 0) (eC (.str []))) (eOr (e2 dGt (e1 eE (aD 0)) (eC (.int 30))) (e2 dNe (eMt vB (aD 0) (aB (eC (.str [48, 49, 50, 51, 52, 53, 54, 55, 56, 57])) (aV))) (eC (.str [])))) [some (.v (.str x))] = .ok (.bl (x == [] || (decide ((30 : Int) < (x.length : Nat)) || !(kY x [48, 49, 50, 51, 52, 53, 54, 55, 56, 57] == [])))) :=
  aIn (aQ rfl rfl (aEa _ _)) fun _ => aIn (aQ (fC rfl (aWk hl)) rfl rfl) fun _ => aQ (qG rfl rfl (show vB (.str x) _ = _ from aG (dW (Nat.le_trans hl (by decide))))) rfl (aN0 _ _)
 have hB : eOr (e2 dEq (aD 0) (eC (.str [48]))) (wB (eMt wG (aD 0) (aB (eC (.str [48])) (aV)))) [some (.v (.str x))] = .ok (.bl (x == [48] || !(decide (1 <= x.length) && (x.take 1 == [48])))) :=
  aIn (aQ rfl rfl (aEa _ _)) fun _ => yM (qG rfl rfl rfl)
 refine fG rfl ?_
 unfold aKh
 cases hb : (x == [] || (decide ((30 : Int) < (x.length : Nat)) || !(kY x [48, 49, 50, 51, 52, 53, 54, 55, 56, 57] == [])))
 ·rw [hb] at hA
  exact cU (vK hA rfl) (lA hB)
 ·rw [hb] at hA
  exact aE9 (aFg hA (lA rfl))
abbrev aEb : R D := .exc (.exn "NoText" [] [])
theorem aIv {x : List Nat} (h : NTok x) : fD [.str x] = .ok (.int (nD x : Nat)) := by
 have hl := h.len
 have e := aFp x (by omega)
 rw [(aIu x).mpr h] at e
 refine fG rfl (cU (vK (vM (yM (p := true) (bJ rfl e))) rfl) (aHj (lA (fC rfl (aG ⟨h.ne, ?_, by omega⟩)))))
 refine List.all_eq_true.mpr fun c hc => ?_
 unfold aIk
 rw [decide_eq_true (h.fig c hc).1, decide_eq_true (h.fig c hc).2]
 rfl
theorem aN1 {x : List Nat} (h : ¬ NTok x) (hl : x.length <= 1000000) : fD [.str x] = aEb := by
 have e := aFp x hl
 rw [show aKh x = false by cases z : aKh x with
  | false => rfl
  | true => exact (h ((aIu x).mp z)).elim] at e
 exact uF rfl (aAl (aFg (vM (yM (p := false) (bJ rfl e))) (yW rfl)))
theorem aD9 {f : Ex} {st : PSt} {j : Nat} {e : D} : ∀ (xs : List D), (∀ x ∈ xs, (∃ d, f (st.set j (some (.v x))) = .ok d) \/ f (st.set j (some (.v x))) = .exc e) -> (∃ x ∈ xs, f (st.set j (some (.v x))) = .exc e) -> cY (tgN j) aZ f st xs = .exc e
 | [], _, ⟨_, hx, _⟩ => nomatch hx
 | x :: xs, h, hb => by
  have hc : cY (tgN j) aZ f st (x :: xs) = (f (st.set j (some (.v x)))).bind fun y => (cY (tgN j) aZ f st xs).bind fun ys => .ok (y :: ys) := rfl
  rcases h x mem_cons_self with ⟨d, hd⟩ | hd
  ·rw [hc, hd, aN, aD9 xs (fun y hy => h y (mem_cons_of_mem _ hy))]
   ·rfl
   ·obtain ⟨y, hy, he⟩ := hb
    rcases List.mem_cons.mp hy with z | z
    ·rw [z, hd] at he; cases he
    ·exact ⟨y, z, he⟩
  ·rw [hc, hd]; rfl
theorem wM {st : PSt}   {r : R (List D)} (h : it st = .ok xs) (hl : xs.length <= 1000000) (hr : cY (tgN j) aZ f (clr [j] st) xs = r) : jD j it f st = r.bind fun ys => .ok (.lst ys) := by
 unfold jD
 rw [h]
 show aH _ _ = _
 rw [aG (dW (Nat.le_trans hl (by decide))), hr]
theorem nM (y : List Nat) : ∀ (x : List Nat) (k : Nat) (cur : List Nat), (bC y k cur x).length <= x.length + 1 /\ ∀ p ∈ bC y k cur x, p.length <= cur.length + x.length
 | [], k, cur => by cases k <;> simp [bC]
 | c :: r, 0, cur => by
  unfold bC
  split
  ·obtain ⟨h1, h2⟩ := nM y r (y.length - 1) []
   refine ⟨by rw [length_cons, length_cons]; omega, fun p hp => ?_⟩
   rcases List.mem_cons.mp hp with z | z
   ·rw [z]; omega
   ·have := h2 p z; rw [length_nil] at this; rw [length_cons]; omega
  ·obtain ⟨h1, h2⟩ := nM y r 0 (cur ++ [c])
   refine ⟨by rw [length_cons]; omega, fun p hp => ?_⟩
   have := h2 p hp
   rw [length_append, length_singleton] at this
   rw [length_cons]; omega
 | c :: r, k + 1, cur => by
  obtain ⟨h1, h2⟩ := nM y r k cur
  rw [show bC y (k + 1) cur (c :: r) = bC y k cur r from rfl]
  refine ⟨by rw [length_cons]; omega, fun p hp => ?_⟩
  have := h2 p hp
  rw [length_cons]; omega
theorem yX {x y : List Nat} (hy : y ≠ []) (hk : y.all (fun c => decide (c < 256)) = true) (hl : x.length <= 1000000) : pG (.str x) [.str y] = .ok (.lst ((bC y 0 [] x).map .str)) := aG ⟨hy, hk, dW (by omega)⟩
def aN2 (r : List Nat) (ts : List (List Nat)) : D := .tup [.int (nD r : Nat), .lst (nats (ts.map nD))]
theorem aFq (p : List Nat) (hl : p.length <= 100000) : (∃ i, kO p [58, 32] 0 = some i /\ NTok (p.take i) /\ (∀ t ∈ bC [32] 0 [] (p.drop (i + 2)), NTok t) /\ p = cV (p.take i :: bC [32] 0 [] (p.drop (i + 2))) /\ fW [.str p] = .ok (aN2 (p.take i) (bC [32] 0 [] (p.drop (i + 2))))) \/
  ((∀ i, kO p [58, 32] 0 = some i -> NTok (p.take i) -> ¬ ∀ t ∈ bC [32] 0 [] (p.drop (i + 2)), NTok t) /\ fW [.str p] = aEb) := by
 have hp : aCz (.str p) [.str [58, 32]] = (match kO p [58, 32] 0 with
  | some i => .ok (.tup [.str (p.take i), .str [58, 32], .str (p.drop (i + 2))])
  | none => .ok (.tup [.str p, .str [], .str []])) := aG ⟨by decide, dW (by omega)⟩
 cases hf : kO p [58, 32] 0 with
 | none =>
  rw [hf] at hp
  refine .inr ⟨fun i e => (nomatch e), ?_⟩
  refine uF rfl (cI (st' := [some (.v (.str p)), some (.v (.tup [.str p, .str [], .str []])), none]) (aHj (dD (qG rfl rfl hp))) (aAl (aFg (vM (aQ (aQ rfl rfl rfl) rfl (aEa _ _))) (yW rfl))))
 | some i =>
  rw [hf] at hp
  have st1 := cI (b := cQ (sIf (eNX (e2 dEq (e2 dIx (aD 1) (eC (.int 1))) (eC (.str [])))) (mQ "NoText" (aB (eC (.str [97, 32, 114, 111, 111, 109, 32, 105, 115, 32, 105, 116, 115, 32, 114, 97, 110, 107, 44, 32, 97, 32, 99, 111, 108, 111, 110, 32, 97, 110, 100, 32, 97, 32, 98, 108, 97, 110, 107, 44, 32, 97, 110, 100, 32, 116, 104, 101, 32, 114, 111, 111, 109, 115, 32, 116, 111, 32, 119, 104, 105, 99, 104, 32, 105, 116, 115, 32, 108, 101, 116, 116, 101, 114, 115, 32, 108, 101, 97, 100])) (aV))) (eN)) (eV (aF8 (aB (gP fD (aB (e2 dIx (aD 1) (eC (.int 0))) (aV))) (aB (jD 2 (itE (eMt pG (e2 dIx (aD 1) (eC (.int 2))) (aB (eC (.str [32])) (aV)))) lL) (aV)))))) (st' := [some (.v (.str p)), some (.v (.tup [.str (p.take i), .str [58, 32], .str (p.drop (i + 2))])), none]) (aHj (dD (i := 1) (qG (f := aD 0) (r := aB (eC (.str [58, 32])) aV) (st := [some (.v (.str p)), none, none]) rfl rfl hp)))
   (cU (vK (vM (aQ (aQ rfl rfl rfl) rfl (aEa _ _))) rfl) rfl)
  have hlt : (p.take i).length <= 100000 := by rw [length_take]; omega
  have hld : (p.drop (i + 2)).length <= 100000 := by rw [length_drop]; omega
  obtain ⟨sz1, sz2⟩ := nM [32] (p.drop (i + 2)) 0 []
  have hit : itE (eMt pG (e2 dIx (aD 1) (eC (.int 2))) (aB (eC (.str [32])) aV)) [some (.v (.str p)), some (.v (.tup [.str (p.take i), .str [58, 32], .str (p.drop (i + 2))])), none] = .ok ((bC [32] 0 [] (p.drop (i + 2))).map .str) := sU (qG (aQ rfl rfl rfl) rfl (yX (by decide) (by decide) (by omega)))
  by_cases hr : NTok (p.take i)
  ·by_cases ht : ∀ t ∈ bC [32] 0 [] (p.drop (i + 2)), NTok t
   ·left
    refine ⟨i, rfl, hr, ht, ?_, ?_⟩
    ·have e := find_some hf
     show p = p.take i ++ [58, 32] ++ cJ [32] (bC [32] 0 [] (p.drop (i + 2)))
     rw [join_split [32] (by decide), drop_zero, nil_append]
     exact e
    ·refine fG rfl (st1.trans (lA ?_))
     have hc := kZ (tg := tgN 2) (c := aZ) (f := lL) (st := [some (.v (.str p)), some (.v (.tup [.str (p.take i), .str [58, 32], .str (p.drop (i + 2))])), none]) (fun d => match d with | .str x => .int (nD x : Nat) | _ => .non) ((bC [32] 0 [] (p.drop (i + 2))).map .str) (fun d hd => by
      obtain ⟨x, hx, rfl⟩ := List.mem_map.mp hd
      exact ⟨_, rfl, rfl, fM rfl (aIv (ht x hx))⟩)
     have hX := wM (j := 2) hit (by rw [length_map]; omega) hc
     have e2 : ((bC [32] 0 [] (p.drop (i + 2))).map D.str).map (fun d => match d with | .str x => D.int (nD x : Nat) | _ => .non) = nats ((bC [32] 0 [] (p.drop (i + 2))).map nD) := by
      unfold nats
      rw [List.map_map, List.map_map]
      rfl
     rw [e2] at hX
     show (aB _ _ _).bind _ = _
     rw [aF (fM (aF (aQ rfl rfl rfl) rfl) (aIv hr)) (aF hX rfl)]
     exact aG (dW (show 2 <= 10000000 by decide))
   ·refine .inr ⟨fun i' e _ z => (by cases e; exact ht z), ?_⟩
    refine uF rfl (st1.trans ?_)
    have hb : cY (tgN 2) aZ lL [some (.v (.str p)), some (.v (.tup [.str (p.take i), .str [58, 32], .str (p.drop (i + 2))])), none] ((bC [32] 0 [] (p.drop (i + 2))).map .str) = .exc (.exn "NoText" [] []) := by
     refine aD9 _ (fun d hd => ?_) ?_
     ·obtain ⟨x, hx, rfl⟩ := List.mem_map.mp hd
      by_cases hk : NTok x
      ·exact .inl ⟨_, fM rfl (aIv hk)⟩
      ·exact .inr (fM rfl (aN1 hk (by have := sz2 x hx; rw [length_nil] at this; omega)))
     ·obtain ⟨x, hx⟩ := Classical.not_forall.mp ht
      obtain ⟨hx1, hx2⟩ := Classical.not_imp.mp hx
      exact ⟨_, List.mem_map_of_mem hx1, fM rfl (aN1 hx2 (by have := sz2 x hx1; rw [length_nil] at this; omega))⟩
    have hX := wM (j := 2) hit (by rw [length_map]; omega) hb
    show ((aB _ (aB _ aV) _).bind _).bind _ = _
    rw [wF, fM (aF (aQ rfl rfl rfl) rfl) (aIv hr), aN, wF, hX]
    rfl
  ·refine .inr ⟨fun i' e z => (by cases e; exact (hr z).elim), ?_⟩
   refine uF rfl (st1.trans ?_)
   show ((aB _ (aB _ aV) _).bind _).bind _ = _
   rw [wF, fM (aF (aQ rfl rfl rfl) rfl) (aN1 hr (by omega))]
   rfl
theorem aKi {r : List Nat} {ts : List (List Nat)} (hr : NTok r) (hn : ts ≠ []) (ht : ∀ t ∈ ts, NTok t) : kO (cV (r :: ts)) [58, 32] 0 = some r.length /\ (cV (r :: ts)).take r.length = r /\ bC [32] 0 [] ((cV (r :: ts)).drop (r.length + 2)) = ts := by
 refine ⟨aHi r _ fun c hc => by have := hr.fig c hc; omega, ?_, ?_⟩
 ·show (r ++ [58, 32] ++ cJ [32] ts).take r.length = r
  rw [List.append_assoc, List.take_left' rfl]
 ·have : (cV (r :: ts)).drop (r.length + 2) = cJ [32] ts := by
   show (r ++ [58, 32] ++ cJ [32] ts).drop (r.length + 2) = _
   exact List.drop_left' (by rw [length_append]; rfl)
  rw [this]
  exact vL 32 [] ts hn fun p hp c hc => by have := (ht p hp).fig c hc; omega
theorem aKj {r : List Nat} {ts : List (List Nat)} (hr : NTok r) (hn : ts ≠ []) (ht : ∀ t ∈ ts, NTok t) (hl : (cV (r :: ts)).length <= 100000) : fW [.str (cV (r :: ts))] = .ok (aN2 r ts) := by
 obtain ⟨h1, h2, h3⟩ := aKi hr hn ht
 rcases aFq _ hl with ⟨i, e1, _, _, _, e2⟩ | ⟨h, _⟩
 ·rw [h1] at e1
  cases e1
  rw [e2, h2, h3]
 ·exact (h _ h1 (by rw [h2]; exact hr) (by rw [h3]; exact ht)).elim
def aAf (row : List (List Nat)) : D := aN2 (row.headD []) row.tail
theorem aN3 (t : List Nat) (st : PSt) : eB aK5 (aD 0) (some (.v (.str t)) :: st) = .ok (.bl true) := by simp [aK5]
theorem aFr : ∀ (ps : List (List Nat)), (∀ p ∈ ps, p.length <= 100000) -> (∃ rows : List (List (List Nat)), ps = rows.map cV /\ (∀ row ∈ rows, dO row) /\ ∀ st : PSt, 2 < st.length -> cY (tgN 2) aZ bN st (ps.map .str) = .ok (rows.map aAf)) \/ ∀ st : PSt, 2 < st.length -> cY (tgN 2) aZ bN st (ps.map .str) = .exc (.exn "NoText" [] [])
 | [], _ => .inl ⟨[], rfl, fun _ h => (nomatch h), fun _ _ => rfl⟩
 | p :: ps, hl => by
  have hv : ∀ st : PSt, 2 < st.length -> bN (st.set 2 (some (.v (.str p)))) = fW [.str p] := fun st h => fM (aF (by
   show aD 2 _ = _
   simp [h]) rfl) rfl
  have hc : ∀ st : PSt, cY (tgN 2) aZ bN st ((p :: ps).map .str) = (bN (st.set 2 (some (.v (.str p))))).bind fun y => (cY (tgN 2) aZ bN st (ps.map .str)).bind fun ys => .ok (y :: ys) := fun st => rfl
  rcases aFq p (hl p mem_cons_self) with ⟨i, e1, e2, e3, e4, e5⟩ | ⟨_, e⟩
  ·rcases aFr ps (fun q hq => hl q (mem_cons_of_mem _ hq)) with ⟨rows, h1, h2, h3⟩ | h
   ·refine .inl ⟨(p.take i :: bC [32] 0 [] (p.drop (i + 2))) :: rows, ?_, fun row hrow => ?_, fun st hs => ?_⟩
    ·rw [map_cons, <- e4, h1]
    ·rcases List.mem_cons.mp hrow with z | z
     ·exact ⟨_, _, z, e2, qF _ _ _ _, e3⟩
     ·exact h2 row z
    ·rw [hc, hv st hs, e5, aN, h3 st hs]
     rfl
   ·exact .inr fun st hs => by rw [hc, hv st hs, e5, aN, h st hs]; rfl
  ·exact .inr fun st hs => by rw [hc, hv st hs, e]; rfl
theorem aDa : ∀ (rows : List (List (List Nat))), (∀ row ∈ rows, dO row /\ (cV row).length <= 100000) -> ∀ st : PSt, 2 < st.length -> cY (tgN 2) aZ bN st ((rows.map cV).map .str) = .ok (rows.map aAf)
 | [], _, _, _ => rfl
 | row :: rows, h, st, hs => by
  obtain ⟨⟨r, ts, rfl, hr, hn, ht⟩, hl⟩ := h row mem_cons_self
  have hv : bN (st.set 2 (some (.v (.str (cV (r :: ts)))))) = fW [.str (cV (r :: ts))] := fM (aF (by
   show aD 2 _ = _
   simp [hs]) rfl) rfl
  show (bN (st.set 2 (some (.v (.str (cV (r :: ts))))))).bind (fun y => (cY (tgN 2) aZ bN st ((rows.map cV).map .str)).bind fun ys => .ok (y :: ys)) = _
  rw [hv, aKj hr hn ht hl, aN, aDa rows (fun q hq => h q (mem_cons_of_mem _ hq)) st hs]
  rfl
def sV (rows : List (List (List Nat))) : D := .lst (rows.map fun row => .lst (nats (row.tail.map nD)))
def yZ (rows : List (List (List Nat))) : D := .lst (rows.map fun row => .int (nD (row.headD []) : Nat))
theorem aQ1 {t : List Nat}  (hl : t.length <= 100000) (hr : rows.length <= 100001) (h : ∀ st : PSt, 2 < st.length -> cY (tgN 2) aZ bN st ((bC [59, 32] 0 [] t).map .str) = .ok (rows.map aAf)) : cB [.str t] = bD [sV rows, yZ rows] := by
 obtain ⟨sz1, _⟩ := nM [59, 32] t 0 []
 have hit : itE (eMt pG (aD 0) (aB (eC (.str [59, 32])) aV)) [some (.v (.str t)), none, none, none] = .ok ((bC [59, 32] 0 [] t).map .str) := sU (qG rfl rfl (yX (by decide) (by decide) (by omega)))
 have hX := wM (j := 2) hit (by rw [length_map]; omega) (h _ (by show 2 < 4; decide))
 have c2 := kZ (tg := tgN 3) (c := aZ) (f := iD) (st := [some (.v (.str t)), some (.v (.lst (rows.map aAf))), none, none]) (fun d => match d with | .tup [_, b] => b | _ => .non) (rows.map aAf) (fun d hd => by
  obtain ⟨row, _, rfl⟩ := List.mem_map.mp hd
  exact ⟨_, rfl, rfl, aQ rfl rfl rfl⟩)
 have c1 := kZ (tg := tgN 3) (c := aZ) (f := iC) (st := [some (.v (.str t)), some (.v (.lst (rows.map aAf))), none, none]) (fun d => match d with | .tup [a, _] => a | _ => .non) (rows.map aAf) (fun d hd => by
  obtain ⟨row, _, rfl⟩ := List.mem_map.mp hd
  exact ⟨_, rfl, rfl, aQ rfl rfl rfl⟩)
 have k2 := jR (is := [3]) (it := itE (aD 1)) (st := [some (.v (.str t)), some (.v (.lst (rows.map aAf))), none, none]) (sU rfl) (by rw [length_map]; omega) c2
 have k1 := jR (is := [3]) (it := itE (aD 1)) (st := [some (.v (.str t)), some (.v (.lst (rows.map aAf))), none, none]) (sU rfl) (by rw [length_map]; omega) c1
 rw [List.map_map] at k1 k2
 have hb : gU [some (.v (.str t)), none, none, none] = eV (gP bD (aB (cT [3] (tgN 3) (itE (aD 1)) aZ (iD)) (aB (cT [3] (tgN 3) (itE (aD 1)) aZ (iC)) (aV)))) [some (.v (.str t)), some (.v (.lst (rows.map aAf))), none, none] :=
  cU (vK (vM (yM (p := true) (aN3 t _))) rfl) (cI (st' := [some (.v (.str t)), some (.v (.lst (rows.map aAf))), none, none]) (dD hX) rfl)
 have hc : gP bD (aB (cT [3] (tgN 3) (itE (aD 1)) aZ (iD)) (aB (cT [3] (tgN 3) (itE (aD 1)) aZ (iC)) (aV))) [some (.v (.str t)), some (.v (.lst (rows.map aAf))), none, none] = bD [sV rows, yZ rows] := fM (aF k2 (aF k1 rfl)) rfl
 show fV 1 4 gU [.str t] = _
 rw [aE5 (show ([D.str t] : List D).length = 1 from rfl)]
 show (gU [some (.v (.str t)), none, none, none]).bind _ = _
 rw [hb, qR, hc]
 cases bD [sV rows, yZ rows] <;> rfl
theorem aN4 (t : List Nat) (hl : t.length <= 100000) : (∃ rows : List (List (List Nat)), rows ≠ [] /\ (∀ row ∈ rows, dO row) /\ t = cJ [59, 32] (rows.map cV)) \/ cB [.str t] = aEb := by
 obtain ⟨sz1, sz2⟩ := nM [59, 32] t 0 []
 rcases aFr (bC [59, 32] 0 [] t) (fun p hp => by have := sz2 p hp; rw [length_nil] at this; omega) with ⟨rows, h1, h2, h3⟩ | h
 ·refine .inl ⟨rows, fun z => ?_, h2, ?_⟩
  ·rw [z] at h1; exact qF _ _ _ _ h1
  ·rw [<- h1, join_split [59, 32] (by decide), drop_zero, nil_append]
 ·right
  have hit : itE (eMt pG (aD 0) (aB (eC (.str [59, 32])) aV)) [some (.v (.str t)), none, none, none] = .ok ((bC [59, 32] 0 [] t).map .str) := sU (qG rfl rfl (yX (by decide) (by decide) (by omega)))
  have hX := wM (j := 2) hit (by rw [length_map]; omega) (h _ (by show 2 < 4; decide))
  refine uF rfl (cU (vK (vM (yM (p := true) (aN3 t _))) rfl) (aAl ?_))
  show (jD 2 _ bN [some (.v (.str t)), none, none, none]).bind _ = _
  rw [hX]
  rfl
theorem aKk (rows : List (List (List Nat))) (hn : rows ≠ []) (h : ∀ row ∈ rows, dO row /\ (cV row).length <= 100000) (hl : (cJ [59, 32] (rows.map cV)).length <= 100000) (hr : rows.length <= 100001) : cB [.str (cJ [59, 32] (rows.map cV))] = bD [sV rows, yZ rows] := by
 refine aQ1 hl hr fun st hs => ?_
 rw [vL 59 [32] _ (by simpa using hn) (fun p hp c hc => ?_)]
 ·exact aDa rows h st hs
 ·obtain ⟨row, hrow, rfl⟩ := List.mem_map.mp hp
  obtain ⟨⟨r, ts, rfl, hr', hn', ht⟩, _⟩ := h row hrow
  have hj : ∀ (ts : List (List Nat)), (∀ t ∈ ts, NTok t) -> ∀ c ∈ cJ [32] ts, c ≠ 59 := by
   intro ts
   induction ts with
   | nil => exact fun _ c hc => by cases hc
   | cons x r ih =>
    intro ht c hc
    cases r with
    | nil => have := (ht x mem_cons_self).fig c hc; omega
    | cons y r =>
     rw [dX _ _ _ (by simp)] at hc
     rcases List.mem_append.mp hc with hc | hc
     ·rcases List.mem_append.mp hc with hc | hc
      ·have := (ht x mem_cons_self).fig c hc; omega
      ·rw [List.mem_singleton.mp hc]; decide
     ·exact ih (fun t h => ht t (mem_cons_of_mem _ h)) c hc
  rcases List.mem_append.mp hc with hc | hc
  ·rcases List.mem_append.mp hc with hc | hc
   ·have := hr'.fig c hc; omega
   ·intro z; rw [z] at hc; revert hc; decide
  ·exact hj ts ht c hc
def aA3 : D := .lst [.str [116, 101, 120, 116], .bl true, .bl false]
def aBc : D := .lst [.str [109, 97, 99, 104, 105, 110, 101], .bl true, .bl false]
theorem aIw {x : D} (h : cB [x] = aEb) : cR [x] = .ok aA3 := by
 refine fG rfl ?_
 unfold mH
 refine cI (st' := [some (.v x), some (.v (.lst [])), none, none]) (dD (eX rfl)) ?_
 refine cI (st' := [some (.v x), some (.v aA3), none, none]) ?_ rfl
 have hx : eF 3 (gP cB (aB (aD 0) aV)) [some (.v x), some (.v (.lst [])), none, none] = .exc (.exn "NoText" [] []) := by
  rw [aE4, fM rfl h]
  rfl
 unfold aD3
 rw [hx]
 simp [aCh, hAs, aA3, yL]
theorem aQ2 {x : D} (h : cB [x] = .exc (.exn "NoMachine" [] [])) : cR [x] = .ok aBc := by
 refine fG rfl ?_
 unfold mH
 refine cI (st' := [some (.v x), some (.v (.lst [])), none, none]) (dD (eX rfl)) ?_
 refine cI (st' := [some (.v x), some (.v aBc), none, none]) ?_ rfl
 have hx : eF 3 (gP cB (aB (aD 0) aV)) [some (.v x), some (.v (.lst [])), none, none] = .exc (.exn "NoMachine" [] []) := by
  rw [aE4, fM rfl h]
  rfl
 unfold aD3
 rw [hx]
 simp [aCh, hAs, aBc, yL]
theorem aN5 {x : D}   {c : Nat} (h : cB [x] = .ok (mD S rk c)) : cR [x] = .ok (.lst [.lst (stD S), .lst (nats rk)]) := by
 refine fG rfl ?_
 unfold mH
 refine cI (st' := [some (.v x), some (.v (.lst [])), none, none]) (dD (eX rfl)) ?_
 refine cI (st' := [some (.v x), some (.v (.lst [.lst (stD S), .lst (nats rk)])), none, some (.v (mD S rk c))]) ?_ rfl
 have hx : eF 3 (gP cB (aB (aD 0) aV)) [some (.v x), some (.v (.lst [])), none, none] = .ok (.nx [some (.v x), some (.v (.lst [])), none, some (.v (mD S rk c))]) := dD (fM rfl h)
 have fr : yI "Machine" "ranks" (mD S rk c) = .ok (.lst (nats rk)) := by unfold mD; rw [aB0, aG rfl]; rfl
 unfold aD3
 rw [hx]
 exact dD (eX (aF (fC rfl yQ) (aF (fC rfl fr) rfl)))
theorem aFs {t : List Nat} (hl : t.length <= 100000) (h : aOk (cP .r0 t) = false) : cR [.str t] = .ok aA3 := by
 refine aIw ?_
 rcases aN4 t hl with ⟨rows, hn, hg, rfl⟩ | z
 ·obtain ⟨n, z, e⟩ := aBa rows hn hg
  rw [e] at h
  cases h
 ·exact z
theorem aKl {x : D} (hs : aK5 x = false) (hb : oH x = true) : cR [x] = .ok aA3 := by
 refine aIw (uF rfl (aAl (aFg (vM (yM (p := false) ?_)) (yW rfl))))
 simp [hs, hb]
end Pu
namespace Pu
theorem aKm (q : AQ) {c : Nat} (h : ¬ (48 <= c /\ c <= 57) /\ c ≠ 58 /\ c ≠ 32 /\ c ≠ 59) : rK q c = .dead := by
 obtain ⟨h1, h2, h3, h4⟩ := h
 have f := aT9 h1
 cases q with
 | r0 => rw [aRo, f, if_neg (by simp)]
 | r n z => rw [aT7, f, if_neg (by simp), if_neg h2]
 | c1 => rw [aRp, if_neg h3]
 | t0 => rw [aRq, f, if_neg (by simp)]
 | t n z => rw [aT8, f, if_neg (by simp), if_neg h3, if_neg h4]
 | s1 => rw [aRr, if_neg h3]
 | dead => rfl
theorem aIx (q : AQ) (u v : List Nat) {c : Nat} (h : ¬ (48 <= c /\ c <= 57) /\ c ≠ 58 /\ c ≠ 32 /\ c ≠ 59) : cP q (u ++ c :: v) = .dead := by
 rw [bU, nJ, aKm _ h, bW]
def aFt (e : List Nat) : Prop := e = [] \/ ∃ w, e = 59 :: 32 :: w
def aWl (g : List Nat) : Prop := aFt g \/ ∃ tok w, NTok tok /\ g = 32 :: (tok ++ w) /\ (w = [] \/ ∃ v, w = 32 :: v \/ w = 59 :: v)
def zA (s : List Nat) : Prop := (∀ w, aOk (cP .r0 (s ++ 58 :: 32 :: w)) = false) /\ ∀ g, aWl g -> aOk (cP .t0 (s ++ g)) = false
theorem wN {s : List Nat} (h1 : ∀ w, cP .r0 (s ++ w) = .dead) (h2 : ∀ w, cP .t0 (s ++ w) = .dead) : zA s := ⟨fun w => by rw [h1]; rfl, fun g _ => by rw [h2]; rfl⟩
theorem nR (u v : List Nat) {c : Nat} (h : ¬ (48 <= c /\ c <= 57) /\ c ≠ 58 /\ c ≠ 32 /\ c ≠ 59) : zA (u ++ c :: v) :=
 wN (fun w => by rw [List.append_assoc, cons_append]; exact aIx _ _ _ h) fun w => by rw [List.append_assoc, cons_append]; exact aIx _ _ _ h
theorem aBd {x : List Nat} (h : NTok x) : ∃ c r, x = c :: r /\ 48 <= c /\ c <= 57 := by
 cases x with
 | nil => exact (h.ne rfl).elim
 | cons c r => exact ⟨c, r, rfl, h.fig c mem_cons_self⟩
theorem aN6 {x : List Nat} (h : NTok x) : zA (48 :: x) := by
 obtain ⟨c, r, rfl, hc⟩ := aBd h
 refine wN (fun w => ?_) fun w => ?_
 ·show cP (rK (.r 1 true) c) (r ++ w) = _
  rw [aT7, if_pos (yU hc), if_pos (.inl rfl), bW]
 ·show cP (rK (.t 1 true) c) (r ++ w) = _
  rw [aT8, if_pos (yU hc), if_pos (.inl rfl), bW]
theorem aDb : zA [] := by
 refine ⟨fun w => by show aOk (cP .dead _) = _; rw [bW]; rfl, fun g hg => ?_⟩
 rcases hg with (rfl | ⟨w, rfl⟩) | ⟨tok, w, _, rfl, _⟩
 ·rfl
 ·show aOk (cP .dead _) = _; rw [bW]; rfl
 ·show aOk (cP .dead _) = _; rw [bW]; rfl
theorem aKn (x : List Nat) : zA (32 :: x) := wN (fun w => bW _) fun w => bW _
theorem aHl {x : List Nat} (h : NTok x) : zA (x ++ [32]) := by
 obtain ⟨n, z, e⟩ := aA2 h
 obtain ⟨m, y, e2⟩ := aD8 h
 refine ⟨fun w => ?_, fun g hg => ?_⟩
 ·rw [List.append_assoc, bU, e]
  show aOk (cP .dead _) = _; rw [bW]; rfl
 ·rw [List.append_assoc, bU, e2]
  show aOk (cP .t0 g) = false
  have := aDb.2 g hg
  exact this
theorem aN7 : zA (List.replicate 31 57) := wN (fun w => by rw [bU, show cP .r0 (List.replicate 31 57) = .dead from rfl, bW]) fun w => by rw [bU, show cP .t0 (List.replicate 31 57) = .dead from rfl, bW]
theorem aKo {x : List Nat} (h : NTok x) : zA (x ++ [58]) := by
 obtain ⟨n, z, e⟩ := aA2 h
 obtain ⟨m, y, e2⟩ := aD8 h
 refine ⟨fun w => ?_, fun g hg => ?_⟩
 ·rw [List.append_assoc, bU, e]
  show aOk (cP .dead _) = _; rw [bW]; rfl
 ·rw [List.append_assoc, bU, e2]
  show aOk (cP .dead _) = _; rw [bW]; rfl
theorem aN8 {x : List Nat} (h : NTok x) : zA (x ++ [59]) := by
 obtain ⟨n, z, e⟩ := aA2 h
 obtain ⟨m, y, e2⟩ := aD8 h
 refine ⟨fun w => ?_, fun g hg => ?_⟩
 ·rw [List.append_assoc, bU, e]
  show aOk (cP .dead _) = _; rw [bW]; rfl
 ·rw [List.append_assoc, bU, e2]
  show aOk (cP .s1 g) = false
  rcases hg with (rfl | ⟨w, rfl⟩) | ⟨tok, w, ht, rfl, hw⟩
  ·rfl
  ·show aOk (cP .dead _) = _; rw [bW]; rfl
  ·obtain ⟨k, u, e3⟩ := aA2 ht
   show aOk (cP .r0 (tok ++ w)) = false
   rw [bU, e3]
   rcases hw with rfl | ⟨v, rfl | rfl⟩
   ·rfl
   ·show aOk (cP .dead _) = _; rw [bW]; rfl
   ·show aOk (cP .dead _) = _; rw [bW]; rfl
theorem aIy : ∀ (pre : List (List (List Nat))) (x : List Nat) (post : List (List Nat)), (∀ row ∈ pre, dO row) -> cP .r0 (cJ [59, 32] (pre.map cV ++ x :: post)) = cP .r0 (cJ [59, 32] (x :: post))
 | [], _, _, _ => rfl
 | row :: pre, x, post, h => by
  obtain ⟨n, z, e⟩ := aAk (h row mem_cons_self)
  rw [map_cons, cons_append, dX _ _ _ (by simp), bU, bU, e]
  exact aIy pre x post fun r hr => h r (mem_cons_of_mem _ hr)
theorem zB (x : List Nat) (post : List (List Nat)) : ∃ e, aFt e /\ cJ [59, 32] (x :: post) = x ++ e := by
 cases post with
 | nil => exact ⟨[], .inl rfl, (append_nil _).symm⟩
 | cons a b => exact ⟨[59, 32] ++ cJ [59, 32] (a :: b), .inr ⟨_, rfl⟩, by rw [dX _ _ _ (by simp), List.append_assoc]⟩
theorem aFu : ∀ (pre : List (List Nat)) (x : List Nat) (post e : List (List Nat)) (E : List Nat), (∀ t ∈ pre, NTok t) -> cP .t0 (cJ [32] (pre ++ x :: post) ++ E) = cP .t0 (cJ [32] (x :: post) ++ E)
 | [], _, _, _, _, _ => rfl
 | t :: pre, x, post, e, E, h => by
  obtain ⟨n, z, e1⟩ := aD8 (h t mem_cons_self)
  rw [cons_append, dX _ _ _ (by simp), List.append_assoc, List.append_assoc, bU, e1]
  exact aFu pre x post e E fun r hr => h r (mem_cons_of_mem _ hr)
theorem aHm {s : List Nat} (hs : zA s) (ts : List (List Nat)) (E : List Nat) : aOk (cP .r0 (cV (s :: ts) ++ E)) = false := by
 show aOk (cP .r0 (s ++ [58, 32] ++ cJ [32] ts ++ E)) = false
 rw [List.append_assoc, List.append_assoc]
 exact hs.1 _
theorem aHn {s r : List Nat} (hs : zA s) (hr : NTok r) {tp tq : List (List Nat)} (hp : ∀ t ∈ tp, NTok t) (hq : ∀ t ∈ tq, NTok t) {E : List Nat} (hE : aFt E) : aOk (cP .r0 (cV (r :: (tp ++ s :: tq)) ++ E)) = false := by
 show aOk (cP .r0 (r ++ [58, 32] ++ cJ [32] (tp ++ s :: tq) ++ E)) = false
 rw [List.append_assoc, bU, aFo hr, aFu tp s tq [] E hp]
 cases tq with
 | nil => exact hs.2 E (.inl hE)
 | cons a b =>
  rw [dX _ _ _ (by simp), List.append_assoc, List.append_assoc]
  refine hs.2 _ (.inr ?_)
  have ha := hq a mem_cons_self
  cases b with
  | nil => exact ⟨a, E, ha, rfl, hE.elim .inl fun ⟨w, hw⟩ => .inr ⟨_, .inr hw⟩⟩
  | cons c d => exact ⟨a, _, ha, by rw [dX _ _ _ (by simp), List.append_assoc, List.append_assoc]; rfl, .inr ⟨_, .inl rfl⟩⟩
theorem aWm {rows : List (List (List Nat))} (hg : ∀ row ∈ rows, dO row) {p : Nat}  (ha : rows[at_]? = some row) (hp : p < row.length) {s : List Nat} (hs : zA s) : aOk (cP .r0 (cJ [59, 32] ((rows.set at_ (row.set p s)).map cV))) = false := by
 obtain ⟨hlt, hrow⟩ := List.getElem?_eq_some_iff.mp ha
 have e : rows.set at_ (row.set p s) = rows.take at_ ++ row.set p s :: rows.drop (at_ + 1) := by rw [List.set_eq_take_append_cons_drop, if_pos hlt]
 rw [e, List.map_append, map_cons, aIy _ _ _ fun r hr => hg r (mem_of_mem_take hr)]
 obtain ⟨E, hE, e2⟩ := zB (cV (row.set p s)) ((rows.drop (at_ + 1)).map cV)
 rw [e2]
 obtain ⟨r, ts, rfl, hr, hn, ht⟩ := hg row (List.mem_of_getElem? ha)
 cases p with
 | zero => exact aHm hs ts E
 | succ k =>
  rw [List.set_cons_succ]
  rw [length_cons] at hp
  rw [List.set_eq_take_append_cons_drop, if_pos (by omega)]
  exact aHn hs hr (fun t h => ht t (mem_of_mem_take h)) (fun t h => ht t (mem_of_mem_drop h)) hE
theorem aDc : ∀ (pre : List (List (List Nat))) (w : List Nat), (∀ row ∈ pre, dO row) -> cP .r0 (cJ [59, 32] (pre.map cV ++ [[]]) ++ w) = cP .r0 w
 | [], _, _ => rfl
 | row :: pre, w, h => by
  obtain ⟨n, z, e⟩ := aAk (h row mem_cons_self)
  rw [map_cons, cons_append, dX _ _ _ (by simp), List.append_assoc, List.append_assoc, bU, e]
  exact aDc pre w fun r hr => h r (mem_cons_of_mem _ hr)
theorem aFv (post : List (List Nat)) : aFt (cJ [59, 32] ([] :: post)) := by
 obtain ⟨e, he, h⟩ := zB [] post
 rw [h]
 exact he
theorem aWn {r E : List Nat} (h : NTok r) (hE : aFt E) : aOk (cP .r0 (r ++ E)) = false := by
 obtain ⟨n, z, e⟩ := aA2 h
 rw [bU, e]
 rcases hE with rfl | ⟨w, rfl⟩
 ·rfl
 ·show aOk (cP .dead _) = _; rw [bW]; rfl
theorem aTa {r t : List Nat} (h : NTok r) (ht : NTok t) (E : List Nat) : aOk (cP .r0 (r ++ [58] ++ t ++ E)) = false := by
 obtain ⟨n, z, e⟩ := aA2 h
 obtain ⟨c, w, rfl, hc⟩ := aBd ht
 rw [List.append_assoc, List.append_assoc, bU, e]
 show aOk (cP (rK .c1 c) (w ++ E)) = false
 rw [aRp, if_neg (by omega), bW]
 rfl
theorem aTb {r : List Nat} (h : NTok r) (w E : List Nat) : aOk (cP .r0 (r ++ 32 :: w ++ E)) = false := by
 obtain ⟨n, z, e⟩ := aA2 h
 rw [List.append_assoc, bU, e]
 show aOk (cP .dead _) = _; rw [bW]; rfl
theorem aKp {rows : List (List (List Nat))} (hn : rows ≠ []) (hg : ∀ row ∈ rows, dO row) : ∃ c w, cJ [59, 32] (rows.map cV) = c :: w /\ 48 <= c /\ c <= 57 := by
 cases rows with
 | nil => exact (hn rfl).elim
 | cons row rows =>
  obtain ⟨E, _, e⟩ := zB (cV row) (rows.map cV)
  obtain ⟨r, ts, rfl, hr, _⟩ := hg row mem_cons_self
  obtain ⟨c, w, rfl, hc⟩ := aBd hr
  exact ⟨c, _, by rw [map_cons, e]; rfl, hc⟩
theorem aKq {T : List Nat} (hT : ∃ n z, cP .r0 T = .t n z) (hh : ∃ c w, T = c :: w /\ 48 <= c /\ c <= 57) : aOk (cP .r0 (T ++ [59, 32])) = false /\ aOk (cP .r0 ([59, 32] ++ T)) = false /\ aOk (cP .r0 (T ++ [59])) = false /\ aOk (cP .r0 (T ++ [32])) = false /\ aOk (cP .r0 ([32] ++ T)) = false /\ aOk (cP .r0 (T ++ [126])) = false /\ aOk (cP .r0 (T ++ [59] ++ T)) = false := by
 obtain ⟨n, z, e⟩ := hT
 obtain ⟨c, w, e2, hc⟩ := hh
 refine ⟨?_, ?_, ?_, ?_, ?_, ?_, ?_⟩
 ·rw [bU, e]; rfl
 ·show aOk (cP .dead _) = _; rw [bW]; rfl
 ·rw [bU, e]; rfl
 ·rw [bU, e]; rfl
 ·show aOk (cP .dead _) = _; rw [bW]; rfl
 ·rw [bU, e]; rfl
 ·rw [List.append_assoc, bU, e]
  show aOk (cP .s1 T) = false
  rw [e2, nJ, aRr, if_neg (by omega), bW]
  rfl
end Pu
namespace Pu
def cZ (row : List (List Nat)) : D := .lst (row.map .str)
def cL (rows : List (List (List Nat))) : D := .lst (rows.map cZ)
def dI (rows : List (List (List Nat))) : List Nat := cJ [59, 32] (rows.map cV)
structure Small (rows : List (List (List Nat))) : Prop where
 n : rows.length <= 10
 r : ∀ row ∈ rows, row ≠ [] /\ row.length <= 10 /\ ∀ t ∈ row, t.length <= 100
theorem lB (y : List Nat) : ∀ l : List (List Nat), (cJ y l).length <= (l.map List.length).sum + l.length * y.length
 | [] => zero_le _
 | [x] => by
  show x.length <= _
  simp only [map_cons, List.map_nil, sum_cons, List.sum_nil, length_cons, length_nil]
  omega
 | x :: z :: r => by
  have h := lB y (z :: r)
  rw [dX _ _ _ (by simp), length_append, length_append]
  rw [map_cons, sum_cons, length_cons, Nat.succ_mul]
  omega
theorem nF {b : Nat} : ∀ l : List (List Nat), (∀ t ∈ l, t.length <= b) -> (l.map List.length).sum <= l.length * b
 | [], _ => zero_le _
 | x :: l, h => by
  have h1 := nF l fun t ht => h t (mem_cons_of_mem _ ht)
  have h2 := h x mem_cons_self
  rw [map_cons, sum_cons, length_cons, Nat.succ_mul]
  omega
theorem aEc : ∀ l : List (List Nat), oJ (l.map .str) = .ok l
 | [] => rfl
 | x :: l => by
  show (oJ (l.map .str)).bind _ = _
  rw [aEc l]
  rfl
theorem qH {sep : List Nat} {l : List (List Nat)} (h : (l.map List.length).sum + l.length * sep.length <= 1000000) : uN (.str sep) [.lst (l.map .str)] = .ok (.str (cJ sep l)) := by
 show (oJ (l.map .str)).bind _ = _
 rw [aEc, aN, aG (dW (Nat.le_trans h (by decide)))]
theorem aAm {x y : List Nat} (h : x.length + y.length <= 1000000) : cN (.str x) (.str y) = .ok (.str (x ++ y)) := aG (dW (Nat.le_trans h (by decide)))
theorem qY {x y : List D} (h : x.length + y.length <= 1000000) : cN (.lst x) (.lst y) = .ok (.lst (x ++ y)) := aG (dW (Nat.le_trans h (by decide)))
theorem oR {α : Type} {E : Ex} {st : PSt} {j : Nat} (F G : α -> D) : ∀ l : List α, (∀ a ∈ l, E (st.set j (some (.v (F a)))) = .ok (G a)) -> cY (tgN j) aZ E st (l.map F) = .ok (l.map G)
 | [], _ => rfl
 | a :: l, h => by
  show (E (st.set j (some (.v (F a))))).bind (fun y => (cY (tgN j) aZ E st (l.map F)).bind fun ys => .ok (y :: ys)) = _
  rw [h a mem_cons_self, aN, oR F G l fun b hb => h b (mem_cons_of_mem _ hb)]
  rfl
theorem uG {row : List (List Nat)} (h : row.length <= 10) (ht : ∀ t ∈ row, t.length <= 100) : (cV row).length <= 1200 := by
 cases row with
 | nil => exact zero_le _
 | cons r ts =>
  show (r ++ [58, 32] ++ cJ [32] ts).length <= 1200
  have h1 := lB [32] ts
  have h2 := nF ts fun t h => ht t (mem_cons_of_mem _ h)
  have h3 := ht r mem_cons_self
  rw [length_cons] at h
  rw [length_append, length_append]
  simp only [length_cons, length_nil] at h1 ⊢
  omega
theorem text_len (h : Small rows) : (dI rows).length <= 13000 := by
 have h1 := lB [59, 32] (rows.map cV)
 have h2 := nF (b := 1200) (rows.map cV) fun t ht => by
  obtain ⟨row, hr, rfl⟩ := List.mem_map.mp ht
  exact uG (h.r row hr).2.1 (h.r row hr).2.2
 have := h.n
 rw [length_map] at h1 h2
 simp only [length_cons, length_nil] at h1
 show (cJ [59, 32] (rows.map cV)).length <= 13000
 omega
theorem aQ3 {st : PSt} {row : List (List Nat)} (hn : row ≠ []) (hl : row.length <= 10) (ht : ∀ t ∈ row, t.length <= 100) (hs : st[1]? = some (some (.v (cZ row)))) : pJ st = .ok (.str (cV row)) := by
 cases row with
 | nil => exact (hn rfl).elim
 | cons r ts =>
  rw [length_cons] at hl
  have hv : aD 1 st = .ok (cZ (r :: ts)) := by simp [hs]
  have h2 := nF ts fun t h => ht t (mem_cons_of_mem _ h)
  have h1 := lB [32] ts
  have h3 := ht r mem_cons_self
  simp only [length_cons, length_nil] at h1
  refine aQ (aQ (aQ hv rfl (rJ (d := .str r) (show atI ((r :: ts).map D.str) 0 = some (.str r) from aHb (by decide) (by rw [map_cons, length_cons]; omega)))) rfl (aAm (by show r.length + 2 <= _; omega))) (qG rfl (aF (d := .lst (ts.map .str)) ?_ rfl) (qH (by simp only [length_cons, length_nil]; omega))) (aAm (by rw [length_append]; show r.length + 2 + _ <= _; omega))
  rw [aSy, hv, aN]
  show dSl (cZ (r :: ts)) (some 1) none = _
  show R.ok (D.lst (cut ((r :: ts).map D.str) (some ((1 : Nat) : Int)) none)) = _
  rw [aMr _ 1 (by simp)]
  rfl
theorem sW (h : Small rows) : dJ [cL rows] = .ok (.str (dI rows)) := by
 have hn := h.n
 have hc := oR (E := pJ) (st := [some (.v (cL rows)), none]) (j := 1) cZ (fun row => .str (cV row)) rows fun row hr => aQ3 (h.r row hr).1 (h.r row hr).2.1 (h.r row hr).2.2 rfl
 have hk := jR (is := [1]) (it := itE (aD 0)) (st := [some (.v (cL rows)), none]) (sU rfl) (by rw [length_map]; omega) hc
 have e : rows.map (fun row => D.str (cV row)) = (rows.map cV).map .str := by rw [List.map_map]; rfl
 rw [e] at hk
 have h2 := nF (b := 1200) (rows.map cV) fun t ht => by
  obtain ⟨row, hr, rfl⟩ := List.mem_map.mp ht
  exact uG (h.r row hr).2.1 (h.r row hr).2.2
 rw [length_map] at h2
 exact fG rfl (lA (qG rfl (aF hk rfl) (qH (by rw [length_map]; show _ + _ * 2 <= _; omega))))
def rows0 (S : List (List Nat)) (rk : List Nat) : List (List (List Nat)) := (rk.zip S).map fun p => cG p.1 :: p.2.map cG
theorem aBe : ∀ (rk : List Nat) (S : List (List Nat)), sG (nats rk) (stD S) = (rk.zip S).map fun p => .tup [.int (p.1 : Nat), .lst (nats p.2)]
 | [], _ => by unfold nats sG; rfl
 | _ :: _, [] => by unfold stD sG; rfl
 | r :: rk, s :: S => by
  show D.tup [.int r, .lst (nats s)] :: sG (nats rk) (stD S) = _
  rw [aBe rk S]
  rfl
theorem aEd {α : Type} {E : Ex} {st : PSt} {i j : Nat} (F1 F2 G : α -> D) : ∀ l : List α, (∀ a ∈ l, E ((st.set i (some (.v (F1 a)))).set j (some (.v (F2 a)))) = .ok (G a)) -> cY (tgT [i, j]) aZ E st (l.map fun a => .tup [F1 a, F2 a]) = .ok (l.map G)
 | [], _ => rfl
 | a :: l, h => by
  show (E ((st.set i (some (.v (F1 a)))).set j (some (.v (F2 a))))).bind (fun y => (cY (tgT [i, j]) aZ E st (l.map fun a => .tup [F1 a, F2 a])).bind fun ys => .ok (y :: ys)) = _
  rw [h a mem_cons_self, aN, aEd F1 F2 G l fun b hb => h b (mem_cons_of_mem _ hb)]
  rfl
theorem aBf (h : n < 10 ^ 30) : aE7 (.int n) = .ok (.str (cG n)) := by
 have : (10 : Int) ^ 40 = 10000000000000000000000000000000000000000 := by decide
 have h2 : (10 : Nat) ^ 30 = 1000000000000000000000000000000 := by decide
 exact aG ⟨by omega, by omega⟩
theorem wO (h : n < 10 ^ 30) : (cG n).length <= 30 := (mJ h).len
structure MchF (S : List (List Nat)) (rk : List Nat) (c : Nat) : Prop extends Mch S rk c where
 rb : ∀ x ∈ rk, x < 10 ^ 30
section
variable   {c : Nat}
theorem MchF.room (M : MchF S rk c) {r : List Nat} (hr : r ∈ S) {x : Nat} (hx : x ∈ r) : x < 10 ^ 30 := by
 have h1 := (M.row r hr).2 x hx
 have h2 := M.most
 have h3 : (10 : Nat) ^ 30 = 1000000000000000000000000000000 := by decide
 omega
theorem MchF.pair (M : MchF S rk c) {p : Nat × List Nat} (h : p ∈ rk.zip S) : p.1 < 10 ^ 30 /\ p.2 ∈ S := ⟨M.rb _ (List.of_mem_zip h).1, (List.of_mem_zip h).2⟩
theorem zE (M : MchF S rk c) : (rows0 S rk).length = S.length := by
 unfold rows0
 rw [length_map, length_zip, M.rks, Nat.min_self]
theorem aDd (M : MchF S rk c)  (h : row ∈ rows0 S rk) : ∃ r s, r < 10 ^ 30 /\ s ∈ S /\ row = cG r :: s.map cG := by
 obtain ⟨p, hp, rfl⟩ := List.mem_map.mp h
 exact ⟨p.1, p.2, (M.pair hp).1, (M.pair hp).2, rfl⟩
theorem qZ (M : MchF S rk c) : ∀ row ∈ rows0 S rk, dO row := fun row h => by
 obtain ⟨r, s, hr, hs, rfl⟩ := aDd M h
 refine ⟨_, _, rfl, mJ hr, fun z => ?_, fun t ht => ?_⟩
 ·have h1 := (M.row s hs).1
  have h2 := M.c1
  have := congrArg List.length z
  rw [length_map, length_nil] at this
  omega
 ·obtain ⟨x, hx, rfl⟩ := List.mem_map.mp ht
  exact mJ (M.room hs hx)
theorem qI (M : MchF S rk c) {row : List (List Nat)} (h : row ∈ rows0 S rk) : row.length = c + 1 /\ ∀ t ∈ row, t.length <= 30 := by
 obtain ⟨r, s, hr, hs, rfl⟩ := aDd M h
 refine ⟨by rw [length_cons, length_map, (M.row s hs).1], fun t ht => ?_⟩
 rcases List.mem_cons.mp ht with z | z
 ·rw [z]; exact wO hr
 ·obtain ⟨x, hx, rfl⟩ := List.mem_map.mp z
  exact wO (M.room hs hx)
theorem jJ (M : MchF S rk c) : Small (rows0 S rk) := by
 have h8 := M.most
 have h3 := M.c3
 refine ⟨by rw [zE M]; omega, fun row h => ?_⟩
 obtain ⟨h1, h2⟩ := qI M h
 refine ⟨fun z => ?_, by omega, fun t ht => by have := h2 t ht; omega⟩
 rw [z, length_nil] at h1
 omega
theorem wQ (M : MchF S rk c) : rows0 S rk ≠ [] := fun z => by
 have := zE M
 have h1 := M.one
 rw [z, length_nil] at this
 omega
theorem aIz {st : PSt} {x y : List D} (h1 : f st = .ok (.lst x)) (h2 : g st = .ok (.lst y)) : vI f g st = .ok (sG x y) := by
 unfold vI
 rw [h1, aN, h2, aN]
theorem aHo (M : MchF S rk c) : jP [.lst (stD S), .lst (nats rk)] = .ok (cL (rows0 S rk)) := by
 have h8 := M.most
 have hz : vI (aD 1) (aD 0) [some (.v (.lst (stD S))), some (.v (.lst (nats rk))), none, none, none] = .ok ((rk.zip S).map fun p => .tup [.int (p.1 : Nat), .lst (nats p.2)]) := by
  rw [aIz rfl rfl, aBe]
 have hc := aEd (E := pY) (st := [some (.v (.lst (stD S))), some (.v (.lst (nats rk))), none, none, none]) (i := 2) (j := 3) (fun p : Nat × List Nat => .int (p.1 : Nat)) (fun p => .lst (nats p.2)) (fun p => cZ (cG p.1 :: p.2.map cG)) (rk.zip S) fun p hp => by
  obtain ⟨h1, h2⟩ := M.pair hp
  have h3 := (M.row p.2 h2).1
  have hc3 := M.c3
  have ci := oR (E := pX) (st := [some (.v (.lst (stD S))), some (.v (.lst (nats rk))), some (.v (.int (p.1 : Nat))), some (.v (.lst (nats p.2))), none]) (j := 4) (fun x : Nat => D.int (x : Nat)) (fun x => .str (cG x)) p.2 fun x hx => fC rfl (aBf (M.room h2 hx))
  have ck := jR (is := [4]) (it := itE (aD 3)) (st := [some (.v (.lst (stD S))), some (.v (.lst (nats rk))), some (.v (.int (p.1 : Nat))), some (.v (.lst (nats p.2))), none]) (sU rfl) (by rw [eQ]; omega) ci
  refine (aQ (eX (aF (fC rfl (aBf h1)) rfl)) ck (qY (by rw [length_map]; show 1 + _ <= _; omega))).trans ?_
  unfold cZ
  rw [map_cons, List.map_map]
  rfl
 have hk := jR (is := [2, 3]) (tg := tgT [2, 3]) (C := aZ) hz (by rw [length_map, length_zip, M.rks]; omega) hc
 refine fG rfl (lA (hk.trans ?_))
 unfold cL rows0
 rw [List.map_map]
 rfl
theorem aQ4 (h : n < 10 ^ 30) : aD1 (.int n) = .ok (.str (cG n)) := aBf h
theorem aQ5 (M : MchF S rk c) {p : Nat × List Nat} (hp : p ∈ rk.zip S) : oK [.int (p.1 : Nat), .lst (nats p.2)] = .ok (.str (cV (cG p.1 :: p.2.map cG))) := by
 obtain ⟨h1, h2⟩ := M.pair hp
 have h3 := (M.row p.2 h2).1
 have hc3 := M.c3
 have ci := oR (E := uR) (st := [some (.v (.int (p.1 : Nat))), some (.v (.lst (nats p.2))), none, none]) (j := 3) (fun x : Nat => D.int (x : Nat)) (fun x => .str (cG x)) p.2 fun x hx => fC rfl (aBf (M.room h2 hx))
 have ck := jR (is := [3]) (it := itE (aD 1)) (st := [some (.v (.int (p.1 : Nat))), some (.v (.lst (nats p.2))), none, none]) (sU rfl) (by rw [eQ]; omega) ci
 have e : p.2.map (fun x => D.str (cG x)) = (p.2.map cG).map .str := by rw [List.map_map]; rfl
 rw [e] at ck
 have s2 := nF (b := 30) (p.2.map cG) fun t ht => by
  obtain ⟨x, hx, rfl⟩ := List.mem_map.mp ht
  exact wO (M.room h2 hx)
 have s1 := lB [32] (p.2.map cG)
 rw [length_map] at s1 s2
 simp only [length_cons, length_nil] at s1
 have hf := wO h1
 refine fG rfl (cI (st' := [some (.v (.int (p.1 : Nat))), some (.v (.lst (nats p.2))), some (.v (.str (cJ [32] (p.2.map cG)))), none]) (dD (qG rfl (aF ck rfl) (qH (by rw [length_map]; simp only [length_cons, length_nil]; omega)))) (lA ?_))
 have fj : aD1 (.str (cJ [32] (p.2.map cG))) = .ok (.str (cJ [32] (p.2.map cG))) := aG (dW (by omega))
 show (aB _ _ _).bind _ = _
 rw [aF (fC rfl (aQ4 h1)) (aF rfl (aF (fC rfl fj) rfl)), aN]
 show (oJ ([cG p.1, [58, 32], cJ [32] (p.2.map cG)].map .str)).bind _ = _
 rw [aEc, aN, aG (dW (by simp only [flatten_cons, List.flatten_nil, length_append, length_cons, length_nil]; omega))]
 simp only [flatten_cons, List.flatten_nil, append_nil]
 show R.ok (D.str _) = R.ok (D.str (cG p.1 ++ [58, 32] ++ cJ [32] (p.2.map cG)))
 rw [List.append_assoc]
theorem aA4 : yI "Machine" "ranks" (mD S rk c) = .ok (.lst (nats rk)) := by unfold mD; rw [aB0, aG rfl]; rfl
theorem aN9 (M : MchF S rk c) : jQ [mD S rk c] = .ok (.str (dI (rows0 S rk))) := by
 have h8 := M.most
 have hz : vI (e1 (yI "Machine" "ranks") (aD 0)) (e1 (yI "Machine" "steps") (aD 0)) [some (.v (mD S rk c)), none, none] = .ok ((rk.zip S).map fun p => .tup [.int (p.1 : Nat), .lst (nats p.2)]) := by
  rw [aIz (fC rfl aA4) (fC rfl yQ), aBe]
 have hc := aEd (E := pZ) (st := [some (.v (mD S rk c)), none, none]) (i := 1) (j := 2) (fun p : Nat × List Nat => .int (p.1 : Nat)) (fun p => .lst (nats p.2)) (fun p => .str (cV (cG p.1 :: p.2.map cG))) (rk.zip S) fun p hp => bJ rfl (aQ5 M hp)
 have hk := jR (is := [1, 2]) (tg := tgT [1, 2]) (C := aZ) hz (by rw [length_map, length_zip, M.rks]; omega) hc
 have e : (rk.zip S).map (fun p => D.str (cV (cG p.1 :: p.2.map cG))) = ((rows0 S rk).map cV).map .str := by
  unfold rows0
  rw [List.map_map, List.map_map]
  rfl
 rw [e] at hk
 have sm := jJ M
 have hn := sm.n
 have h2 := nF (b := 1200) ((rows0 S rk).map cV) fun t ht => by
  obtain ⟨row, hr, rfl⟩ := List.mem_map.mp ht
  exact uG (sm.r row hr).2.1 (sm.r row hr).2.2
 rw [length_map] at h2
 exact fG rfl (lA (qG rfl (aF hk rfl) (qH (by rw [length_map]; show _ + _ * 2 <= _; omega))))
theorem aBg (s : List Nat) : (s.map cG).map nD = s := by
 rw [List.map_map]
 exact (List.map_congr_left fun x _ => (qX x).2.2.1).trans (List.map_id _)
theorem aNa (hl : rk.length = S.length) : sV (rows0 S rk) = .lst (stD S) /\ yZ (rows0 S rk) = .lst (nats rk) := by
 have h : ∀ (rk : List Nat) (S : List (List Nat)), rk.length = S.length -> (rows0 S rk).map (fun row => D.lst (nats (row.tail.map nD))) = stD S /\ (rows0 S rk).map (fun row => D.int (nD (row.headD []) : Nat)) = nats rk := by
  intro rk
  induction rk with
  | nil => intro S h; cases S with
   | nil => exact ⟨rfl, rfl⟩
   | cons a b => cases h
  | cons r rk ih =>
   intro S h
   cases S with
   | nil => cases h
   | cons s S =>
    obtain ⟨h1, h2⟩ := ih S (Nat.succ.inj h)
    have e : rows0 (s :: S) (r :: rk) = (cG r :: s.map cG) :: rows0 S rk := rfl
    rw [e, map_cons, map_cons, h1, h2]
    refine ⟨?_, ?_⟩
    ·show D.lst (nats ((s.map cG).map nD)) :: stD S = _
     rw [aBg]
     rfl
    ·show D.int (nD (cG r) : Nat) :: nats rk = _
     rw [(qX r).2.2.1]
     rfl
 obtain ⟨h1, h2⟩ := h rk S hl
 exact ⟨congrArg D.lst h1, congrArg D.lst h2⟩
theorem aDe {rows : List (List (List Nat))} (hn : rows ≠ []) (hg : ∀ row ∈ rows, dO row) (hs : Small rows) : cB [.str (dI rows)] = bD [sV rows, yZ rows] := by
 have h1 := text_len hs
 have h2 := hs.n
 exact aKk rows hn (fun row hr => ⟨hg row hr, by have := uG (hs.r row hr).2.1 (hs.r row hr).2.2; omega⟩) (by show (dI rows).length <= _; omega) (by omega)
theorem aKr (M : MchF S rk c) : cR [.str (dI (rows0 S rk))] = .ok (.lst [.lst (stD S), .lst (nats rk)]) := by
 refine aN5 (c := c) ?_
 obtain ⟨e1, e2⟩ := aNa M.rks
 rw [aDe (wQ M) (qZ M) (jJ M), e1, e2]
 exact aFm M.toMch
end
end Pu
namespace Pu
theorem atI_get {xs : List α} {k : Nat} {d : α} (h : xs[k]? = some d) : atI xs (k : Int) = some d := by
 obtain ⟨h1, h2⟩ := List.getElem?_eq_some_iff.mp h
 rw [aHb (by omega) (by omega)]
 simp only [Int.toNat_natCast]
 rw [h2]
theorem aEe {k : Nat} (h : k < n) : ixN n (k : Int) = some k := by
 unfold ixN
 simp [h]
abbrev dY (rows : List (List (List Nat))) : List (List D) := rows.map fun row => row.map D.str
theorem wR (i : Nat) (rows : List (List (List Nat))) (st : PSt) : zV i (dY rows) st = st.set i (some (.v (cL rows))) := by
 unfold zV cL
 rw [List.map_map]
 rfl
theorem lQ {a : NB} {b : NP} {xss' : List (List D)} {st : PSt} {r : R Fl} (h : a xss st = .ok (.nx xss' st')) (h2 : b xss' st' = r) : vH a b xss st = r := by
 unfold vH
 rw [h]
 exact h2
theorem aEf {st : PSt}  (h : f st = .ok d) : aHd j f xss st = .ok (.nx xss (st.set j (some (.v d)))) := by
 unfold aHd
 rw [h]
 rfl
theorem wU {st : PSt}  (h : f (st.set i (some (.v (cL rows)))) = .ok d) (ha : atom d = true) : aB3 i j f (dY rows) st = .ok (.nx (dY rows) (st.set j (some (.v d)))) := by
 unfold aB3
 rw [wR, h, aN]
 exact aG ha
theorem aFw {h : Ex}  {st : PSt} {s : List Nat}  {a p : Nat} (hf : f (st.set i (some (.v (cL rows)))) = .ok (.str s)) (hg : g st = .ok (.int a)) (hh : h (st.set i (some (.v (cL rows)))) = .ok (.int p)) (ha : rows[a]? = some row) (hp : p < row.length) :
  aD2 i g h f (dY rows) st = .ok (.nx (dY (rows.set a (row.set p s))) st) := by
 obtain ⟨hlt, hrow⟩ := List.getElem?_eq_some_iff.mp ha
 unfold aD2
 rw [wR, hf, aN, aG (show atom (D.str s) = true from rfl), hg, aN]
 show (h _).bind _ = _
 rw [hh, aN]
 show (ofO (ixN (dY rows).length (a : Int))).bind _ = _
 rw [aEe (by rw [length_map]; exact hlt)]
 show (match (dY rows)[a]? with | some ys => (ofO (ixN ys.length (p : Int))).bind fun l => R.ok (NFl.nx ((dY rows).set a (ys.set l (.str s))) st) | none => R.bad) = _
 rw [List.getElem?_map, ha]
 show (ofO (ixN (row.map D.str).length (p : Int))).bind _ = _
 rw [aEe (by rw [length_map]; exact hp)]
 show R.ok (NFl.nx ((dY rows).set a ((row.map D.str).set p (.str s))) st) = _
 have e : (dY rows).set a ((row.map D.str).set p (.str s)) = dY (rows.set a (row.set p s)) := by
  show (rows.map _).set a _ = (rows.set a (row.set p s)).map _
  rw [List.map_set, List.map_set]
 rw [e]
theorem sX {b : Bd}  {st : PSt} {r : R Fl} (h : b (st.set i (some (.v (cL rows)))) = r) : pClose i b (dY rows) st = r := by
 unfold pClose
 rw [wR]
 exact h
theorem aJ0 {nb : NP} {st : PSt}   (hv : aD 0 st = .ok (cL rows)) (hl : rows.length <= 100000) (h : nb (dY rows) (st.set i none) = .ok (.rt d)) : vG i (aD 0) (aMg nb) st = .ok (.rt d) := by
 unfold vG
 rw [hv, aN]
 have hc : rY (cL rows) = .ok (cL rows) := aG ⟨by rw [length_map]; exact dW (by omega), List.all_eq_true.mpr fun x hx => by
  obtain ⟨row, _, rfl⟩ := List.mem_map.mp hx
  exact List.all_eq_true.mpr fun y hy => by
   obtain ⟨t, _, rfl⟩ := List.mem_map.mp hy
   rfl⟩
 rw [hc, aN]
 have e : (unL (cL rows)).map unL = dY rows := by
  show (rows.map cZ).map unL = _
  rw [List.map_map]
  rfl
 rw [e]
 unfold aMg
 rw [h]
 rfl
theorem lR (cell k : Int)  (h : 0 < m) : ∃ a : Nat, a < m /\ yO cell k m = (a : Int) := by
 obtain ⟨h1, h2⟩ := aB5 cell k (m := m) (by omega)
 exact ⟨(yO cell k m).toNat, by omega, by omega⟩
theorem zF (h : Small rows) {a : Nat} {row : List (List Nat)} (h1 : row ≠ []) (h2 : row.length <= 10) (h3 : ∀ t ∈ row, t.length <= 100) : Small (rows.set a row) := ⟨by rw [length_set]; exact h.n, fun r hr => by
 rcases List.mem_or_eq_of_mem_set hr with z | z
 ·exact h.r r z
 ·rw [z]; exact ⟨h1, h2, h3⟩⟩
theorem aBh (h : dO row) {p : Nat} {t : List Nat} (hp : row[p]? = some t) : NTok t := by
 obtain ⟨r, ts, rfl, hr, _, ht⟩ := h
 rcases List.mem_cons.mp (List.mem_of_getElem? hp) with z | z
 ·rw [z]; exact hr
 ·exact ht t z
theorem aNb : rep 31 [57] = List.replicate 31 57 := by decide
def nU (x : List Nat) : List (List Nat) := [[48] ++ x, [43] ++ x, [45] ++ x, x ++ [120], [], [32] ++ x, x ++ [32], List.replicate 31 57, x ++ [58], x ++ [59]]
def rA (x : List Nat) : List (List Nat) := [x.take 1 ++ [95] ++ x, x ++ [46, 48], x ++ [101, 49], [43] ++ x ++ [95]]
theorem aKs {x : List Nat} (h : NTok x) : ∀ s ∈ nU x ++ rA x, zA s /\ s.length <= 100 := by
 have hl := h.len
 intro s hs
 simp only [nU, rA, cons_append, nil_append, mem_cons, not_mem_nil, or_false] at hs
 rcases hs with rfl | rfl | rfl | rfl | rfl | rfl | rfl | rfl | rfl | rfl | rfl | rfl | rfl | rfl
 ·exact ⟨aN6 h, by simp; omega⟩
 ·exact ⟨nR [] x (c := 43) (by decide), by simp; omega⟩
 ·exact ⟨nR [] x (c := 45) (by decide), by simp; omega⟩
 ·exact ⟨nR x [] (c := 120) (by decide), by simp; omega⟩
 ·exact ⟨aDb, by simp⟩
 ·exact ⟨aKn x, by simp; omega⟩
 ·exact ⟨aHl h, by simp; omega⟩
 ·exact ⟨aN7, by simp⟩
 ·exact ⟨aKo h, by simp; omega⟩
 ·exact ⟨aN8 h, by simp; omega⟩
 ·refine ⟨?_, by simp; omega⟩
  rw [List.append_assoc]
  exact nR (x.take 1) x (c := 95) (by decide)
 ·exact ⟨nR x [48] (c := 46) (by decide), by simp; omega⟩
 ·exact ⟨nR x [49] (c := 101) (by decide), by simp; omega⟩
 ·exact ⟨nR [] (x ++ [95]) (c := 43) (by decide), by simp; omega⟩
theorem aKt {rows : List (List (List Nat))} (hn : rows ≠ []) (hg : ∀ row ∈ rows, dO row) (hs : Small rows) (cell : Int) : ∃ t, lM [cL rows, .int cell] = .ok (.str t) /\ t.length <= 100000 /\ aOk (cP .r0 t) = false := by
 have h10 := hs.n
 obtain ⟨a, ha, ea⟩ := lR cell 1 (m := rows.length) (List.length_pos_iff.mpr hn)
 have hrow : rows[a]? = some rows[a] := List.getElem?_eq_getElem ha
 have hm : rows[a] ∈ rows := List.getElem_mem ha
 generalize rows[a] = row at hrow hm
 obtain ⟨r1, r2, r3⟩ := hs.r row hm
 obtain ⟨p, hp, ep⟩ := lR cell 2 (m := row.length) (List.length_pos_iff.mpr r1)
 have htok : row[p]? = some row[p] := List.getElem?_eq_getElem hp
 generalize row[p] = old at htok
 have hT := aBh (hg row hm) htok
 have hol := hT.len
 obtain ⟨k, hk, ek⟩ := lR cell 3 (m := 14) (by decide)
 have hf := aKs hT
 have hkl : k < (nU old ++ rA old).length := hk
 have hs' : (nU old ++ rA old)[k]? = some (nU old ++ rA old)[k] := List.getElem?_eq_getElem hkl
 obtain ⟨hb, hsl⟩ := hf _ (List.getElem_mem hkl)
 generalize (nU old ++ rA old)[k] = s at hs' hb hsl
 have sm : Small (rows.set a (row.set p s)) := zF hs (fun z => by
  have := congrArg List.length z
  rw [length_set, length_nil] at this
  omega) (by rw [length_set]; exact r2) fun t ht => by
   rcases List.mem_or_eq_of_mem_set ht with z | z
   ·exact r3 t z
   ·rw [z]; exact hsl
 refine ⟨dI (rows.set a (row.set p s)), ?_, by have := text_len sm; omega, aWm hg hrow hp hb⟩
 have m1 : aR [.int cell, .int 1, .int (rows.length : Nat)] = .ok (.int (a : Nat)) := by rw [fJ _ _ _ (by omega), ea]
 have m2 : aR [.int cell, .int 2, .int (row.length : Nat)] = .ok (.int (p : Nat)) := by rw [fJ _ _ _ (by omega), ep]
 have m3 : aR [.int cell, .int 3, .int 14] = .ok (.int (k : Nat)) := by rw [fJ _ _ _ (by decide)]; exact congrArg (fun z => R.ok (D.int z)) ek
 have hrl : (rows.map cZ)[a]? = some (cZ row) := by rw [List.getElem?_map, hrow]; rfl
 have htl : (row.map D.str)[p]? = some (D.str old) := by rw [List.getElem?_map, htok]; rfl
 have ltot : eE (cL rows) = .ok (.int (rows.length : Nat)) := by show R.ok (D.int ((rows.map cZ).length : Nat)) = _; rw [length_map]
 have lrow : eE (cZ row) = .ok (.int (row.length : Nat)) := by show R.ok (D.int ((row.map D.str).length : Nat)) = _; rw [length_map]
 have hfin := sW sm
 refine fG rfl ?_
 refine aJ0 rfl (by omega) ?_
 refine lQ (st' := [none, some (.v (.int cell)), some (.v (.int (a : Nat))), none, none, none, none]) (wU (bJ (aF rfl (aF rfl (aF (fC rfl ltot) rfl))) m1) rfl) ?_
 refine lQ (st' := [none, some (.v (.int cell)), some (.v (.int (a : Nat))), some (.v (.int (p : Nat))), none, none, none]) (wU (bJ (aF rfl (aF rfl (aF (fC (aQ rfl rfl (rJ (atI_get hrl))) lrow) rfl))) m2) rfl) ?_
 refine lQ (st' := [none, some (.v (.int cell)), some (.v (.int (a : Nat))), some (.v (.int (p : Nat))), some (.v (.str old)), none, none]) (wU (aQ (aQ rfl rfl (rJ (atI_get hrl))) rfl (rJ (atI_get htl))) rfl) ?_
 have ad : ∀ u v : List Nat, u.length <= 100 -> v.length <= 100 -> cN (.str u) (.str v) = .ok (.str (u ++ v)) := fun u v h1 h2 => aAm (by omega)
 have nine : e2 aM7 (eC (.str [57])) (eC (.int 31)) [none, some (.v (.int cell)), some (.v (.int (a : Nat))), some (.v (.int (p : Nat))), some (.v (.str old)), none, none] = .ok (.str (List.replicate 31 57)) := by
  refine aQ rfl rfl ?_
  rw [<- aNb]
  exact aG ⟨dW (by decide), by decide, by decide⟩
 refine lQ (st' := [none, some (.v (.int cell)), some (.v (.int (a : Nat))), some (.v (.int (p : Nat))), some (.v (.str old)), some (.v (.lst ((nU old).map .str))), none]) (aEf (eX (aF (aQ rfl rfl (ad _ _ (by decide) (by omega))) (aF (aQ rfl rfl (ad _ _ (by decide) (by omega))) (aF (aQ rfl rfl (ad _ _ (by decide) (by omega))) (aF (aQ rfl rfl (ad _ _ (by omega) (by decide))) (aF rfl (aF (aQ rfl rfl (ad _ _ (by decide) (by omega))) (aF (aQ rfl rfl (ad _ _ (by omega) (by decide))) (aF nine (aF (aQ rfl rfl (ad _ _ (by omega) (by decide))) (aF (aQ rfl rfl (ad _ _ (by omega) (by decide))) rfl)))))))))))) ?_
 have cutv : eSl (aD 4) wC (wD (eC (.int 1))) [none, some (.v (.int cell)), some (.v (.int (a : Nat))), some (.v (.int (p : Nat))), some (.v (.str old)), some (.v (.lst ((nU old).map .str))), none] = .ok (.str (old.take 1)) := by
  show dSl (.str old) none (some ((1 : Nat) : Int)) = _
  show aH _ _ = _
  rw [aG (dW (by omega)), aMq]
 have tk : (old.take 1).length <= 1 := by rw [length_take]; omega
 refine lQ (st' := [none, some (.v (.int cell)), some (.v (.int (a : Nat))), some (.v (.int (p : Nat))), some (.v (.str old)), some (.v (.lst ((nU old ++ rA old).map .str))), none]) (aEf (aQ rfl (eX (aF (aQ (aQ cutv rfl (ad _ _ (by omega) (by decide))) rfl (ad _ _ (by rw [length_append]; show _ + 1 <= _; omega) (by omega))) (aF (aQ rfl rfl (ad _ _ (by omega) (by decide))) (aF (aQ rfl rfl (ad _ _ (by omega) (by decide))) (aF (aQ (aQ rfl rfl (ad _ _ (by decide) (by omega))) rfl (ad _ _ (by rw [length_append]; show 1 + _ <= _; omega) (by decide))) rfl))))) (qY (show 10 + 4 <= 1000000 by decide)))) ?_
 have hks : ((nU old ++ rA old).map D.str)[k]? = some (D.str s) := by rw [List.getElem?_map, hs']; rfl
 refine lQ (st' := [none, some (.v (.int cell)), some (.v (.int (a : Nat))), some (.v (.int (p : Nat))), some (.v (.str old)), some (.v (.lst ((nU old ++ rA old).map .str))), none]) (aFw (aQ rfl (bJ (aF rfl (aF rfl (aF (fC rfl rfl) rfl))) m3) (rJ (atI_get hks))) rfl rfl hrow hp) ?_
 exact sX (lA (bJ rfl hfin))
end Pu
namespace Pu
theorem aNc {row : List (List Nat)} (h1 : row ≠ []) (h2 : row.length <= 10) (h3 : ∀ t ∈ row, t.length <= 100) : dJ [.lst [cZ row]] = .ok (.str (cV row)) := sW (rows := [row]) ⟨show 1 <= 10 by decide, fun r hr => by rw [List.mem_singleton.mp hr]; exact ⟨h1, h2, h3⟩⟩
def aA5 (T ah bh r t1 : List Nat) : List (List Nat) := [[], T ++ [59, 32], [59, 32] ++ T, T ++ [59], T ++ [32], [32] ++ T, T ++ [126], T ++ [59] ++ T] ++ [ah ++ r ++ bh, ah ++ r ++ [58] ++ t1 ++ bh, ah ++ r ++ [32, 58, 32, 48] ++ bh]
theorem aQ6 {rows : List (List (List Nat))} (hn : rows ≠ []) (hg : ∀ row ∈ rows, dO row) (hs : Small rows) (cell : Int) : ∃ t, oN [cL rows, .int cell] = .ok (.str t) /\ t.length <= 100000 /\ aOk (cP .r0 t) = false := by
 have h10 := hs.n
 obtain ⟨a, ha, ea⟩ := lR cell 1 (m := rows.length) (List.length_pos_iff.mpr hn)
 have hrow : rows[a]? = some rows[a] := List.getElem?_eq_getElem ha
 have hm : rows[a] ∈ rows := List.getElem_mem ha
 generalize rows[a] = row at hrow hm
 obtain ⟨r, ts, erow, hr, htn, ht⟩ := hg row hm
 obtain ⟨t1, ts', ets⟩ : ∃ t1 ts', ts = t1 :: ts' := by
  cases ts with
  | nil => exact (htn rfl).elim
  | cons x y => exact ⟨x, y, rfl⟩
 have ht1 : NTok t1 := ht t1 (by rw [ets]; exact mem_cons_self)
 subst ets
 subst erow
 obtain ⟨r1, r2, r3⟩ := hs.r _ hm
 have hT := text_len hs
 have tl : ∀ l : List (List (List Nat)), (∀ row ∈ l, row ∈ rows) -> l.length <= 10 -> (((l.map cV) ++ [[]]).map List.length).sum + ((l.map cV) ++ [[]]).length * 2 <= 12100 := fun l hl h => by
  have h2 := nF (b := 1200) (l.map cV) fun t ht => by
   obtain ⟨row, hr, rfl⟩ := List.mem_map.mp ht
   exact uG (hs.r row (hl row hr)).2.1 (hs.r row (hl row hr)).2.2
  rw [length_map] at h2
  rw [List.map_append, List.sum_append, length_append, length_map]
  simp only [map_cons, List.map_nil, sum_cons, List.sum_nil, length_cons, length_nil]
  omega
 have tl2 : ∀ l : List (List (List Nat)), (∀ row ∈ l, row ∈ rows) -> l.length <= 10 -> (([] :: (l.map cV)).map List.length).sum + ([] :: (l.map cV)).length * 2 <= 12100 := fun l hl h => by
  have h2 := nF (b := 1200) (l.map cV) fun t ht => by
   obtain ⟨row, hr, rfl⟩ := List.mem_map.mp ht
   exact uG (hs.r row (hl row hr)).2.1 (hs.r row (hl row hr)).2.2
  rw [length_map] at h2
  rw [map_cons, sum_cons, length_cons, length_map]
  simp only [length_nil]
  omega
 have ta := tl (rows.take a) (fun x hx => mem_of_mem_take hx) (by rw [length_take]; omega)
 have tb := tl2 (rows.drop (a + 1)) (fun x hx => mem_of_mem_drop hx) (by rw [length_drop]; omega)
 have la := lB [59, 32] ((rows.take a).map cV ++ [[]])
 have lb := lB [59, 32] ([] :: (rows.drop (a + 1)).map cV)
 have hahead : ∀ w, cP .r0 (cJ [59, 32] ((rows.take a).map cV ++ [[]]) ++ w) = cP .r0 w := fun w => aDc (rows.take a) w fun x hx => hg x (mem_of_mem_take hx)
 have hbehind := aFv ((rows.drop (a + 1)).map cV)
 generalize hAh : cJ [59, 32] ((rows.take a).map cV ++ [[]]) = ah at la hahead
 generalize hBh : cJ [59, 32] ([] :: (rows.drop (a + 1)).map cV) = bh at lb hbehind
 simp only [length_cons, length_nil] at la lb
 have hla : ah.length <= 12100 := by first | omega | (simp only [length_cons] at ta; omega)
 have hlb : bh.length <= 12100 := by first | omega | (simp only [length_cons] at tb; omega)
 have hrl := hr.len
 have h1l := ht1.len
 obtain ⟨k, hk, ek⟩ := lR cell 4 (m := 11) (by decide)
 have hall : ∀ s ∈ aA5 (dI rows) ah bh r t1, aOk (cP .r0 s) = false /\ s.length <= 100000 := by
  obtain ⟨n, z, e⟩ := aBa rows hn hg
  obtain ⟨g2, g3, g4, g5, g6, g7, g8⟩ := aKq (T := dI rows) ⟨n, z, e⟩ (aKp hn hg)
  intro s hsm
  simp only [aA5, cons_append, nil_append, mem_cons, not_mem_nil, or_false] at hsm
  rcases hsm with rfl | rfl | rfl | rfl | rfl | rfl | rfl | rfl | rfl | rfl | rfl
  ·exact ⟨rfl, by decide⟩
  ·exact ⟨g2, by simp; omega⟩
  ·exact ⟨g3, by simp; omega⟩
  ·exact ⟨g4, by simp; omega⟩
  ·exact ⟨g5, by simp; omega⟩
  ·exact ⟨g6, by simp; omega⟩
  ·exact ⟨g7, by simp; omega⟩
  ·exact ⟨g8, by simp; omega⟩
  ·refine ⟨?_, by simp; omega⟩
   rw [List.append_assoc, hahead]
   exact aWn hr hbehind
  ·refine ⟨?_, by simp; omega⟩
   rw [List.append_assoc, List.append_assoc, List.append_assoc, hahead, <- List.append_assoc, <- List.append_assoc]
   exact aTa hr ht1 bh
  ·refine ⟨?_, by simp; omega⟩
   rw [List.append_assoc, List.append_assoc, hahead, <- List.append_assoc]
   exact aTb hr [58, 32, 48] bh
 have hkl : k < (aA5 (dI rows) ah bh r t1).length := hk
 have hs' : (aA5 (dI rows) ah bh r t1)[k]? = some (aA5 (dI rows) ah bh r t1)[k] := List.getElem?_eq_getElem hkl
 obtain ⟨hb, hsl⟩ := hall _ (List.getElem_mem hkl)
 generalize (aA5 (dI rows) ah bh r t1)[k] = s at hs' hb hsl
 refine ⟨s, ?_, hsl, hb⟩
 have m1 : aR [.int cell, .int 1, .int (rows.length : Nat)] = .ok (.int (a : Nat)) := by rw [fJ _ _ _ (by omega), ea]
 have m4 : aR [.int cell, .int 4, .int 11] = .ok (.int (k : Nat)) := by rw [fJ _ _ _ (by decide)]; exact congrArg (fun z => R.ok (D.int z)) ek
 have hrl' : (rows.map cZ)[a]? = some (cZ (r :: t1 :: ts')) := by rw [List.getElem?_map, hrow]; rfl
 have ltot : eE (cL rows) = .ok (.int (rows.length : Nat)) := by show R.ok (D.int ((rows.map cZ).length : Nat)) = _; rw [length_map]
 have ad : ∀ u v : List Nat, u.length <= 60000 -> v.length <= 60000 -> cN (.str u) (.str v) = .ok (.str (u ++ v)) := fun u v h1 h2 => aAm (by omega)
 refine fG rfl ?_
 refine cI (st' := [some (.v (cL rows)), some (.v (.int cell)), some (.v (.str (dI rows))), none, none, none, none, none]) (dD (bJ rfl (sW hs))) ?_
 refine cI (st' := [some (.v (cL rows)), some (.v (.int cell)), some (.v (.str (dI rows))), some (.v (.int (a : Nat))), none, none, none, none]) (dD (bJ (aF rfl (aF rfl (aF (fC rfl ltot) rfl))) m1)) ?_
 have sl1 : ∀ x4 : Option Sl, eSl (aD 0) wC (wD (aD 3)) [some (.v (cL rows)), some (.v (.int cell)), some (.v (.str (dI rows))), some (.v (.int (a : Nat))), x4, none, none, none] = .ok (.lst ((rows.take a).map cZ)) := fun x4 => by
  show dSl (cL rows) none (some ((a : Nat) : Int)) = _
  show R.ok (D.lst (cut (rows.map cZ) none (some ((a : Nat) : Int)))) = _
  rw [aMq, List.map_take]
 have c1 := oR (E := uV) (st := [some (.v (cL rows)), some (.v (.int cell)), some (.v (.str (dI rows))), some (.v (.int (a : Nat))), none, none, none, none]) (j := 6) cZ (fun row => .str (cV row)) (rows.take a) fun row hr => bJ (aF (eX (aF rfl rfl)) rfl) (aNc (hs.r row (mem_of_mem_take hr)).1 (hs.r row (mem_of_mem_take hr)).2.1 (hs.r row (mem_of_mem_take hr)).2.2)
 have k1 := jR (is := [6]) (tg := tgN 6) (C := aZ) (sU (sl1 none)) (by rw [length_map, length_take]; omega) c1
 have e1 : (rows.take a).map (fun row => D.str (cV row)) ++ [D.str []] = ((rows.take a).map cV ++ [[]]).map .str := by rw [List.map_append, List.map_map]; rfl
 refine cI (st' := [some (.v (cL rows)), some (.v (.int cell)), some (.v (.str (dI rows))), some (.v (.int (a : Nat))), some (.v (.str ah)), none, none, none]) (dD (qG rfl (aF (aQ k1 (eX (aF rfl rfl)) (qY (by rw [length_map, length_take]; show _ + 1 <= _; omega))) rfl) (by
  rw [e1, <- hAh]
  exact qH (by show _ + _ * 2 <= _; omega)))) ?_
 have sl2 : eSl (aD 0) (wD (e2 cN (aD 3) (eC (.int 1)))) wC [some (.v (cL rows)), some (.v (.int cell)), some (.v (.str (dI rows))), some (.v (.int (a : Nat))), some (.v (.str ah)), none, none, none] = .ok (.lst ((rows.drop (a + 1)).map cZ)) := by
  show dSl (cL rows) (some (((a : Nat) : Int) + 1)) none = _
  show R.ok (D.lst (cut (rows.map cZ) (some ((a + 1 : Nat) : Int)) none)) = _
  rw [aMr _ _ (by rw [length_map]; omega), List.map_drop]
 have c2 := oR (E := uW) (st := [some (.v (cL rows)), some (.v (.int cell)), some (.v (.str (dI rows))), some (.v (.int (a : Nat))), some (.v (.str ah)), none, none, none]) (j := 6) cZ (fun row => .str (cV row)) (rows.drop (a + 1)) fun row hr => bJ (aF (eX (aF rfl rfl)) rfl) (aNc (hs.r row (mem_of_mem_drop hr)).1 (hs.r row (mem_of_mem_drop hr)).2.1 (hs.r row (mem_of_mem_drop hr)).2.2)
 have k2 := jR (is := [6]) (tg := tgN 6) (C := aZ) (sU sl2) (by rw [length_map, length_drop]; omega) c2
 have e2 : [D.str []] ++ (rows.drop (a + 1)).map (fun row => D.str (cV row)) = ([] :: (rows.drop (a + 1)).map cV).map .str := by rw [map_cons, List.map_map]; rfl
 refine cI (st' := [some (.v (cL rows)), some (.v (.int cell)), some (.v (.str (dI rows))), some (.v (.int (a : Nat))), some (.v (.str ah)), some (.v (.str bh)), none, none]) (dD (qG rfl (aF (aQ (eX (aF rfl rfl)) k2 (qY (by rw [length_map, length_drop]; show 1 + _ <= _; omega))) rfl) (by
  rw [e2, <- hBh]
  exact qH (by show _ + _ * 2 <= _; omega)))) ?_
 refine cI (st' := [some (.v (cL rows)), some (.v (.int cell)), some (.v (.str (dI rows))), some (.v (.int (a : Nat))), some (.v (.str ah)), some (.v (.str bh)), some (.v (cZ (r :: t1 :: ts'))), none]) (dD (aQ rfl rfl (rJ (atI_get hrl')))) ?_
 have l1 := hT
 refine cI (st' := [some (.v (cL rows)), some (.v (.int cell)), some (.v (.str (dI rows))), some (.v (.int (a : Nat))), some (.v (.str ah)), some (.v (.str bh)), some (.v (cZ (r :: t1 :: ts'))), some (.v (.lst (([[], dI rows ++ [59, 32], [59, 32] ++ dI rows, dI rows ++ [59], dI rows ++ [32], [32] ++ dI rows, dI rows ++ [126], dI rows ++ [59] ++ dI rows] : List (List Nat)).map .str)))]) (dD (eX (aF rfl (aF (aQ rfl rfl (ad _ _ (by omega) (by decide))) (aF (aQ rfl rfl (ad _ _ (by decide) (by omega))) (aF (aQ rfl rfl (ad _ _ (by omega) (by decide))) (aF (aQ rfl rfl (ad _ _ (by omega) (by decide))) (aF (aQ rfl rfl (ad _ _ (by decide) (by omega))) (aF (aQ rfl rfl (ad _ _ (by omega) (by decide))) (aF (aQ (aQ rfl rfl (ad _ _ (by omega) (by decide))) rfl (ad _ _ (by rw [length_append]; show _ + 1 <= _; omega) (by omega))) rfl)))))))))) ?_
 have i0 : dIx (cZ (r :: t1 :: ts')) (.int 0) = .ok (.str r) := rJ (show atI ((r :: t1 :: ts').map D.str) ((0 : Nat) : Int) = _ from atI_get rfl)
 have i1 : dIx (cZ (r :: t1 :: ts')) (.int 1) = .ok (.str t1) := rJ (show atI ((r :: t1 :: ts').map D.str) ((1 : Nat) : Int) = _ from atI_get rfl)
 refine cI (st' := [some (.v (cL rows)), some (.v (.int cell)), some (.v (.str (dI rows))), some (.v (.int (a : Nat))), some (.v (.str ah)), some (.v (.str bh)), some (.v (cZ (r :: t1 :: ts'))), some (.v (.lst ((aA5 (dI rows) ah bh r t1).map .str)))]) (dD (aQ rfl (eX (aF (aQ (aQ rfl (aQ rfl rfl i0) (ad _ _ (by omega) (by omega))) rfl (ad _ _ (by rw [length_append]; omega) (by omega))) (aF (aQ (aQ (aQ (aQ rfl (aQ rfl rfl i0) (ad _ _ (by omega) (by omega))) rfl (ad _ _ (by rw [length_append]; omega) (by decide))) (aQ rfl rfl i1) (ad _ _ (by rw [length_append, length_append]; show _ + _ + 1 <= _; omega) (by omega))) rfl (ad _ _ (by rw [length_append, length_append, length_append]; show _ + _ + 1 + _ <= _; omega) (by omega))) (aF (aQ (aQ (aQ rfl (aQ rfl rfl i0) (ad _ _ (by omega) (by omega))) rfl (ad _ _ (by rw [length_append]; omega) (by decide))) rfl (ad _ _ (by rw [length_append, length_append]; show _ + _ + 4 <= _; omega) (by omega))) rfl)))) (qY (show 8 + 3 <= 1000000 by decide)))) ?_
 have hks : ((aA5 (dI rows) ah bh r t1).map D.str)[k]? = some (D.str s) := by rw [List.getElem?_map, hs']; rfl
 exact lA (aQ rfl (bJ (aF rfl (aF rfl (aF (fC rfl rfl) rfl))) m4) (rJ (atI_get hks)))
end Pu
namespace Pu
theorem aRs {c : Ex} {a b : NP}  {st : PSt} {r : R Fl} (h : c (st.set i (some (.v (cL rows)))) = .ok (.bl true)) (ha : a (dY rows) st = r) : pIf i c a b (dY rows) st = r := by
 unfold pIf
 rw [wR, h]
 exact ha
theorem aFx {c : Ex} {a b : NP}  {st : PSt} {r : R Fl} (h : c (st.set i (some (.v (cL rows)))) = .ok (.bl false)) (hb : b (dY rows) st = r) : pIf i c a b (dY rows) st = r := by
 unfold pIf
 rw [wR, h]
 exact hb
theorem aNd {a : NP} {b : Bd}  {st : PSt} {r : R Fl} (h : a xss st = .ok (.nx st')) (hb : b st' = r) : aIl a b xss st = r := by
 unfold aIl aAe
 rw [h]
 exact hb
theorem aQ7 {st : PSt} {s : List Nat}  {a : Nat} (hg : g st = .ok (.int a)) (hf : f st = .ok (.str s)) (ha : rows[a]? = some row) (hl : row.length <= 1000) : aK7 g f (dY rows) st = .ok (.nx (dY (rows.set a (row ++ [s]))) st) := by
 obtain ⟨hlt, hrow⟩ := List.getElem?_eq_some_iff.mp ha
 unfold aK7
 rw [hg, aN]
 show (f st).bind _ = _
 rw [hf, aN, aEe (by rw [length_map]; exact hlt)]
 show (match (dY rows)[a]? with | some ys => aH (ys.length < big) (R.ok (NFl.nx ((dY rows).set a (ys ++ [D.str s])) st)) | none => R.bad) = _
 rw [List.getElem?_map, ha]
 show aH _ _ = _
 rw [aG (aH6 (by rw [length_map]; omega))]
 have e : (dY rows).set a (row.map D.str ++ [.str s]) = dY (rows.set a (row ++ [s])) := by
  show (rows.map _).set a _ = (rows.set a (row ++ [s])).map _
  rw [List.map_set, List.map_append]
  rfl
 rw [e]
theorem aQ8 (n : Nat) (x : α) : rep n [x] = List.replicate n x := by
 unfold rep
 induction n with
 | zero => rfl
 | succ n ih => rw [List.replicate_succ, flatten_cons, ih]; rfl
theorem tok0 : NTok [48] := ⟨by decide, by decide, by decide, .inl rfl⟩
def aJ1 (row : List (List Nat)) : D := .lst (nats (row.tail.map nD))
theorem wV (rows : List (List (List Nat))) : sV rows = .lst (rows.map aJ1) := rfl
section
variable   {c : Nat}
theorem aBi {r : List Nat} {ts : List (List Nat)} (h : NTok r) (hn : ts ≠ []) (ht : ∀ t ∈ ts, NTok t) : dO (r :: ts) := ⟨r, ts, rfl, h, hn, ht⟩
theorem aKu (M : MchF S rk c) (cell : Int) : ∃ rows, dN [cL (rows0 S rk), .int cell] = .ok (.str (dI rows)) /\ rows ≠ [] /\ (∀ row ∈ rows, dO row) /\ Small rows /\ aPz (sV rows) := by
 have h8 := M.most
 have h1 := M.one
 have hc1 := M.c1
 have hc3 := M.c3
 have hn := wQ M
 have hg := qZ M
 have hs := jJ M
 have hlen := zE M
 have hst : (rows0 S rk).map aJ1 = stD S := D.lst.inj (aNa M.rks).1
 obtain ⟨a, ha, ea⟩ := lR cell 1 (m := (rows0 S rk).length) (List.length_pos_iff.mpr hn)
 obtain ⟨w, hw, ew⟩ := lR cell 3 (m := 4) (by decide)
 have haS : a < S.length := by omega
 have hak : a < rk.length := by rw [M.rks]; exact haS
 have hrow : (rows0 S rk)[a]? = some (cG rk[a] :: (S[a]).map cG) := by
  unfold rows0
  rw [List.getElem?_map, List.getElem?_eq_getElem (by rw [length_zip, M.rks, Nat.min_self]; exact haS), List.getElem_zip]
  rfl
 have hSa : S[a] ∈ S := List.getElem_mem haS
 have hra : rk[a] < 10 ^ 30 := M.rb _ (List.getElem_mem hak)
 obtain ⟨hs1, hs2⟩ := M.row _ hSa
 have hsx : ∀ x ∈ S[a], x < 10 ^ 30 := fun x hx => M.room hSa hx
 generalize rk[a] = r at hrow hra
 generalize hsd : S[a] = s at hrow hs1 hs2 hsx hSa
 have m1 : aR [.int cell, .int 1, .int ((rows0 S rk).length : Nat)] = .ok (.int (a : Nat)) := by rw [fJ _ _ _ (by omega), ea]
 have m3 : aR [.int cell, .int 3, .int 4] = .ok (.int (w : Nat)) := by rw [fJ _ _ _ (by decide)]; exact congrArg (fun z => R.ok (D.int z)) ew
 have ltot : eE (cL (rows0 S rk)) = .ok (.int ((rows0 S rk).length : Nat)) := by show R.ok (D.int (((rows0 S rk).map cZ).length : Nat)) = _; rw [length_map]
 have hrl : ((rows0 S rk).map cZ)[a]? = some (cZ (cG r :: s.map cG)) := by rw [List.getElem?_map, hrow]; rfl
 have hwd : ∀ x0 : Option Sl, ∀ j : Int, e2 dEq (aD 3) (eC (.int j)) [x0, some (.v (.int cell)), some (.v (.int (a : Nat))), some (.v (.int (w : Nat))), none, none] = .ok (.bl (decide ((w : Int) = j))) := fun x0 j => aQ rfl rfl (aHg _ _)
 have key : ∀ rows, (pIf 0 (e2 dEq (aD 3) (eC (.int 0))) (vH (aD2 0 (aD 2) (e2 cN (eC (.int 1)) (bM aR (aB (aD 1) (aB (eC (.int 2)) (aB (e2 aAx (e1 eE (e2 dIx (aD 0) (aD 2))) (eC (.int 1))) (aV)))))) (e1 aE7 (e2 cN (e1 eE (aD 0)) (bM aR (aB (aD 1) (aB (eC (.int 4)) (aB (eC (.int 3)) (aV)))))))) (pClose 0 (eN))) (pIf 0 (vC (e2 dEq (aD 3) (eC (.int 1))) (e2 dGt (e1 eE (aD 0)) (eC (.int 1)))) (vH (aK7 (aD 2) (eC (.str [48]))) (pClose 0 (eN))) (pClose 0 (sIf (e2 dEq (aD 3) (eC (.int 2))) (eF 0 (cT [4] (tgN 4) (itE (aD 0)) aZ (iJ))) (eF 0 (e2 cN (aD 0) (cT [5] (tgN 5) (nC (e2 aAx (eC (.int 9)) (e1 eE (aD 0)))) aZ (iK)))))))) (dY (rows0 S rk)) [none, some (.v (.int cell)), some (.v (.int (a : Nat))), some (.v (.int (w : Nat))), none, none] = .ok (.nx [some (.v (cL rows)), some (.v (.int cell)), some (.v (.int (a : Nat))), some (.v (.int (w : Nat))), none, none]) -> Small rows -> dN [cL (rows0 S rk), .int cell] = .ok (.str (dI rows)) := fun rows h sm => by
  refine fG rfl (aJ0 rfl (by omega) ?_)
  refine lQ (st' := [none, some (.v (.int cell)), some (.v (.int (a : Nat))), none, none, none]) (wU (bJ (aF rfl (aF rfl (aF (fC rfl ltot) rfl))) m1) rfl) ?_
  refine lQ (st' := [none, some (.v (.int cell)), some (.v (.int (a : Nat))), some (.v (.int (w : Nat))), none, none]) (aEf (bJ (aF rfl (aF rfl (aF rfl rfl))) m3)) ?_
  exact aNd h (lA (bJ rfl (sW sm)))
 have hle := M.rks
 by_cases w0 : w = 0
 ·
  obtain ⟨q, hq, eq⟩ := lR cell 2 (m := c) (by omega)
  obtain ⟨v, hv, ev⟩ := lR cell 4 (m := 3) (by decide)
  have hvb : S.length + v < 10 ^ 30 := by
   have h3 : (10 : Nat) ^ 30 = 1000000000000000000000000000000 := by decide
   omega
  have m2 : aR [.int cell, .int 2, .int (c : Nat)] = .ok (.int (q : Nat)) := by rw [fJ _ _ _ (by omega), eq]
  have m4 : aR [.int cell, .int 4, .int 3] = .ok (.int (v : Nat)) := by rw [fJ _ _ _ (by decide)]; exact congrArg (fun z => R.ok (D.int z)) ev
  have hgood : dO ((cG r :: s.map cG).set (q + 1) (cG (S.length + v))) := by
   rw [List.set_cons_succ]
   refine aBi (mJ hra) (fun z => ?_) fun t ht => ?_
   ·have := congrArg List.length z
    rw [length_set, length_map, length_nil] at this
    omega
   ·rcases List.mem_or_eq_of_mem_set ht with z | z
    ·obtain ⟨x, hx, rfl⟩ := List.mem_map.mp z
     exact mJ (hsx x hx)
    ·rw [z]; exact mJ hvb
  have hsm : Small ((rows0 S rk).set a ((cG r :: s.map cG).set (q + 1) (cG (S.length + v)))) := by
   refine zF hs (fun z => ?_) (by rw [length_set, length_cons, length_map]; omega) fun t ht => ?_
   ·have := congrArg List.length z
    rw [length_set, length_cons, length_nil] at this
    omega
   ·have hT : NTok t := by
     obtain ⟨p, hp⟩ := List.mem_iff_getElem?.mp ht
     exact aBh hgood hp
    have := hT.len
    omega
  refine ⟨_, key _ ?_ hsm, fun z => ?_, fun row hr => ?_, hsm, ?_⟩
  ·refine aRs ((hwd _ 0).trans (by rw [w0]; rfl)) (lQ (aFw (s := cG (S.length + v)) (a := a) (p := q + 1) ?_ rfl ?_ hrow (by rw [length_cons, length_map]; omega)) (sX rfl))
   ·refine fC (aQ (fC rfl ltot) (bJ (aF rfl (aF rfl (aF rfl rfl))) m4) rfl) ?_
    show aE7 (.int (((rows0 S rk).length : Int) + (v : Int))) = _
    rw [hlen, show ((S.length : Int) + (v : Int)) = ((S.length + v : Nat) : Int) by omega]
    exact aBf hvb
   ·have lr : eE (cZ (cG r :: s.map cG)) = .ok (.int ((c + 1 : Nat) : Int)) := by
     show R.ok (D.int (((cG r :: s.map cG).map D.str).length : Nat)) = _
     rw [length_map, length_cons, length_map, hs1]
    refine aQ (y := .int (q : Nat)) rfl (bJ (aF rfl (aF rfl (aF (aQ (fC (aQ rfl rfl (rJ (atI_get hrl))) lr) rfl rfl) rfl))) ?_) ?_
    ·show aR [.int cell, .int 2, .int (((c + 1 : Nat) : Int) - 1)] = _
     rw [show ((c + 1 : Nat) : Int) - 1 = (c : Nat) by omega]
     exact m2
    ·show R.ok (D.int (1 + (q : Int))) = _
     rw [show (1 : Int) + (q : Int) = ((q + 1 : Nat) : Int) by omega]
  ·have := congrArg List.length z
   rw [length_set, length_nil] at this
   omega
  ·rcases List.mem_or_eq_of_mem_set hr with z | z
   ·exact hg row z
   ·rw [z]; exact hgood
  ·rw [wV, List.map_set, hst]
   have e : aJ1 ((cG r :: s.map cG).set (q + 1) (cG (S.length + v))) = .lst (nats (s.set q (S.length + v))) := by
    rw [List.set_cons_succ]
    show D.lst (nats (((s.map cG).set q (cG (S.length + v))).map nD)) = _
    rw [List.map_set, aBg, (qX _).2.2.1]
   rw [e]
   refine aIs M.toMch haS (qD _ (by rw [length_set]; omega)) (.inr ⟨_, rfl, .inr ⟨by rw [eQ, length_set]; exact hs1, .int ((S.length + v : Nat) : Int), ?_, ?_⟩⟩)
   ·exact List.mem_map_of_mem (List.mem_set (by omega) _)
   ·unfold wJ
    have : ¬ ((S.length + v : Nat) : Int) < (S.length : Int) := by omega
    simp only [decide_eq_false this, Bool.and_false]
 ·have f0 : (decide ((w : Int) = 0)) = false := decide_eq_false (by omega)
  by_cases w1 : w = 1 /\ 1 < S.length
  ·
   have hgood : dO ((cG r :: s.map cG) ++ [[48]]) := by
    refine aBi (mJ hra) (by simp) fun t ht => ?_
    rcases List.mem_append.mp ht with z | z
    ·obtain ⟨x, hx, rfl⟩ := List.mem_map.mp z
     exact mJ (hsx x hx)
    ·rw [List.mem_singleton.mp z]; exact tok0
   have hsm : Small ((rows0 S rk).set a ((cG r :: s.map cG) ++ [[48]])) := by
    refine zF hs (by simp) (by simp; omega) fun t ht => ?_
    have hT : NTok t := by
     obtain ⟨p, hp⟩ := List.mem_iff_getElem?.mp ht
     exact aBh hgood hp
    have := hT.len
    omega
   refine ⟨_, key _ ?_ hsm, fun z => ?_, fun row hr => ?_, hsm, ?_⟩
   ·refine aFx ((hwd _ 0).trans (by rw [f0])) (aRs ?_ (lQ (aQ7 (s := [48]) (a := a) rfl rfl hrow (by simp; omega)) (sX rfl)))
    refine (aHf (p := true) (q := true) ((hwd _ 1).trans (by rw [w1.1]; rfl)) fun _ => aQ (fC rfl ltot) rfl ?_)
    show R.ok (D.bl (decide ((1 : Int) < ((rows0 S rk).length : Nat)))) = _
    rw [decide_eq_true (by omega)]
   ·have := congrArg List.length z
    rw [length_set, length_nil] at this
    omega
   ·rcases List.mem_or_eq_of_mem_set hr with z | z
    ·exact hg row z
    ·rw [z]; exact hgood
   ·rw [wV, List.map_set, hst]
    have e : aJ1 ((cG r :: s.map cG) ++ [[48]]) = .lst (nats (s ++ [0])) := by
     show D.lst (nats ((s.map cG ++ [[48]]).map nD)) = _
     rw [List.map_append, aBg]
     rfl
    rw [e]
    exact aIs M.toMch haS (qD _ (by rw [length_append]; show _ + 1 <= _; omega)) (.inr ⟨_, rfl, .inl ⟨by rw [eQ, length_append]; show ¬ (_ + 1 = _); omega, w1.2⟩⟩)
  ·have t1 : ∀ x0 : Option Sl, x0 = some (.v (cL (rows0 S rk))) -> vC (e2 dEq (aD 3) (eC (.int 1))) (e2 dGt (e1 eE (aD 0)) (eC (.int 1))) [x0, some (.v (.int cell)), some (.v (.int (a : Nat))), some (.v (.int (w : Nat))), none, none] = .ok (.bl false) := fun x0 hx => by
    subst hx
    refine aD5 (aHf (p := decide ((w : Int) = 1)) (q := decide ((1 : Int) < ((rows0 S rk).length : Nat))) (hwd _ 1) fun _ => aQ (fC rfl ltot) rfl rfl) ?_
    by_cases z : w = 1
    ·rw [decide_eq_false (show ¬ (1 : Int) < ((rows0 S rk).length : Nat) by have := fun h => w1 ⟨z, h⟩; omega), Bool.and_false]
    ·rw [decide_eq_false (by omega)]; rfl
   by_cases w2 : w = 2
   ·
    have hgm : ∀ row ∈ rows0 S rk, dO (row ++ List.replicate (4 - c) [48]) := fun row hr => by
     obtain ⟨r', ts, rfl, h1', h2', h3'⟩ := hg row hr
     refine aBi h1' (fun z => h2' (List.append_eq_nil_iff.mp z).1) fun t ht => ?_
     rcases List.mem_append.mp ht with z | z
     ·exact h3' t z
     ·rw [(List.mem_replicate.mp z).2]; exact tok0
    have hsm : Small ((rows0 S rk).map fun row => row ++ List.replicate (4 - c) [48]) := by
     refine ⟨by rw [length_map]; exact hs.n, fun row hr => ?_⟩
     obtain ⟨row', hr', rfl⟩ := List.mem_map.mp hr
     obtain ⟨g1, g2⟩ := qI M hr'
     refine ⟨fun z => ?_, by rw [length_append, length_replicate]; omega, fun t ht => ?_⟩
     ·have := congrArg List.length z
      rw [length_append, length_nil] at this
      omega
     ·rcases List.mem_append.mp ht with z | z
      ·have := g2 t z; omega
      ·rw [(List.mem_replicate.mp z).2]; decide
    refine ⟨_, key _ ?_ hsm, fun z => hn (List.map_eq_nil_iff.mp z), fun row hr => ?_, hsm, ?_⟩
    ·refine aFx ((hwd _ 0).trans (by rw [f0])) (aFx (t1 _ rfl) (sX (aFg ((hwd _ 2).trans (by rw [w2]; rfl)) (dD ?_))))
     have ci := oR (E := iJ) (st := [some (.v (cL (rows0 S rk))), some (.v (.int cell)), some (.v (.int (a : Nat))), some (.v (.int (w : Nat))), none, none]) (j := 4) cZ (fun row => cZ (row ++ List.replicate (4 - c) [48])) (rows0 S rk) fun row hr => by
      obtain ⟨g1, _⟩ := qI M hr
      have lr : eE (cZ row) = .ok (.int ((c + 1 : Nat) : Int)) := by
       show R.ok (D.int ((row.map D.str).length : Nat)) = _
       rw [length_map, g1]
      have hrep : aIj (aB (eC (.str [48])) aV) (e2 aAx (eC (.int 5)) (e1 eE (aD 4))) [some (.v (cL (rows0 S rk))), some (.v (.int cell)), some (.v (.int (a : Nat))), some (.v (.int (w : Nat))), some (.v (cZ row)), none] = .ok (.lst (List.replicate (4 - c) (.str [48]))) := by
       unfold aIj
       rw [aF rfl rfl, aN, aQ rfl (fC rfl lr) (show aAx (.int 5) (.int ((c + 1 : Nat) : Int)) = .ok (.int (5 - ((c + 1 : Nat) : Int))) from rfl), aN]
       show aH _ _ = _
       have ej : ((5 : Int) - ((c + 1 : Nat) : Int)).toNat = 4 - c := by omega
       rw [aG ⟨dW (show 1 <= 10000000 by decide), dW (by show 1 * _ <= _; omega), by omega, by omega⟩, ej, aQ8]
      refine (aQ rfl hrep (qY (by rw [length_map, length_replicate]; omega))).trans ?_
      show R.ok (D.lst (row.map D.str ++ List.replicate (4 - c) (D.str [48]))) = _
      unfold cZ
      rw [List.map_append, List.map_replicate]
     have ck := jR (is := [4]) (it := itE (aD 0)) (st := [some (.v (cL (rows0 S rk))), some (.v (.int cell)), some (.v (.int (a : Nat))), some (.v (.int (w : Nat))), none, none]) (sU rfl) (by rw [length_map]; omega) ci
     refine ck.trans ?_
     unfold cL
     rw [List.map_map]
     rfl
    ·obtain ⟨row', hr', rfl⟩ := List.mem_map.mp hr
     exact hgm row' hr'
    ·rw [wV]
     have tl : ∀ row ∈ rows0 S rk, ((row ++ List.replicate (4 - c) [48]).tail.map nD).length = 4 := fun row hr => by
      obtain ⟨g1, _⟩ := qI M hr
      rw [length_map, List.length_tail, length_append, length_replicate]
      omega
     refine .inr ⟨_, rfl, by rw [length_map, length_map]; omega, fun x hx => ?_, aIr ?_⟩
     ·obtain ⟨row', h1', rfl⟩ := List.mem_map.mp hx
      obtain ⟨row, hr, rfl⟩ := List.mem_map.mp h1'
      exact qD _ (by rw [tl row hr]; decide)
     ·have hm := List.mem_of_getElem? hrow
      refine ⟨_, List.mem_map_of_mem (List.mem_map_of_mem hm), .inl ?_⟩
      show mW 3 (.lst (nats _)) = false
      rw [aFk, eQ, tl _ hm]
      rfl
   ·
    obtain ⟨row0, hr0⟩ : ∃ row0, (rows0 S rk)[0]? = some row0 := ⟨_, List.getElem?_eq_getElem (by omega)⟩
    have hm0 := List.mem_of_getElem? hr0
    have hl0 : ((rows0 S rk).map cZ)[0]? = some (cZ row0) := by rw [List.getElem?_map, hr0]; rfl
    have hmem : ∀ row ∈ rows0 S rk ++ List.replicate (9 - S.length) row0, row ∈ rows0 S rk := fun row hr => by
     rcases List.mem_append.mp hr with z | z
     ·exact z
     ·rw [(List.mem_replicate.mp z).2]; exact hm0
    have hsm : Small (rows0 S rk ++ List.replicate (9 - S.length) row0) := ⟨by rw [length_append, length_replicate]; omega, fun row hr => hs.r row (hmem row hr)⟩
    refine ⟨_, key _ ?_ hsm, by simp [hn], fun row hr => hg row (hmem row hr), hsm, ?_⟩
    ·refine aFx ((hwd _ 0).trans (by rw [f0])) (aFx (t1 _ rfl) (sX (vK ((hwd _ 2).trans (by rw [decide_eq_false (by omega)])) (dD ?_))))
     have hit : nC (e2 aAx (eC (.int 9)) (e1 eE (aD 0))) [some (.v (cL (rows0 S rk))), some (.v (.int cell)), some (.v (.int (a : Nat))), some (.v (.int (w : Nat))), none, none] = .ok ((List.range (9 - S.length)).map fun (k : Nat) => D.int (k : Int)) := aRn (aQ rfl (fC rfl ltot) (by
      show R.ok (D.int (9 - ((rows0 S rk).length : Int))) = _
      rw [hlen, show (9 : Int) - (S.length : Int) = ((9 - S.length : Nat) : Int) by omega])) (by omega)
     have ci := oR (E := iK) (st := [some (.v (cL (rows0 S rk))), some (.v (.int cell)), some (.v (.int (a : Nat))), some (.v (.int (w : Nat))), none, none]) (j := 5) (fun (k : Nat) => D.int (k : Int)) (fun _ => cZ row0) (List.range (9 - S.length)) fun k hk => fC (aQ rfl rfl (rJ (show atI ((rows0 S rk).map cZ) ((0 : Nat) : Int) = _ from atI_get hl0))) rfl
     have ck := jR (is := [5]) (tg := tgN 5) (C := aZ) hit (by rw [length_map, length_range]; omega) ci
     refine (aQ rfl ck (qY (by rw [length_map, length_map, length_range]; omega))).trans ?_
     show R.ok (D.lst ((rows0 S rk).map cZ ++ (List.range (9 - S.length)).map fun _ => cZ row0)) = _
     unfold cL
     rw [List.map_append, List.map_replicate, List.map_const', length_range]
    ·rw [wV]
     refine .inr ⟨_, rfl, by rw [length_map, length_append, length_replicate]; omega, fun x hx => ?_, ?_⟩
     ·obtain ⟨row, hr, rfl⟩ := List.mem_map.mp hx
      obtain ⟨g1, _⟩ := qI M (hmem row hr)
      exact qD _ (by rw [length_map, List.length_tail]; omega)
     ·unfold stB
      rw [aFk, length_map, length_append, length_replicate, decide_eq_false (show ¬ (rows0 S rk).length + (9 - S.length) <= 8 by omega), Bool.and_false, Bool.false_and, Bool.false_and]
theorem aFy (M : MchF S rk c) (cell : Int) : ∃ t, dN [cL (rows0 S rk), .int cell] = .ok (.str t) /\ cR [.str t] = .ok aBc := by
 obtain ⟨rows, e, hn, hg, hs, hb⟩ := aKu M cell
 exact ⟨_, e, aQ2 (by rw [aDe hn hg hs]; exact aKf hb.no)⟩
end
end Pu
namespace Pu
theorem aAn : dNe aA3 aA3 = .ok (.bl false) /\ dNe aBc aBc = .ok (.bl false) := by
 constructor <;> simp [aA3, aBc]
theorem aQ9 (S : List (List Nat)) (rk : List Nat) : dNe (.lst [.lst (stD S), .lst (nats rk)]) (.lst [.lst (stD S), .lst (nats rk)]) = .ok (.bl false) := by
 obtain ⟨k1, k2, k3⟩ := yR S
 obtain ⟨l1, l2, l3⟩ := qW rk
 have kd : dep (.lst (stD S)) <= 2 := by unfold dep; omega
 have ke : eqD (.lst (stD S)) (.lst (stD S)) = true := by (conv => lhs; unfold eqD); exact k3
 have kp : plain (.lst (stD S)) = true := by (conv => lhs; unfold plain); exact k1
 have ld : dep (.lst (nats rk)) = 1 := by unfold dep; rw [l2]
 have le : eqD (.lst (nats rk)) (.lst (nats rk)) = true := by (conv => lhs; unfold eqD); exact l3
 have lp : plain (.lst (nats rk)) = true := by (conv => lhs; unfold plain); exact l1
 have pd : gO [D.lst (stD S), D.lst (nats rk)] <= 2 := by
  rw [yK, yK, ld]
  have : gO ([] : List D) = 0 := by unfold gO; rfl
  omega
 have pp : fK [D.lst (stD S), D.lst (nats rk)] = true := by
  rw [jH, jH, kp, lp]
  have : fK ([] : List D) = true := by unfold fK; rfl
  rw [this]; rfl
 have pe : fH [D.lst (stD S), D.lst (nats rk)] [D.lst (stD S), D.lst (nats rk)] = true := by
  conv => lhs; unfold fH
  rw [ke]
  conv => lhs; rhs; unfold fH
  rw [le]
  conv => lhs; rhs; rhs; unfold fH
  rfl
 have qd : dep (.lst [D.lst (stD S), D.lst (nats rk)]) <= 3 := by unfold dep; omega
 have qe : eqD (.lst [D.lst (stD S), D.lst (nats rk)]) (.lst [D.lst (stD S), D.lst (nats rk)]) = true := by (conv => lhs; unfold eqD); exact pe
 have qp : plain (.lst [D.lst (stD S), D.lst (nats rk)]) = true := by (conv => lhs; unfold plain); exact pp
 rw [aHa, aG ⟨by omega, qp, qp⟩, qe]
 rfl
def aBj (ns : List Int) (S : List (List Nat)) (rk : List Nat) (c : Nat) (x3 x6 : Option Sl) : PSt := [some (.v (.lst (ns.map D.int))), some (.v (mD S rk c)), some (.v (cL (rows0 S rk))), x3, some (.v (.lst (stD S))), some (.v (.lst (nats rk))), x6, none]
theorem aTc (ns : List Int)   {c : Nat} (M : MchF S rk c) (k : Nat) (x6 : Option Sl) : ∃ y6, aE8 (aBj ns S rk c (some (.v (.int (18 + (k : Int))))) x6) = .ok (.nx (aBj ns S rk c (some (.v (.int (18 + (k : Int))))) y6)) := by
 have hcell := yN ns (18 + k) (by omega)
 generalize cv ns (18 + (k : Int)).toNat = cell at hcell
 refine ⟨some (.v (.int cell)), ?_⟩
 obtain ⟨t1, e1, l1, b1⟩ := aKt (wQ M) (qZ M) (jJ M) cell
 obtain ⟨t2, e2, l2, b2⟩ := aQ6 (wQ M) (qZ M) (jJ M) cell
 obtain ⟨t3, e3, r3⟩ := aFy M cell
 have r1 := aFs l1 b1
 have r2 := aFs l2 b2
 refine cI (st' := aBj ns S rk c (some (.v (.int (18 + (k : Int))))) (some (.v (.int cell)))) (dD (bJ rfl hcell)) ?_
 refine cU (vK (aQ (bJ (aF (bJ rfl e1) rfl) r1) (eX (aF rfl (aF rfl (aF rfl rfl)))) aAn.1) rfl) ?_
 refine cU (vK (aQ (bJ (aF (bJ rfl e2) rfl) r2) (eX (aF rfl (aF rfl (aF rfl rfl)))) aAn.1) rfl) ?_
 refine cU (vK (aQ (bJ (aF (bJ rfl e3) rfl) r3) (eX (aF rfl (aF rfl (aF rfl rfl)))) aAn.2) rfl) ?_
 obtain ⟨q, hq, eq⟩ := lR cell 6 (m := 5) (by decide)
 have m6 : aR [.int cell, .int 6, .int 5] = .ok (.int (q : Nat)) := by rw [fJ _ _ _ (by decide)]; exact congrArg (fun z => R.ok (D.int z)) eq
 obtain ⟨x, hx, hb⟩ : ∃ x : D, ([.non, .int 7, .lst [], .tup [.str [49, 58, 32, 48]], .bl true] : List D)[q]? = some x /\ aK5 x = false /\ oH x = true := by
  have : q = 0 \/ q = 1 \/ q = 2 \/ q = 3 \/ q = 4 := by omega
  rcases this with rfl | rfl | rfl | rfl | rfl <;> exact ⟨_, rfl, rfl, rfl⟩
 have tupv : ∀ st : PSt, aF8 (aB (eC (.str [49, 58, 32, 48])) aV) st = .ok (.tup [.str [49, 58, 32, 48]]) := fun st => aG (dW (show 1 <= 10000000 by decide))
 exact vK (aQ (bJ (aF (aQ (eX (aF rfl (aF rfl (aF (eX rfl) (aF (tupv _) (aF rfl rfl)))))) (bJ (aF rfl (aF rfl (aF rfl rfl))) m6) (rJ (atI_get hx))) rfl) (aKl hb.1 hb.2)) (eX (aF rfl (aF rfl (aF rfl rfl)))) aAn.1) rfl
theorem law_true (ns : List Int) (hn : ns.length <= 63) : aD4 [.lst (ns.map D.int)] = .ok (.bl true) := by
 obtain ⟨S, rk, c, hm, M0, hb⟩ := aMl ns
 have M : MchF S rk c := ⟨M0, fun x hx => by
  have := hb x hx
  have h3 : (10 : Nat) ^ 30 = 1000000000000000000000000000000 := by decide
  omega⟩
 have h8 := M.most
 refine fG rfl ?_
 refine cI (st' := [some (.v (.lst (ns.map D.int))), none, none, none, some (.v (.lst (stD S))), some (.v (.lst (nats rk))), none, none]) ?_ ?_
 ·rw [aPs, bJ rfl hm]
  rfl
 have hc := aKb (E := aIm) (st := [some (.v (.lst (ns.map D.int))), none, none, none, some (.v (.lst (stD S))), some (.v (.lst (nats rk))), none, none]) (j := 7) (v := 4) (xs := stD S) rfl (by rw [lO]; omega) (fun d hd => by
  obtain ⟨r, _, rfl⟩ := wL hd
  rfl)
 refine cI (st' := [some (.v (.lst (ns.map D.int))), some (.v (mD S rk c)), none, none, some (.v (.lst (stD S))), some (.v (.lst (nats rk))), none, none]) (dD (bJ (aF hc (aF (fC rfl rfl) rfl)) (by
  show (bD _).nox = _
  rw [aFm M0]
  rfl))) ?_
 refine cI (st' := aBj ns S rk c none none) (dD (bJ rfl (aHo M))) ?_
 have ht := sW (jJ M)
 refine cU (vK (aIn (p := false) (q := false) (aQ (bJ rfl (aN9 M)) (bJ rfl ht) ((aN0 _ _).trans (by simp))) fun _ => aQ (bJ (aF (bJ rfl ht) rfl) (aKr M)) (eX (aF rfl (aF rfl rfl))) (aQ9 S rk)) rfl) ?_
 obtain ⟨N, hN1, hN2, hN⟩ : ∃ N : Int, 0 <= N /\ N <= 100 /\ e2 aCw (eC (.int 22)) (e2 aCx (eC (.int 58)) (e1 eE (aD 0))) (aBj ns S rk c none none) = .ok (.int N) := by
  refine ⟨_, ?_, ?_, aQ rfl (aQ rfl (fC rfl rfl) rfl) rfl⟩
  ·split <;> split <;> omega
  ·rw [length_map]
   split <;> split <;> omega
 have hi : aPn (eC (.int 18)) (e2 aCw (eC (.int 22)) (e2 aCx (eC (.int 58)) (e1 eE (aD 0)))) (aBj ns S rk c none none) = .ok (gH 18 (N - 18).toNat) := by
  rw [aPq, aVi, aN, hN, aN]
  exact aG ⟨aAi (by omega), wA (by omega), aAi (by omega), wA (by omega)⟩
 obtain ⟨st', ⟨y3, y6, rfl⟩, e⟩ := aIq (tg := tgN 3) (L := aE8) (fun st => ∃ y3 y6, st = aBj ns S rk c y3 y6) (gH 18 (N - 18).toNat) (fun d hd st ⟨y3, y6, hst⟩ => by
  obtain ⟨k, _, rfl⟩ := aB4 hd
  subst hst
  obtain ⟨z6, e⟩ := aTc ns M k y6
  exact ⟨_, _, rfl, e, _, _, rfl⟩) _ ⟨none, none, rfl⟩
 refine cI (aMi hi e) ?_
 exact lA (aHf (p := true) (q := true) (aQ (fC rfl yQ) rfl (aT6 _).2) fun _ => aQ (fC rfl aA4) rfl (aPw _).2)
end Pu
namespace Pu
open PySem PySem.Spec PyProof.Rows L2
abbrev LSt := L2.St
def pL : Key -> D
 | .inl i => .int i
 | .inr x => .str x.cps.toList
structure ExcCl (K : Frag) (C : Addr) : Prop where
 ga : findIn K (.ref C) "__getattribute__" = some (some (.builtin "BaseException.__getattribute__"))
 gn : findIn K (.ref C) "__getattr__" = some none
 mb : mroIn K C (.type "BaseException") = some true
 cl : (clsIn K C).isSome = true
 fd : findIn K (.ref C) "__class__" = some (some (.builtin "object.__class__"))
 sp : specialIn K (.builtin "object.__class__") "__get__" = some (some (.builtin "getset_descriptor.__get__"))
 tk : takesIn K (.builtin "object.__class__") = some true
 mr : mroIn K C (.type "object") = some true
structure ExcAt (K : Frag) (c : String) (C : Addr) (bm : List Value) : Prop where
 ns : nsIn K mainGlobals (Str.ofString c) = some (some (.ref C))
 ob : ∃ (B newId initId : String) (bmB : List Value), ExcBaseFacts B newId initId bmB /\ ∀ h, K.In h -> ∃ N nm q bs hdct sn sub ab col dd k0 k1 k2 k3 k5 mN,
  h.get? C = some (excClassObj nm q C N bs bm hdct sn sub ab col dd k0 k1 k2 k3 k5 newId) /\ h.Ns N mN /\ mN "__init__" = none /\ OwnTail h bmB bm
 ic : ExcCl K C
def qJ (a C : Addr) (h : Heap) : Prop := ∃ o, h.get? a = some o /\ o.cls = .ref C /\ notCls o = true
structure ExcIs (K : Frag) (c : String) (C : Addr) : Prop where
 ns : nsIn K mainGlobals (Str.ofString c) = some (some (.ref C))
 ic : ExcCl K C
theorem ExcAt.is {K : Frag}   {bm : List Value} (h : ExcAt K c C bm) : ExcIs K c C := ⟨h.ns, h.ic⟩
def xOb (x C : Addr) (d : Option Addr) (h : Heap) : Prop := ∃ o, h.get? x = some o /\ o.cls = .ref C /\ notCls o = true /\ o.dict = d
def xFs (dx : Addr) (fs : List (Str × V)) (h : Heap) : Prop := ∃ mA, h.Ns1 dx mA /\ (∀ f, aAc (fs.lookup f) (mA f)) /\ PySem.Within mA (fs.map (·.1))
mutual
def Rep (K : Frag) (H : Hp) : D -> V -> Prop
 | .non, v => v = V.non
 | .bl b, v => v = V.bl b
 | .int i, v => v = V.int i
 | .str s, v => v = V.str ⟨s.toArray⟩
 | .tup ds, v => ∃ a vs, v = V.ref a /\ H a = some (.tup vs) /\ bA K H ds vs
 | .lst ds, v => ∃ a vs, v = V.ref a /\ SqL K H a vs /\ bA K H ds vs
 | .dct t ks ds, v => ∃ a vs, v = V.ref a /\ ((t = false /\ ∃ kvs : List (Key × V), H a = some (.dK kvs) /\ kvs.map (fun p => pL p.1) = ks /\ vs = kvs.map (·.2)) \/ (t = true /\ ∃ kvs : List (List Key × V), H a = some (.dT kvs) /\ kvs.map (fun p => D.tup (p.1.map pL)) = ks /\ vs = kvs.map (·.2))) /\ bA K H ds vs
 | .ins c ns ds, v => ∃ a C dx fs vs, v = V.ref a /\ H a = some (.ins C dx fs) /\ nsIn K mainGlobals (Str.ofString c) = some (some (.ref C)) /\ fs.map (·.1) = ns.map Str.ofString /\ vs = fs.map (·.2) /\ bA K H ds vs
 | .exn c ns ds, v => ∃ a φ C, v = V.ref a /\ H a = some (.ext φ) /\ (∀ h, φ h -> qJ a C h) /\ ExcIs K c C /\ ∃ dx fs vs, ((ns = [] /\ vs = []) \/ (φ = xOb a C (some dx) /\ dx ≠ a /\ H dx = some (.ext (xFs dx fs)) /\ fs.map (·.1) = ns.map Str.ofString /\ vs = fs.map (·.2))) /\ bA K H ds vs
 | .fn f, v => ∃ a, v = V.ref a /\ nsIn K mainGlobals (Str.ofString f) = some (some (.ref a))
def bA (K : Frag) (H : Hp) : List D -> List V -> Prop
 | [], vs => vs = []
 | d :: ds, vs => ∃ v r, vs = v :: r /\ Rep K H d v /\ bA K H ds r
end
theorem sY {K : Frag}  {a : Addr} {xs : List V} (e : aM H H') (h : SqT K H a xs) : SqT K H' a xs := by
 rcases h with (h | ⟨o, h⟩) | h
 ·exact .inl (.inl (e _ _ h))
 ·exact .inl (.inr ⟨o, e _ _ h⟩)
 ·exact .inr h
mutual
theorem Rep.mono {K : Frag} {H H' : Hp} (s : aM H H') : ∀ {d : D} {v : V}, Rep K H d v -> Rep K H' d v
 | .non, _, h => by unfold Rep at h ⊢; exact h
 | .bl _, _, h => by unfold Rep at h ⊢; exact h
 | .int _, _, h => by unfold Rep at h ⊢; exact h
 | .str _, _, h => by unfold Rep at h ⊢; exact h
 | .tup _, _, h => by
  unfold Rep at h ⊢
  obtain ⟨a, vs, e, q, r⟩ := h
  exact ⟨a, vs, e, s _ _ q, bA.mono s r⟩
 | .lst _, _, h => by
  unfold Rep at h ⊢
  obtain ⟨a, vs, e, q, r⟩ := h
  exact ⟨a, vs, e, s.seq q, bA.mono s r⟩
 | .dct _ _ _, _, h => by
  unfold Rep at h ⊢
  obtain ⟨a, vs, e, q, r⟩ := h
  refine ⟨a, vs, e, ?_, bA.mono s r⟩
  rcases q with ⟨q0, kvs, q1, q2⟩ | ⟨q0, kvs, q1, q2⟩
  ·exact .inl ⟨q0, kvs, s _ _ q1, q2⟩
  ·exact .inr ⟨q0, kvs, s _ _ q1, q2⟩
 | .ins _ _ _, _, h => by
  unfold Rep at h ⊢
  obtain ⟨a, C, dx, fs, vs, e, q1, q2, q3, q4, r⟩ := h
  exact ⟨a, C, dx, fs, vs, e, s _ _ q1, q2, q3, q4, bA.mono s r⟩
 | .fn _, _, h => by unfold Rep at h ⊢; exact h
 | .exn _ _ _, _, h => by
  unfold Rep at h ⊢
  obtain ⟨a, φ, C, e, q, hφ, hi, dx, fs, vs, h1, r⟩ := h
  refine ⟨a, φ, C, e, s _ _ q, hφ, hi, dx, fs, vs, ?_, bA.mono s r⟩
  rcases h1 with h1 | ⟨h1, h2, h3, h4⟩
  ·exact .inl h1
  ·exact .inr ⟨h1, h2, s _ _ h3, h4⟩
theorem bA.mono {K : Frag} {H H' : Hp} (s : aM H H') : ∀ {ds : List D} {vs : List V}, bA K H ds vs -> bA K H' ds vs
 | [], _, h => by unfold bA at h ⊢; exact h
 | d :: ds, _, h => by
  unfold bA at h ⊢
  obtain ⟨v, r, e, q, t⟩ := h
  exact ⟨v, r, e, Rep.mono s q, bA.mono s t⟩
end
section
variable {K : Frag} 
theorem bV : Rep K H .non v ↔ v = V.non := by unfold Rep; exact Iff.rfl
theorem bK {b : Bool}  : Rep K H (.bl b) v ↔ v = V.bl b := by unfold Rep; exact Iff.rfl
theorem aW {i : Int}  : Rep K H (.int i) v ↔ v = V.int i := by unfold Rep; exact Iff.rfl
theorem aO {s : List Nat}  : Rep K H (.str s) v ↔ v = V.str ⟨s.toArray⟩ := by unfold Rep; exact Iff.rfl
theorem qK : Rep K H (.tup ds) v ↔ ∃ a vs, v = V.ref a /\ H a = some (.tup vs) /\ bA K H ds vs := by conv => lhs; unfold Rep
theorem bF (h : Rep K H (.tup ds) v) : ∃ a vs, v = V.ref a /\ SqT K H a vs /\ bA K H ds vs :=
 let ⟨a, vs, e, q, r⟩ := qK.mp h; ⟨a, vs, e, SqT.of q, r⟩
theorem bG : Rep K H (.lst ds) v ↔ ∃ a vs, v = V.ref a /\ SqL K H a vs /\ bA K H ds vs := by conv => lhs; unfold Rep
theorem aAo {t : Bool} {ks : List D}  : Rep K H (.dct t ks ds) v ↔ ∃ a vs, v = V.ref a /\ ((t = false /\ ∃ kvs : List (Key × V), H a = some (.dK kvs) /\ kvs.map (fun p => pL p.1) = ks /\ vs = kvs.map (·.2)) \/ (t = true /\ ∃ kvs : List (List Key × V), H a = some (.dT kvs) /\ kvs.map (fun p => D.tup (p.1.map pL)) = ks /\ vs = kvs.map (·.2))) /\ bA K H ds vs := by conv => lhs; unfold Rep
theorem aEg : Rep K H (.ins c ns ds) v ↔ ∃ a C dx fs vs, v = V.ref a /\ H a = some (.ins C dx fs) /\ nsIn K mainGlobals (Str.ofString c) = some (some (.ref C)) /\ fs.map (·.1) = ns.map Str.ofString /\ vs = fs.map (·.2) /\ bA K H ds vs := by conv => lhs; unfold Rep
theorem aJ2 : Rep K H (.exn c ns ds) v ↔ ∃ a φ C, v = V.ref a /\ H a = some (.ext φ) /\ (∀ h, φ h -> qJ a C h) /\ ExcIs K c C /\ ∃ dx fs vs, ((ns = [] /\ vs = []) \/ (φ = xOb a C (some dx) /\ dx ≠ a /\ H dx = some (.ext (xFs dx fs)) /\ fs.map (·.1) = ns.map Str.ofString /\ vs = fs.map (·.2))) /\ bA K H ds vs := by conv => lhs; unfold Rep
theorem dM : bA K H [] vs ↔ vs = [] := by unfold bA; exact Iff.rfl
theorem cF {d : D}   : bA K H (d :: ds) vs ↔ ∃ v r, vs = v :: r /\ Rep K H d v /\ bA K H ds r := by conv => lhs; unfold bA
theorem bA.nil : bA K H [] [] := dM.mpr rfl
theorem bA.cons {d : D}  {v : V}  (h : Rep K H d v) (t : bA K H ds vs) : bA K H (d :: ds) (v :: vs) := cF.mpr ⟨v, vs, rfl, h, t⟩
theorem bA.length : ∀ {ds : List D} {vs : List V}, bA K H ds vs -> vs.length = ds.length
 | [], _, h => by rw [dM.mp h]; rfl
 | _ :: ds, _, h => by
  obtain ⟨v, r, rfl, _, t⟩ := cF.mp h
  rw [length_cons, length_cons, bA.length t]
theorem bA.get : ∀ {ds : List D} {vs : List V} {i : Nat} {d : D}, bA K H ds vs -> ds[i]? = some d -> ∃ v, vs[i]? = some v /\ Rep K H d v
 | [], _, _, _, _, e => by simp at e
 | _ :: ds, _, 0, d, h, e => by
  obtain ⟨v, r, rfl, q, t⟩ := cF.mp h
  simp at e; subst e
  exact ⟨v, rfl, q⟩
 | _ :: ds, _, i + 1, d, h, e => by
  obtain ⟨v, r, rfl, q, t⟩ := cF.mp h
  obtain ⟨u, e1, e2⟩ := bA.get (i := i) t (by simpa using e)
  exact ⟨u, by simpa using e1, e2⟩
theorem bA.append : ∀ {ds es : List D} {vs us : List V}, bA K H ds vs -> bA K H es us -> bA K H (ds ++ es) (vs ++ us)
 | [], _, _, _, h, t => by rw [dM.mp h]; exact t
 | _ :: _, _, _, _, h, t => by
  obtain ⟨v, r, rfl, q, w⟩ := cF.mp h
  exact .cons q (bA.append w t)
theorem bA.set {d : D} {v : V} (hd : Rep K H d v) : ∀ {ds : List D} {vs : List V} (i : Nat), bA K H ds vs -> bA K H (ds.set i d) (vs.set i v)
 | [], _, _, h => by rw [dM.mp h]; exact .nil
 | _ :: _, _, 0, h => by
  obtain ⟨v, r, rfl, q, w⟩ := cF.mp h
  exact .cons hd w
 | _ :: _, _, i + 1, h => by
  obtain ⟨v, r, rfl, q, w⟩ := cF.mp h
  exact .cons q (bA.set hd i w)
theorem bA.take : ∀ {ds : List D} {vs : List V} (n : Nat), bA K H ds vs -> bA K H (ds.take n) (vs.take n)
 | _, _, 0, _ => .nil
 | [], _, _ + 1, h => by rw [dM.mp h]; exact .nil
 | _ :: _, _, n + 1, h => by
  obtain ⟨v, r, rfl, q, w⟩ := cF.mp h
  exact .cons q (bA.take n w)
theorem bA.drop : ∀ {ds : List D} {vs : List V} (n : Nat), bA K H ds vs -> bA K H (ds.drop n) (vs.drop n)
 | _, _, 0, h => h
 | [], _, _ + 1, h => by rw [dM.mp h]; exact .nil
 | _ :: _, _, n + 1, h => by
  obtain ⟨v, r, rfl, q, w⟩ := cF.mp h
  exact bA.drop n w
theorem bA.rep {ds : List D} {vs : List V} (h : bA K H ds vs) : ∀ n : Nat, bA K H (Pu.rep n ds) (List.replicate n vs).flatten
 | 0 => .nil
 | n + 1 => by
  unfold Pu.rep
  rw [List.replicate_succ, flatten_cons, List.replicate_succ, flatten_cons]
  exact h.append (bA.rep h n)
end
def hide (A : List Addr) (H : Hp) : Hp := fun b => if b ∈ A then none else H b
theorem eG {b : Addr} (h : b ∈ A) : hide A H b = none := if_pos h
theorem bI {b : Addr} (h : b ∉ A) : hide A H b = H b := if_neg h
theorem aY (A : List Addr) (H : Hp) : aM (hide A H) H := fun b o h => by
 unfold hide at h
 split at h
 ·cases h
 ·exact h
theorem aM.hide {A : List Addr} {H H' : Hp} (s : aM H H') : aM (hide A H) (hide A H') := fun b o h => by
 unfold Pu.hide at h ⊢
 split at h
 ·cases h
 ·rename_i q
  rw [if_neg q]
  exact s b o h
theorem dR {A' : List Addr}  (h : ∀ a ∈ A', a ∈ A) : aM (hide A H) (hide A' H) := fun b o q => by
 by_cases hb : b ∈ A
 ·rw [eG hb] at q; cases q
 ·rw [bI hb] at q
  rw [bI fun z => hb (h b z)]
  exact q
theorem wW (H : Hp) : hide [] H = H := by
 funext b
 exact bI (by simp)
theorem gW {a : Addr} {o : HO} (h : a ∈ A) : hide A (upd H a o) = hide A H := by
 funext b
 by_cases hb : b ∈ A
 ·rw [eG hb, eG hb]
 ·rw [bI hb, bI hb]
  exact aU fun z => hb (z ▸ h)
theorem dB {p : Addr} {o : HO} (h : H p = none) : aM H (upd H p o) := fun b u q => by
 rw [aU (aK q h)]; exact q
def Own (A : List Addr) (H : Hp) : Prop := ∀ a ∈ A, (H a).isSome = true
theorem Own.mono (h : Own A H) (s : aM H H') : Own A H' := fun a ha => by
 obtain ⟨o, e⟩ := Option.isSome_iff_exists.mp (h a ha)
 rw [s a o e]; rfl
theorem Own.free (h : Own A H) {p : Addr} (e : H p = none) : p ∉ A := fun z => by
 have q := h p z
 rw [e] at q; cases q
theorem gY {K : Frag}   {p : Addr}   (w : Own A H) (e : H p = none) (h : bA K (hide A H) ds vs) : Rep K (hide A (upd H p (.lst vs))) (.lst ds) (.ref p) :=
 bG.mpr ⟨p, vs, rfl, SqL.of (by rw [bI (w.free e)]; exact bY), h.mono (aM.hide (dB e))⟩
theorem mK {K : Frag}   {p : Addr}   (w : Own A H) (e : H p = none) (h : bA K (hide A H) ds vs) : Rep K (hide A (upd H p (.tup vs))) (.tup ds) (.ref p) :=
 qK.mpr ⟨p, vs, rfl, (by rw [bI (w.free e)]; exact bY), h.mono (aM.hide (dB e))⟩
def KOk (K : Frag) : OK -> Addr -> HO -> List V -> Prop
 | .l, _, o, vs => o = .lst vs
 | .d t ks, _, o, vs => (t = false /\ ∃ kvs : List (Key × V), o = .dK kvs /\ kvs.map (fun p => pL p.1) = ks /\ vs = kvs.map (·.2)) \/ (t = true /\ ∃ kvs : List (List Key × V), o = .dT kvs /\ kvs.map (fun p => D.tup (p.1.map pL)) = ks /\ vs = kvs.map (·.2))
 | .i n c ns, a, o, vs => a = n /\ ∃ C dx fs, o = .ins C dx fs /\ nsIn K mainGlobals (Str.ofString c) = some (some (.ref C)) /\ fs.map (·.1) = ns.map Str.ofString /\ vs = fs.map (·.2)
theorem KOk.rep {K : Frag}  {k : OK} {o : HO}   {a : Addr} (ko : KOk K k a o vs) (h : H a = some o) (r : bA K H ds vs) : Rep K H (ofK k ds) (.ref a) := by
 cases k with
 | l => have e : o = .lst vs := ko; subst e; exact bG.mpr ⟨a, vs, rfl, SqL.of h, r⟩
 | d t ks =>
  refine aAo.mpr ⟨a, vs, rfl, ?_, r⟩
  rcases ko with ⟨q0, kvs, rfl, q⟩ | ⟨q0, kvs, rfl, q⟩
  ·exact .inl ⟨q0, kvs, h, q⟩
  ·exact .inr ⟨q0, kvs, h, q⟩
 | i n c ns =>
  obtain ⟨_, C, dx, fs, rfl, q1, q2, q3⟩ := ko
  exact aEg.mpr ⟨a, C, dx, fs, vs, rfl, h, q1, q2, q3, r⟩
structure RS (K : Frag) (B A : List Addr) (H : Hp) (st : PSt) (σ : LSt) : Prop where
 len : st.length = σ.length
 own : Own (A ++ B) H
 dis : ∀ a ∈ A, a ∉ B
 val : ∀ (i : Nat) d, st[i]? = some (some (.v d)) -> ∃ v, σ[i]? = some (some v) /\ Rep K (hide (A ++ B) H) d v
 lst : ∀ (i : Nat) k xs, st[i]? = some (some (.o k xs)) -> ∃ a o vs, σ[i]? = some (some (.ref a)) /\ a ∈ A /\ H a = some o /\ KOk K k a o vs /\ bA K (hide (A ++ B) H) xs vs /\
  ∀ (j : Nat) k' ys, st[j]? = some (some (.o k' ys)) -> σ[j]? = some (some (.ref a)) -> j = i
theorem RS.mono {K : Frag} {B A : List Addr} {H H' : Hp} {st : PSt} {σ : LSt} (r : RS K B A H st σ) (s : aM H H') : RS K B A H' st σ where
 len := r.len
 own := r.own.mono s
 dis := r.dis
 val := fun i d e => let ⟨v, e1, q⟩ := r.val i d e; ⟨v, e1, q.mono (aM.hide s)⟩
 lst := fun i k xs e => let ⟨a, o, vs, e1, m, h, ko, q, u⟩ := r.lst i k xs e; ⟨a, o, vs, e1, m, s _ _ h, ko, q.mono (aM.hide s), u⟩
def Le (A : List Addr) (H : Hp) (A' : List Addr) (H' : Hp) : Prop := aM (hide A H) (hide A' H')
theorem Le.refl {A : List Addr} {H : Hp} : Le A H A H := aM.refl _
theorem Le.of (s : aM H H') : Le A H A H' := aM.hide s
theorem Le.trans {A A1 A2 : List Addr} {H H1 H2 : Hp} (a : Le A H A1 H1) (b : Le A1 H1 A2 H2) : Le A H A2 H2 := aM.trans a b
def tI (K : Frag) (B : List Addr) (f : Ex) : TE := fun σ H Q => ∃ A st d, RS K B A H st σ /\ f st = .ok d /\ ∀ v H', aM H H' -> Rep K (hide (A ++ B) H') d v -> Q v H'
def nG (K : Frag) (A : List Addr) (H : Hp) (d : D) (v : V) : Prop :=
 Rep K (hide A H) d v \/ ∃ a k o ds vs, d = ofK k ds /\ v = V.ref a /\ H a = some o /\ KOk K k a o vs /\ bA K (hide A H) ds vs
theorem nG.mono {K : Frag} {A : List Addr} {H H' : Hp} {d : D} {v : V} (s : aM H H') (h : nG K A H d v) : nG K A H' d v := by
 rcases h with h | ⟨a, k, o, ds, vs, e1, e2, e3, ko, q⟩
 ·exact .inl (h.mono (aM.hide s))
 ·exact .inr ⟨a, k, o, ds, vs, e1, e2, s _ _ e3, ko, q.mono (aM.hide s)⟩
def tP (K : Frag) (B : List Addr) (f : Ex) : TE := fun σ H Q => ∃ A st d, RS K B A H st σ /\ f st = .ok d /\ ∀ v H', aM H H' -> nG K (A ++ B) H' d v -> Q v H'
def tA (K : Frag) (B : List Addr) (f : Exs) : TA := fun σ H Q => ∃ A st ds, RS K B A H st σ /\ f st = .ok ds /\ ∀ vs H', aM H H' -> bA K (hide (A ++ B) H') ds vs -> Q vs H'
def tT (K : Frag) (B : List Addr) (f : Ex) : TT := fun σ H Q => ∃ A st b, RS K B A H st σ /\ f st = .ok (.bl b) /\ ∀ H', aM H H' -> Q b H'
def tO (K : Frag) (B : List Addr) (f : ExO) : TO := fun σ H Q => ∃ A st o, RS K B A H st σ /\ f st = .ok o /\ ∀ H', aM H H' -> Q o H'
def aBk (K : Frag) (B A : List Addr) (H : Hp) (r : Fl) (Dn : Ends) : Prop := match r with
 | .nx st' => ∀ A' σ' H', Le A H A' H' -> RS K B A' H' st' σ' -> Dn.nx σ' H'
 | .bk st' => ∀ A' σ' H', Le A H A' H' -> RS K B A' H' st' σ' -> Dn.bk σ' H'
 | .ct st' => ∀ A' σ' H', Le A H A' H' -> RS K B A' H' st' σ' -> Dn.ct σ' H'
 | .rt d => ∀ A' v H', Le A H A' H' -> Rep K (hide (A' ++ B) H') d v -> Dn.rt v H'
theorem aBk.mono {K : Frag}   {r : Fl}  (l : Le A H A1 H1) (p : aBk K B A H r Dn) : aBk K B A1 H1 r Dn := by
 cases r with
 | nx st => exact fun A' σ' H' l' => p A' σ' H' (l.trans l')
 | bk st => exact fun A' σ' H' l' => p A' σ' H' (l.trans l')
 | ct st => exact fun A' σ' H' l' => p A' σ' H' (l.trans l')
 | rt d => exact fun A' v H' l' => p A' v H' (l.trans l')
def tS (K : Frag) (B : List Addr) (b : Bd) : TS := fun Dn σ H => ∃ A st r, RS K B A H st σ /\ b st = .ok r /\ aBk K B A H r Dn
def aKv (K : Frag) (B A : List Addr) (H : Hp) (J : It) (ds : List D) : Prop := ∀ A' H', Le A H A' H' -> Own (A' ++ B) H' -> ∀ (i : Nat),
 (∀ d, ds[i]? = some d -> J.go i H' /\ ∀ x H3, J.yld i H' x H3 -> aM H' H3 /\ Rep K (hide (A' ++ B) H3) d x) /\ (ds.length <= i -> J.stop i H')
def tIt (K : Frag) (B : List Addr) (f : ItE) : TI := fun σ H R => ∃ A st ds, RS K B A H st σ /\ f st = .ok ds /\ ∀ J H', aM H H' -> aKv K B A H' J ds -> R J H'
def tG (K : Frag) (B : List Addr) (g : Tg) : TG := fun v σ H Q => ∃ A st d s1, RS K B A H st σ /\ Rep K (hide (A ++ B) H) d v /\ g d st = .ok s1 /\ ∀ σ', RS K B A H s1 σ' -> Q σ' H
section
theorem cW {t t' : TE} (h : PE X e t) (m : ∀ σ H Q, t' σ H Q -> t σ H Q) : PE X e t' := fun pins s σ H Q I q => h pins s σ H Q I (m σ H Q q)
theorem aHp {t t' : TT} (h : PT X e t) (m : ∀ σ H Q, t' σ H Q -> t σ H Q) : PT X e t' := fun pins s σ H Q I q => h pins s σ H Q I (m σ H Q q)
theorem aNe {t t' : TT} (h : PW X e t) (m : ∀ σ H Q, t' σ H Q -> t σ H Q) : PW X e t' := fun w pins s σ H Q I q => h w pins s σ H Q I (m σ H Q q)
theorem aEh {t t' : TA} (h : PA X es t) (m : ∀ σ H Q, t' σ H Q -> t σ H Q) : PA X es t' := fun pos pins s σ H Q I q => h pos pins s σ H Q I (m σ H Q q)
theorem aNf {e : Option Expr} {t t' : TO} (h : PO X e t) (m : ∀ σ H Q, t' σ H Q -> t σ H Q) : PO X e t' := fun pins s σ H Q I q => h pins s σ H Q I (m σ H Q q)
theorem fZ {st : Stmt} {t t' : TS} (h : PS X st t) (m : ∀ D σ H, t' D σ H -> t D σ H) : PS X st t' := fun pins s σ H D I q => h pins s σ H D I (m D σ H q)
theorem oU {st : List Stmt} {t t' : TS} (h : PSs X st t) (m : ∀ D σ H, t' D σ H -> t D σ H) : PSs X st t' := fun pins s σ H D I q => h pins s σ H D I (m D σ H q)
theorem aNg {t t' : TG} (h : PG X e t) (m : ∀ v σ H Q, t' v σ H Q -> t v σ H Q) : PG X e t' := fun pins s σ H v u Q I r q => h pins s σ H v u Q I r (m v σ H Q q)
theorem aHq {t t' : TI} (h : L2.PI X tg e t) (m : ∀ σ H R, t' σ H R -> t σ H R) : L2.PI X tg e t' := fun pins s σ H R I q => h pins s σ H R I (m σ H R q)
end
section
variable    {h : Ex} 
theorem aC (i : Nat)  (hN : X.N[i]? = some x := by rfl) (hv : Vis X.env.scope x := by first | exact Or.inl rfl | exact Or.inr (Or.inl rfl) | exact Or.inr (Or.inr rfl)) (hd : (x == ("__debug__" : Str)) = false := by decide)
  (hcd : (x == ("__classdict__" : Str)) = false := by decide) : PE X (.Name x pos) (tI X.K B (aD i)) := by
 refine cW (yC hN hv hd hcd) ?_
 rintro σ H Q ⟨A, st, d, rs, hd, q⟩
 unfold aD at hd
 split at hd
 ·rename_i d' e
  cases hd
  obtain ⟨v, e1, r⟩ := rs.val i _ e
  exact ⟨v, e1, q v H (aM.refl _) r⟩
 ·cases hd
end
end Pu
variable {σ τ : Pu.LSt}
namespace Pu
open PySem PySem.Spec PyProof.Rows L2
section
variable {X : Cx} {B : List Addr} {a b e : Expr} {f g : Ex} {pos : Pos}
theorem i_c (h : PE X e (tC v)) (r : ∀ H, Rep X.K H d v) : PE X e (tI X.K B (eC d)) := cW h (by
 rintro σ H Q ⟨A, st, d', rs, hd, q⟩
 cases hd
 exact q v H (aM.refl _) (r _))
theorem bB {i : Int}  : PE X (.Constant (.int i) j pos) (tI X.K B (eC (.int i))) := i_c aS6 fun _ => aW.mpr rfl
theorem rR : PE X (.Constant (.bool q) j pos) (tI X.K B (eC (.bl q))) := i_c aUt fun _ => bK.mpr rfl
theorem aWo : PE X (.Constant .none j pos) (tI X.K B (eC .non)) := i_c aS7 fun _ => bV.mpr rfl
theorem bZ (s : List Nat) (hx : x = ⟨s.toArray⟩ := by first | rfl | decide | decide +kernel) : PE X (.Constant (.str x) j pos) (tI X.K B (eC (.str s))) := i_c aS8 fun _ => aO.mpr (by rw [hx])
theorem aTd {y : Str} {t : Tok} (s : List Nat) (hm : X.mg x = some (.str y t)) (hg : Gl X x := by rfl) (hy : y = ⟨s.toArray⟩ := by first | rfl | decide | decide +kernel) (hd : (x == ("__debug__" : Str)) = false := by decide) : PE X (.Name x pos) (tI X.K B (eC (.str s))) :=
 i_c (aDv (v := .str y) hg hm ⟨t, rfl⟩ hd) fun _ => aO.mpr (by rw [hy])
theorem aHr {i : Int} {t : Tok} (hm : X.mg x = some (.int i t)) (hg : Gl X x := by rfl) (hd : (x == ("__debug__" : Str)) = false := by decide) : PE X (.Name x pos) (tI X.K B (eC (.int i))) :=
 i_c (aDv (v := .int i) hg hm ⟨t, rfl⟩ hd) fun _ => aW.mpr rfl
theorem toP (h : PE X e (tI X.K B f)) : PE X e (tP X.K B f) := cW h (by
 rintro σ H Q ⟨A, st, d, rs, hd, q⟩
 exact ⟨A, st, d, rs, hd, fun v H' s r => q v H' s (.inl r)⟩)
section
variable {K : Frag}   
theorem nG.int {i : Int} (h : nG K A H (.int i) v) : v = V.int i := by
 rcases h with h | ⟨_, k, _, _, _, e, _⟩
 ·exact aW.mp h
 ·cases k <;> cases e
theorem nG.str {s : List Nat} (h : nG K A H (.str s) v) : v = V.str ⟨s.toArray⟩ := by
 rcases h with h | ⟨_, k, _, _, _, e, _⟩
 ·exact aO.mp h
 ·cases k <;> cases e
theorem nG.tup {ds : List D} (h : nG K A H (.tup ds) v) : ∃ a vs, v = V.ref a /\ SqT K H a vs /\ bA K (hide A H) ds vs := by
 rcases h with h | ⟨_, k, _, _, _, e, _⟩
 ·obtain ⟨a, vs, e, q, r⟩ := bF h
  exact ⟨a, vs, e, sY (aY _ _) q, r⟩
 ·cases k <;> cases e
theorem nG.lst {ds : List D} (h : nG K A H (.lst ds) v) : ∃ a vs, v = V.ref a /\ SqL K H a vs /\ bA K (hide A H) ds vs := by
 rcases h with h | ⟨a, k, o, ds', vs, e, e2, h, ko, r⟩
 ·obtain ⟨a, vs, e, q, r⟩ := bG.mp h
  exact ⟨a, vs, e, (aY _ _).seq q, r⟩
 ·cases k <;> cases e
  have e3 : o = .lst vs := ko
  subst e3
  exact ⟨a, vs, e2, SqL.of h, r⟩
end
def zG (K : Frag) (r : R2) (o : Op2) : Prop := ∀ (A : List Addr) (H : Hp) (x y d : D) (v u : V) (Q : VK), Own A H -> nG K A H x v -> nG K A H y u -> o x y = .ok d ->
 (∀ w H', aM H H' -> Rep K (hide A H') d w -> Q w H') -> r v u H Q
theorem aEi {r : R2} {o : Op2} (sem : zG X.K r o)   {Q : VK} (h : tI X.K B (e2 o f g) σ H Q) : tOp r (tP X.K B f) (tP X.K B g) σ H Q := by
 obtain ⟨A, st, d, rs, hd, q⟩ := h
 obtain ⟨x, hx, h2⟩ := R.ok_of hd
 obtain ⟨y, hy, h3⟩ := R.ok_of h2
 refine ⟨A, st, x, rs, hx, fun v H1 s1 r1 => ⟨A, st, y, rs.mono s1, hy, fun u H2 s2 r2 => ?_⟩⟩
 exact sem (A ++ B) H2 x y d v u Q (rs.own.mono (s1.trans s2)) (r1.mono s2) r2 h3 fun w H' s' r' => q w H' (s1.trans (s2.trans s')) r'
theorem aHs {op : Operator} {r : R2} {o : Op2} (ho : OpR X (binaryOp op) r) (sem : zG X.K r o) (ha : PE X a (tP X.K B f)) (hb : PE X b (tP X.K B g)) : PE X (.BinOp a op b pos) (tI X.K B (e2 o f g)) :=
 cW (aRe ho ha hb) fun _ _ _ h => aEi sem h
theorem rB {r : R2} {o : Op2} (ho : OpR X (compareOp op) r) (sem : zG X.K r o) (ha : PE X a (tP X.K B f)) (hb : PE X b (tP X.K B g)) (hm : behindInMarks op b = false) : PE X (.Compare a [op] [b] pos) (tI X.K B (e2 o f g)) :=
 cW (aP9 ho ha hb hm) fun _ _ _ h => aEi sem h
theorem aWp {f : Ex}   {Q : Bool -> Hp -> Prop} (h : tT X.K B f σ H Q) : tI X.K B f σ H fun x H' => ∃ k, x = .bl k /\ Q k H' := by
 obtain ⟨A, st, k, rs, hk, q⟩ := h
 exact ⟨A, st, .bl k, rs, hk, fun v H' s r => ⟨k, bK.mp r, q H' s⟩⟩
theorem fO {r : R2} {o : Op2} (ho : OpR X (compareOp op) r) (sem : zG X.K r o) (ha : PE X a (tP X.K B f)) (hb : PE X b (tP X.K B g)) (hm : behindInMarks op b = false) : PT X (.Compare a [op] [b] pos) (tT X.K B (e2 o f g)) :=
 aHp (aPa ho ha hb hm) fun _ _ _ h => aEi sem (aWp h)
theorem vN {f : Ex} (h : PE X e (tI X.K B f)) (he : ∀ whole, isTrue e X.env whole = (do let v <- whole; standAt e.pos; holding [v] (truthy v)) := by intro _; rfl) : PT X e (tT X.K B f) :=
 aHp (aS9 h he) fun _ _ _ q => aWp q
theorem wX {K : Frag} {g : Int -> Int -> D}  {o : Op2} (hr : ∀ H i j, Rep K H (g i j) (gv i j)) (ho : ∀ x y d, o x y = .ok d -> ∃ i j, x = .int i /\ y = .int j /\ d = g i j) : zG K (rI0 gv) o := by
 intro A H x y d v u Q w rx ry e q
 obtain ⟨i, j, rfl, rfl, rfl⟩ := ho x y d e
 exact ⟨i, j, rx.int, ry.int, q _ H (aM.refl _) (hr _ _ _)⟩
theorem aHt {K : Frag} {C : Int -> Int -> Prop} {g : Int -> Int -> D}  {o : Op2} (hr : ∀ H i j, Rep K H (g i j) (gv i j)) (ho : ∀ x y d, o x y = .ok d -> ∃ i j, x = .int i /\ y = .int j /\ C i j /\ d = g i j) : zG K (rI C gv) o := by
 intro A H x y d v u Q w rx ry e q
 obtain ⟨i, j, rfl, rfl, c, rfl⟩ := ho x y d e
 exact ⟨i, j, rx.int, ry.int, c, q _ H (aM.refl _) (hr _ _ _)⟩
theorem aNh (ha : PE X a (tP X.K B f)) (hb : PE X b (tP X.K B g)) : PE X (.BinOp a .Sub b pos) (tI X.K B (e2 aAx f g)) :=
 aHs aSl (wX (g := fun i j => .int (i - j)) (fun _ _ _ => aW.mpr rfl) fun x y d e => by
  unfold aAx at e
  split at e
  ·cases e; exact ⟨_, _, rfl, rfl, rfl⟩
  ·cases e) ha hb
theorem aTe (ha : PE X a (tP X.K B f)) (hb : PE X b (tP X.K B g)) : PE X (.BinOp a .FloorDiv b pos) (tI X.K B (e2 aIh f g)) :=
 aHs aP8 (aHt (g := fun i j => .int (i / j)) (fun _ _ _ => aW.mpr rfl) fun x y d e => by
  unfold aIh at e
  split at e
  ·obtain ⟨c, e⟩ := aJ e; cases e; exact ⟨_, _, rfl, rfl, c, rfl⟩
  ·cases e) ha hb
theorem uY (ha : PE X a (tP X.K B f)) (hb : PE X b (tP X.K B g)) : PE X (.BinOp a .Mod b pos) (tI X.K B (e2 vA f g)) :=
 aHs aSm (aHt (g := fun i j => .int (i % j)) (fun _ _ _ => aW.mpr rfl) fun x y d e => by
  unfold vA at e
  split at e
  ·obtain ⟨c, e⟩ := aJ e; cases e; exact ⟨_, _, rfl, rfl, c, rfl⟩
  ·cases e) ha hb
theorem aWq (ha : PE X a (tP X.K B f)) (hb : PE X b (tP X.K B g)) : PE X (.BinOp a .Pow b pos) (tI X.K B (e2 aK4 f g)) :=
 aHs aSn (aHt (g := fun i j => .int (i ^ j.toNat)) (fun _ _ _ => aW.mpr rfl) fun x y d e => by
  unfold aK4 at e
  split at e
  ·obtain ⟨c, e⟩ := aJ e; cases e; exact ⟨_, _, rfl, rfl, c, rfl⟩
  ·cases e) ha hb
def aWr (K : Frag) : R2 := fun x y H Q => ∃ l b xs zs, x = .ref l /\ y = .ref b /\ SqL K H l xs /\ SqL K H b zs /\ xs.length + zs.length <= sizeLine /\ ∀ p, H p = none -> Q (.ref p) (upd H p (.lst (xs ++ zs)))
theorem aQa : OpR X (binaryOp .Add) (aWr X.K) := by
 intro pins s σ H x y v u Q I rx ry h
 obtain ⟨l, b, xs, zs, rfl, rfl, hH, hB, hz, q⟩ := h
 cases rx
 cases ry
 obtain ⟨its, r, ⟨⟨cls, dd, data, sl⟩, n, ho, hc, _, hd⟩, z⟩ := I.list hH
 obtain ⟨its2, r2, ⟨⟨cls2, dd2, data2, sl2⟩, n2, ho2, hc2, _, hd2⟩, z2⟩ := I.list hB
 simp only at hc hd hc2 hd2
 subst hc hd hc2 hd2
 have l1 := r.length
 have l2 := r2.length
 refine concat_meets ⟨_, ho, rfl⟩ ⟨_, ho2, rfl⟩ noFill_list_add seq_list_add PySem.F.slot_list_add PySem.F.entry_list_add (PySem.F.args_list_add_2 _ _) (list_addW l b its.toArray its2.toArray n n2 dd dd2 sl sl2 (by simp only [List.size_toArray]; omega)) ⟨ho, ho2, ?_⟩
 have ea : its.toArray ++ its2.toArray = (its ++ its2).toArray := by simp
 rw [ea]
 exact ⟨.ref _, _, I.lnew (t' := s.toks) (r.append r2) (by rw [length_append]; omega), rfl, q _ I.fresh⟩
theorem aEj (x y : List Nat) : (⟨x.toArray⟩ : Str) ++ (⟨y.toArray⟩ : Str) = ⟨(x ++ y).toArray⟩ := by
 show Str.append _ _ = _
 unfold Str.append
 simp
theorem str_len (x : List Nat) : (⟨x.toArray⟩ : Str).length = x.length := by simp [Str.length]
theorem lim (h : n <= big) : n <= sizeLine := Nat.le_trans (by rw [jO] at h; exact h : n <= 10000000) (by decide)
theorem cC (ha : PE X a (tP X.K B f)) (hb : PE X b (tP X.K B g)) : PE X (.BinOp a .Add b pos) (tI X.K B (e2 cN f g)) := by
 refine aHs (aSk.or (aGy.or aQa)) ?_ ha hb
 intro A H x y d v u Q w rx ry e q
 cases x <;> cases y <;> first | (cases e; done) | skip
 ·cases e
  exact .inl ⟨_, _, rx.int, ry.int, q _ H (aM.refl _) (aW.mpr rfl)⟩
 ·obtain ⟨c, e⟩ := aJ e
  cases e
  exact .inr (.inl ⟨_, _, rx.str, ry.str, by rw [str_len, str_len]; exact lim c, q _ H (aM.refl _) (aO.mpr (by rw [aEj]))⟩)
 ·obtain ⟨c, e⟩ := aJ e
  cases e
  obtain ⟨l, xs, e1, h1, r1⟩ := rx.lst
  obtain ⟨m, ys, e2, h2, r2⟩ := ry.lst
  have l1 := r1.length
  have l2 := r2.length
  refine .inr (.inr ⟨l, m, xs, ys, e1, e2, h1, h2, by rw [l1, l2]; exact lim c, fun p hp => q _ _ (dB hp) ?_⟩)
  exact gY w hp (r1.append r2)
theorem aTf {K : Frag} : zG K (rI0 fun i j => .bl (decide (i <= j))) dLe := wX (g := fun i j => .bl (decide (i <= j))) (fun _ _ _ => bK.mpr rfl) fun x y d e => by
 unfold dLe at e
 split at e
 ·cases e; exact ⟨_, _, rfl, rfl, rfl⟩
 ·cases e
theorem aHu {K : Frag} : zG K (rI0 fun i j => .bl (decide (j < i))) dGt := wX (g := fun i j => .bl (decide (j < i))) (fun _ _ _ => bK.mpr rfl) fun x y d e => by
 unfold dGt at e
 split at e
 ·cases e; exact ⟨_, _, rfl, rfl, rfl⟩
 ·cases e
theorem aHv {K : Frag} : zG K (rI0 fun i j => .bl (decide (j <= i))) dGe := wX (g := fun i j => .bl (decide (j <= i))) (fun _ _ _ => bK.mpr rfl) fun x y d e => by
 unfold dGe at e
 split at e
 ·cases e; exact ⟨_, _, rfl, rfl, rfl⟩
 ·cases e
theorem aFz (n : Nat) (i : Int) : L2.ixN n i = Pu.ixN n i := rfl
theorem bA.atI {K : Frag} {H : Hp} {ds : List D} {vs : List V} {i : Int} {d : D} (r : bA K H ds vs) (e : Pu.atI ds i = some d) : ∃ v, L2.atI vs i = some v /\ Rep K H d v := by
 unfold Pu.atI at e
 unfold L2.atI
 rw [r.length, aFz]
 cases h : Pu.ixN ds.length i with
 | none => rw [h] at e; cases e
 | some j =>
  rw [h] at e
  exact r.get e
theorem sZ {o : Option α} {a : α} (h : ofO o = .ok a) : o = some a := by
 cases o with
 | none => cases h
 | some b => cases h; rfl
theorem aTg {K : Frag} {x : D} (hd : aVh x = false) (A : List Addr) (H : Hp) (x' y d : D) (v u : V) (Q : VK) (w : Own A H) (rx : nG K A H x v) (ry : nG K A H y u) (e : dIx x y = .ok d) (q : ∀ w H', aM H H' -> Rep K (hide A H') d w -> Q w H') : rIx K v u H Q := by
 cases x <;> first | (cases hd; done) | skip
 all_goals cases y
 all_goals first | (cases e; done) | skip
 ·rename_i s i
  obtain ⟨hz, e⟩ := aJ e
  have e := sZ e
  cases h : Pu.atI s i with
  | none => rw [h] at e; cases e
  | some c =>
   rw [h] at e
   cases e
   refine .inr (.inr ⟨_, i, c, rx.str, ry.int, by rw [str_len]; exact lim hz, ?_, q _ H (aM.refl _) (aO.mpr rfl)⟩)
   show L2.atI s.toArray.toList i = some c
   rw [List.toList_toArray]
   exact h
 ·rename_i ds i
  have h := sZ (show ofO (Pu.atI ds i) = .ok d from e)
  obtain ⟨l, xs, e1, h1, r1⟩ := rx.tup
  obtain ⟨z, h2, r2⟩ := r1.atI h
  exact .inr (.inl ⟨l, xs, i, z, e1, ry.int, h1, h2, q _ H (aM.refl _) r2⟩)
 ·rename_i ds i
  have h := sZ (show ofO (Pu.atI ds i) = .ok d from e)
  obtain ⟨l, xs, e1, h1, r1⟩ := rx.lst
  obtain ⟨z, h2, r2⟩ := r1.atI h
  exact .inl ⟨l, xs, i, z, e1, ry.int, h1, h2, q _ H (aM.refl _) r2⟩
theorem zH (h : PE X a (tI X.K B f)) : PE X (.BoolOp .And [a] pos) (tI X.K B f) := aLr h
theorem aWs (h : PE X a (tI X.K B f)) : PE X (.BoolOp .Or [a] pos) (tI X.K B f) := aLr h
theorem aA6 {rest : List Expr} (ha : PE X a (tI X.K B f)) (hb : PE X (.BoolOp .And (b :: rest) pos) (tI X.K B g)) : PE X (.BoolOp .And (a :: b :: rest) pos) (tI X.K B (vC f g)) := by
 refine cW (aSd ha hb) ?_
 rintro σ H Q ⟨A, st, d, rs, hd, q⟩
 obtain ⟨x, hx, h2⟩ := R.ok_of hd
 obtain ⟨k, rfl, h3⟩ := qQ h2
 refine ⟨A, st, _, rs, hx, fun v H1 s1 r1 => ⟨k, bK.mp r1, ?_⟩⟩
 cases k with
 | true => exact ⟨A, st, d, rs.mono s1, h3, fun w H' s' r' => q w H' (s1.trans s') r'⟩
 | false => cases h3; exact q _ H1 s1 (bK.mpr rfl)
theorem aZ5 {rest : List Expr} (ha : PE X a (tI X.K B f)) (hb : PE X (.BoolOp .Or (b :: rest) pos) (tI X.K B g)) : PE X (.BoolOp .Or (a :: b :: rest) pos) (tI X.K B (eOr f g)) := by
 refine cW (aUx ha hb) ?_
 rintro σ H Q ⟨A, st, d, rs, hd, q⟩
 obtain ⟨x, hx, h2⟩ := R.ok_of hd
 obtain ⟨k, rfl, h3⟩ := qQ h2
 refine ⟨A, st, _, rs, hx, fun v H1 s1 r1 => ⟨k, bK.mp r1, ?_⟩⟩
 cases k with
 | true => cases h3; exact q _ H1 s1 (bK.mpr rfl)
 | false => exact ⟨A, st, d, rs.mono s1, h3, fun w H' s' r' => q w H' (s1.trans s') r'⟩
theorem aRt (ha : PE X a (tI X.K B f)) : PE X (.UnaryOp .Not a pos) (tI X.K B (wB f)) := by
 refine cW (aSe ha) ?_
 rintro σ H Q ⟨A, st, d, rs, hd, q⟩
 obtain ⟨x, hx, h2⟩ := R.ok_of hd
 obtain ⟨k, rfl, h3⟩ := qQ h2
 cases h3
 exact ⟨A, st, _, rs, hx, fun v H1 s1 r1 => ⟨k, bK.mp r1, q _ H1 s1 (bK.mpr rfl)⟩⟩
theorem aTh (h : PT X a (tT X.K B f)) : PW X (.BoolOp .And [a] pos) (tT X.K B f) := aP5 h
theorem aNi (h : PT X a (tT X.K B f)) : PW X (.BoolOp .Or [a] pos) (tT X.K B f) := aSa h
theorem aWt {rest : List Expr} (ha : PT X a (tT X.K B f)) (hb : PW X (.BoolOp .And (b :: rest) pos) (tT X.K B g)) : PW X (.BoolOp .And (a :: b :: rest) pos) (tT X.K B (vC f g)) := by
 refine aNe (aSb ha hb) ?_
 rintro σ H Q ⟨A, st, d, rs, hd, q⟩
 obtain ⟨x, hx, h2⟩ := R.ok_of hd
 obtain ⟨k, rfl, h3⟩ := qQ h2
 refine ⟨A, st, k, rs, hx, fun H1 s1 => ?_⟩
 cases k with
 | true => exact ⟨A, st, d, rs.mono s1, h3, fun H' s' => q H' (s1.trans s')⟩
 | false => cases h3; exact q H1 s1
theorem aQb {rest : List Expr} (ha : PT X a (tT X.K B f)) (hb : PW X (.BoolOp .Or (b :: rest) pos) (tT X.K B g)) : PW X (.BoolOp .Or (a :: b :: rest) pos) (tT X.K B (eOr f g)) := by
 refine aNe (aUu ha hb) ?_
 rintro σ H Q ⟨A, st, d, rs, hd, q⟩
 obtain ⟨x, hx, h2⟩ := R.ok_of hd
 obtain ⟨k, rfl, h3⟩ := qQ h2
 refine ⟨A, st, k, rs, hx, fun H1 s1 => ?_⟩
 cases k with
 | true => cases h3; exact q H1 s1
 | false => exact ⟨A, st, d, rs.mono s1, h3, fun H' s' => q H' (s1.trans s')⟩
theorem aBl (ha : PT X a (tT X.K B f)) : PT X (.UnaryOp .Not a pos) (tT X.K B (wB f)) := by
 refine aHp (aSc ha) ?_
 rintro σ H Q ⟨A, st, d, rs, hd, q⟩
 obtain ⟨x, hx, h2⟩ := R.ok_of hd
 obtain ⟨k, rfl, h3⟩ := qQ h2
 cases h3
 exact ⟨A, st, k, rs, hx, fun H1 s1 => q H1 s1⟩
theorem aP : PA X [] (tA X.K B aV) := aEh gG (by
 rintro σ H Q ⟨A, st, d, rs, hd, q⟩
 cases hd
 exact q [] H (aM.refl _) .nil)
theorem aA (ha : PE X e (tI X.K B f)) (hr : PA X es (tA X.K B r)) (hs : starEach (e :: es) X.env = (false, eval e X.env) :: starEach es X.env := by rfl) : PA X (e :: es) (tA X.K B (aB f r)) := by
 refine aEh (dC ha hr hs) ?_
 rintro σ H Q ⟨A, st, ds, rs, hd, q⟩
 obtain ⟨x, hx, h2⟩ := R.ok_of hd
 obtain ⟨xs, hxs, h3⟩ := R.ok_of h2
 cases h3
 refine ⟨A, st, x, rs, hx, fun v H1 s1 r1 => ⟨A, st, xs, rs.mono s1, hxs, fun vs H2 s2 r2 => ?_⟩⟩
 exact q _ H2 (s1.trans s2) (.cons (r1.mono (aM.hide s2)) r2)
theorem aWu (h : PA X es (tA X.K B r)) : PE X (.Tuple es x1 pos) (tI X.K B (aF8 r)) := by
 refine cW (aLy h) ?_
 rintro σ H Q ⟨A, st, d, rs, hd, q⟩
 obtain ⟨xs, hx, h2⟩ := R.ok_of hd
 obtain ⟨c, h3⟩ := aJ h2
 cases h3
 refine ⟨A, st, xs, rs, hx, fun vs H1 s1 r1 => ⟨by rw [r1.length]; exact lim c, fun p hp => q _ _ (s1.trans (dB hp)) ?_⟩⟩
 exact mK (rs.own.mono s1) hp r1
theorem iZ (h : PA X es (tA X.K B r)) : PE X (.List es pos) (tI X.K B (jC r)) := by
 refine cW (aH3 h) ?_
 rintro σ H Q ⟨A, st, d, rs, hd, q⟩
 obtain ⟨xs, hx, h2⟩ := R.ok_of hd
 obtain ⟨c, h3⟩ := aJ h2
 cases h3
 refine ⟨A, st, xs, rs, hx, fun vs H1 s1 r1 => ⟨by rw [r1.length]; exact lim c, fun p hp => q _ _ (s1.trans (dB hp)) ?_⟩⟩
 exact gY (rs.own.mono s1) hp r1
def spI (K : Frag) (np : Nat) (p : List D -> R D) : Sp := fun vs H Q _ => ∃ A ds d, Own A H /\ bA K (hide A H) ds vs /\ ds.length = np /\ p ds = .ok d /\ ∀ v H', aM H H' -> Rep K (hide A H') d v -> Q v H'
theorem aTi {k : Nat}          (F : FnOk X.prog X.w X.K X.mg X.base CX0 k fa fd ps (spI X.K np p)) (hr : Room k X.A) (hm : X.mg x = some (.ref fa))
  (hk : keepIn X.K (.ref fa) = true) (hb : Binds X.K fd ps []) (hl : ∀ ds d, p ds = .ok d -> ds.length = np) (ha : PA X (e :: es) (tA X.K B r)) (hg : Gl X x := by rfl) (hdb : (x == ("__debug__" : Str)) = false := by decide)
  (he : starEach (e :: es) X.env = (false, eval e X.env) :: starEach es X.env := by rfl) (hpl : (backTo pos (starEach es X.env)).any (·.1) = false := by rfl) :
  PE X (.Call (.Name x p0) (e :: es) [] pos) (tI X.K B (bM p r)) := by
 refine cW (aPe F hr hg hm hk hb .nil aRg ha hdb he hpl) ?_
 rintro σ H Q ⟨A, st, d, rs, hd, q⟩
 obtain ⟨xs, hx, h2⟩ := R.ok_of hd
 refine ⟨A, st, xs, rs, hx, fun vs H1 s1 r1 => ?_⟩
 show spI X.K np p (vs ++ []) H1 Q E0
 rw [append_nil]
 exact ⟨A ++ B, xs, d, rs.own.mono s1, r1, hl _ _ h2, h2, fun w H' s' r' => q w H' (s1.trans s') r'⟩
end
end Pu
namespace Pu
open PySem PySem.Spec PyProof.Rows L2
theorem aJ3 (a b : Key) : eqK (pL a) (pL b) = decide (a = b) := by
 cases a with
 | inl i =>
  cases b with
  | inl j => unfold pL eqK; rw [aLm]
  | inr y => unfold pL eqK; rw [aLo]
 | inr x =>
  cases b with
  | inl j => unfold pL eqK; rw [aLp]
  | inr y =>
   unfold pL eqK
   rw [aLn, Bool.eq_iff_iff, beq_iff_eq, decide_eq_true_eq]
   constructor
   ·intro h
    cases x; cases y
    congr 1
    exact ext' h
   ·rintro rfl; rfl
theorem aG0 : ∀ (a b : List Key), aH7 (a.map pL) (b.map pL) = decide (a = b)
 | [], [] => by unfold aH7; simp
 | [], _ :: _ => by unfold aH7; simp
 | _ :: _, [] => by unfold aH7; simp
 | x :: a, y :: b => by
  have ih := aG0 a b
  rw [map_cons, map_cons]
  unfold aH7
  rw [aJ3, ih, Bool.eq_iff_iff, and_eq_true, decide_eq_true_eq, decide_eq_true_eq, decide_eq_true_eq, List.cons.injEq]
theorem aNj (a b : List Key) : eqK (.tup (a.map pL)) (.tup (b.map pL)) = decide (a = b) := by
 rw [<- aG0]
 conv => lhs; unfold eqK
section
variable {κ : Type} [DecidableEq κ] {E : κ -> D} (hE : ∀ a b, eqK (E a) (E b) = decide (a = b)) {K : Frag} {H : Hp}
include hE
theorem aEk (k : κ) : ∀ (kvs : List (κ × V)) (ds : List D), bA K H ds (kvs.map (·.2)) -> (∀ d, aH8 (kvs.map fun p => E p.1) ds (E k) = some d -> ∃ v, yH kvs k = some v /\ Rep K H d v) /\ (yH kvs k).isSome = aPm (kvs.map fun p => E p.1) (E k)
 | [], ds, r => ⟨fun d h => by cases ds <;> simp [aH8] at h, rfl⟩
 | (a, v) :: kvs, ds, r => by
  cases ds with
  | nil => have := dM.mp r; simp at this
  | cons d ds =>
   obtain ⟨v', r', e, h1, h2⟩ := cF.mp r
   rw [map_cons] at e
   injection e with e1 e2
   subst e1 e2
   obtain ⟨i1, i2⟩ := aEk k kvs ds h2
   by_cases ha : a = k
   ·have hk : eqK (E a) (E k) = true := by rw [hE, decide_eq_true_eq]; exact ha
    refine ⟨fun d' h => ?_, ?_⟩
    ·unfold aH8 at h
     rw [map_cons, List.zip_cons_cons, List.find?_cons_of_pos (by simpa using hk)] at h
     cases h
     exact ⟨v, vY ha, h1⟩
    ·rw [vY ha]
     unfold aPm
     rw [map_cons, List.any_cons, hk]
     rfl
   ·have hk : eqK (E a) (E k) = false := by rw [hE, decide_eq_false_iff_not]; exact ha
    refine ⟨fun d' h => ?_, ?_⟩
    ·rw [vZ ha]
     refine i1 d' ?_
     unfold aH8 at h ⊢
     rw [map_cons, List.zip_cons_cons, List.find?_cons_of_neg (by simpa using hk)] at h
     exact h
    ·rw [vZ ha, i2]
     unfold aPm
     rw [map_cons, List.any_cons, hk]
     rfl
end
theorem aBm {K : Frag}    (r : Rep K H d v) (h : keyOk false d = true) : ∃ k : Key, d = pL k /\ v = kV k := by
 cases d <;> first | (cases h; done) | skip
 ·exact ⟨.inl _, rfl, aW.mp r⟩
 ·exact ⟨.inr _, rfl, aO.mp r⟩
theorem wY {K : Frag} {H : Hp} : ∀ {ds : List D} {vs : List V}, bA K H ds vs -> ds.all aSv = true -> ∃ ks : List Key, ds = ks.map pL /\ vs = ks.map kV
 | [], vs, r, _ => ⟨[], rfl, dM.mp r⟩
 | d :: ds, vs, r, h => by
  obtain ⟨v, r', rfl, h1, h2⟩ := cF.mp r
  rw [all_cons, and_eq_true] at h
  obtain ⟨ks, e1, e2⟩ := wY h2 h.2
  obtain ⟨k, e3, e4⟩ := aBm h1 (by cases d <;> first | (cases h.1; done) | rfl)
  exact ⟨k :: ks, by rw [e1, e3]; rfl, by rw [e2, e4]; rfl⟩
theorem aG1 {K : Frag}    (r : Rep K H d v) (h : keyOk true d = true) : ∃ (ks : List Key) (b : Addr), d = .tup (ks.map pL) /\ v = .ref b /\ H b = some (.tup (ks.map kV)) := by
 cases d <;> first | (cases h; done) | skip
 rename_i xs
 obtain ⟨b, vs, e, hb, rs⟩ := qK.mp r
 have h' : xs.all aSv = true := by
  unfold keyOk at h
  simpa using h
 obtain ⟨ks, e1, e2⟩ := wY rs h'
 exact ⟨ks, b, by rw [e1], e, by rw [<- e2]; exact hb⟩
theorem aQc {K : Frag}   {t : Bool} {ks : List D} {k : D} {u : V} (rx : nG K A H (.dct t ks ds) v) (ry : Rep K H k u) (hk : keyOk t k = true) :
  ∃ a o, v = .ref a /\ aCg H a u o /\ o.isSome = aPm ks k /\ ∀ d, aH8 ks ds k = some d -> ∃ w, o = some w /\ Rep K (hide A H) d w := by
 have key : ∃ a vs, v = V.ref a /\ ((t = false /\ ∃ kvs : List (Key × V), H a = some (.dK kvs) /\ kvs.map (fun p => pL p.1) = ks /\ vs = kvs.map (·.2)) \/ (t = true /\ ∃ kvs : List (List Key × V), H a = some (.dT kvs) /\ kvs.map (fun p => D.tup (p.1.map pL)) = ks /\ vs = kvs.map (·.2))) /\ bA K (hide A H) ds vs := by
  rcases rx with h | ⟨a, kk, o, ds', vs, e, e2, h, ko, r⟩
  ·obtain ⟨a, vs, e, q, r⟩ := aAo.mp h
   refine ⟨a, vs, e, ?_, r⟩
   rcases q with ⟨q0, kvs, q1, q2⟩ | ⟨q0, kvs, q1, q2⟩
   ·exact .inl ⟨q0, kvs, aY _ _ _ _ q1, q2⟩
   ·exact .inr ⟨q0, kvs, aY _ _ _ _ q1, q2⟩
  ·cases kk <;> cases e
   refine ⟨a, vs, e2, ?_, r⟩
   rcases ko with ⟨q0, kvs, q1, q2⟩ | ⟨q0, kvs, q1, q2⟩
   ·subst q1; exact .inl ⟨q0, kvs, h, q2⟩
   ·subst q1; exact .inr ⟨q0, kvs, h, q2⟩
 obtain ⟨a, vs, e, q, r⟩ := key
 rcases q with ⟨rfl, kvs, q1, rfl, rfl⟩ | ⟨rfl, kvs, q1, rfl, rfl⟩
 ·obtain ⟨k', e1, e2⟩ := aBm ry hk
  subst e1 e2
  obtain ⟨i1, i2⟩ := aEk aJ3 k' kvs ds r
  exact ⟨a, _, e, aCg.k q1, i2, fun d hd => let ⟨w, h1, h2⟩ := i1 d hd; ⟨w, h1, h2⟩⟩
 ·obtain ⟨k', b, e1, e2, e3⟩ := aG1 ry hk
  subst e1 e2
  obtain ⟨i1, i2⟩ := aEk aNj k' kvs ds r
  exact ⟨a, _, e, aCg.t q1 e3, i2, fun d hd => let ⟨w, h1, h2⟩ := i1 d hd; ⟨w, h1, h2⟩⟩
section
variable {X : Cx} {B : List Addr} {a b e : Expr} {f g : Ex} {pos : Pos}
def aWv : R2 := fun x y H Q => ∃ p v, x = .ref p /\ aCg H p y (some v) /\ Q v H
theorem aQd (hu : X.A.units + 64 < cLine) : IxR X aWv := by
 intro value slice pins s σ H x y v u Q I rx ry h hs
 obtain ⟨p, z, rfl, g, q⟩ := h
 cases rx
 have hT := aF7 I g
 unfold subscriptTail
 refine wpAny_bind ?_
 rw [getitemInPython_of_ne hT.not_modules]
 refine wpAny_bind (wpAny_specialOf hT PySem.F.slot_dict_getitem.lookup ?_)
 have h2 : wpAny (model X.prog X.w) X.A (getItem (.ref p) u) (EP X pins σ Q) X.xe s := aK3 (by omega) I g ry fun w' s3 I3 rw' => ⟨z, H, I3, rw', q⟩
 have fin : wpAny (model X.prog X.w) X.A (subscripted slice false (.ref p) u) (fun r s3 => wpAny (model X.prog X.w) X.A (letTemporaryGo value (.ref p) r >>= fun _ => pure r) (EP X pins σ Q) X.xe s3) X.xe s := by
  rw [hs]
  exact wpAny_operating (wpAny_mono h2 (fun r s3 h3 => wpAny_bind (wpAny_letTemporaryGo (wpAny_pure h3))) fun _ _ x => x)
 first
  | exact wpAny_pure (wpAny_bind fin)
  | exact wpAny_bind (wpAny_pure (wpAny_bind fin))
  | exact wpAny_bind fin
theorem aQe {K : Frag} : zG K (fun x y H Q => rIx K x y H Q \/ aWv x y H Q) dIx := by
 intro A H x y d v u Q w rx ry e q
 by_cases hx : aVh x = true
 ·cases x <;> first | (cases hx; done) | skip
  rename_i t ks vs
  have e' : aH (keyOk t y = true) (ofO (aH8 ks vs y)) = .ok d := by cases y <;> exact e
  obtain ⟨hk, e2⟩ := aJ e'
  have ryr : Rep K H y u := by
   rcases ry with h | ⟨a, kk, o, ds, vs', e1, _⟩
   ·exact h.mono (aY _ _)
   ·subst e1; cases kk <;> cases t <;> cases hk
  obtain ⟨a, o, e3, g, _, g2⟩ := aQc rx ryr hk
  obtain ⟨z, e4, rz⟩ := g2 d (sZ e2)
  subst e4
  exact .inr ⟨a, z, e3, g, q _ H (aM.refl _) rz⟩
 ·exact .inl (aTg (by simpa using hx) A H x y d v u Q w rx ry e q)
theorem nW (hu : X.A.units + 64 < cLine) (ha : PE X a (tP X.K B f)) (hb : PE X b (tP X.K B g)) (hs : aAh b := by intro _ _; rfl) : PE X (.Subscript a b pos) (tI X.K B (e2 dIx f g)) :=
 cW (aM1 (aH4.or (aQd hu)) ha hb hs) fun _ _ _ h => aEi aQe h
theorem aKw : mC X (.builtin "len") (fun xs H Q => ∃ a kvs, xs = [V.ref a] /\ H a = some (.dK kvs) /\ Q (.int kvs.length) H) := by
 intro pins s σ H xs us Q I r h
 obtain ⟨a, kvs, rfl, hk, q⟩ := h
 obtain ⟨u, rfl, ru⟩ := r.one
 obtain rfl : u = Value.ref a := ru
 exact aVg I (.inl hk) fun t s' I' => ⟨.int kvs.length, H, I', ⟨t, rfl⟩, q⟩
theorem aQf {K : Frag}   {ks : List D}  (rx : nG K A H (.dct false ks ds) v) : ∃ a kvs, v = .ref a /\ H a = some (.dK kvs) /\ kvs.length = ks.length := by
 rcases rx with h | ⟨a, kk, o, ds', vs, e, e2, h, ko, r⟩
 ·obtain ⟨a, vs, e, q, r⟩ := aAo.mp h
  rcases q with ⟨_, kvs, q1, rfl, _⟩ | ⟨q0, _⟩
  ·exact ⟨a, kvs, e, aY _ _ _ _ q1, by simp⟩
  ·cases q0
 ·cases kk <;> cases e
  rcases ko with ⟨_, kvs, rfl, rfl, _⟩ | ⟨q0, _⟩
  ·exact ⟨a, kvs, e2, h, by simp⟩
  ·cases q0
end
end Pu
namespace Pu
open PySem PySem.Spec PyProof.Rows L2
section
variable {K : Frag}   {st : PSt} 
theorem uH {k : OK}  (h : (st.set i (some (.v d)))[j]? = some (some (.o k xs))) : j ≠ i /\ st[j]? = some (some (.o k xs)) := by
 rw [List.getElem?_set] at h
 by_cases e : i = j
 ·subst e
  rw [if_pos rfl] at h
  split at h <;> simp at h
 ·rw [if_neg e] at h
  exact ⟨fun z => e z.symm, h⟩
theorem Le.app (l : Le A H A' H') : aM (hide (A ++ B) H) (hide (A' ++ B) H') := fun b u q => by
 have q1 := aY _ _ _ _ q
 have hb : b ∉ A ++ B := fun z => by rw [eG z] at q; cases q
 have q2 : hide A H b = some u := by rw [bI fun z => hb (List.mem_append_left _ z)]; exact q1
 have q3 := l b u q2
 have hb' : b ∉ A' := fun z => by rw [eG z] at q3; cases q3
 rw [bI fun z => (List.mem_append.mp z).elim hb' fun z => hb (List.mem_append_right _ z)]
 exact aY _ _ _ _ q3
theorem RS.set (r : RS K B A H st σ) {d : D} {v : V} (i : Nat) (h : Rep K (hide (A ++ B) H) d v) : RS K B A H (st.set i (some (.v d))) (σ.set i (some v)) where
 len := by rw [length_set, length_set, r.len]
 own := r.own
 dis := r.dis
 val := fun j d' e => by
  rw [List.getElem?_set] at e
  by_cases hij : i = j
  ·subst hij
   rw [if_pos rfl] at e
   split at e
   ·rename_i hl
    simp at e
    subst e
    exact ⟨v, by rw [List.getElem?_set, if_pos rfl, if_pos (by rw [<- r.len]; exact hl)], h⟩
   ·cases e
  ·rw [if_neg hij] at e
   obtain ⟨u, e1, q⟩ := r.val j d' e
   exact ⟨u, by rw [List.getElem?_set, if_neg hij]; exact e1, q⟩
 lst := fun j kk xs e => by
  obtain ⟨hj, e'⟩ := uH e
  obtain ⟨a, o, vs, e1, m, h1, ko, q, u⟩ := r.lst j kk xs e'
  refine ⟨a, o, vs, by rw [List.getElem?_set, if_neg fun z => hj z.symm]; exact e1, m, h1, ko, q, fun k k' ys ek ek2 => ?_⟩
  obtain ⟨hk, ek'⟩ := uH ek
  rw [List.getElem?_set, if_neg fun z => hk z.symm] at ek2
  exact u k k' ys ek' ek2
theorem aQg {p : Addr} {o : HO} (w : Own (A ++ B) H) : Own ((p :: A) ++ B) (upd H p o) := fun a ha => by
 by_cases e : a = p
 ·subst e; rw [bY]; rfl
 ·rw [aU e]
  exact w a ((List.mem_cons.mp ha).resolve_left e)
theorem aBn {p : Addr} {o : HO} (hp : H p = none) : aM (hide (A ++ B) H) (hide ((p :: A) ++ B) (upd H p o)) := fun b u q => by
 have q1 := aY _ _ _ _ q
 have hb : b ∉ A ++ B := fun z => by rw [eG z] at q; cases q
 have ne : b ≠ p := aK q1 hp
 rw [bI (show b ∉ (p :: A) ++ B from fun z => (List.mem_cons.mp z).elim ne hb), aU ne]
 exact q1
theorem aTj {p : Addr} {o : HO} (hp : H p = none) : Le A H (p :: A) (upd H p o) := fun b u q => by
 have q1 := aY _ _ _ _ q
 have hb : b ∉ A := fun z => by rw [eG z] at q; cases q
 have ne : b ≠ p := aK q1 hp
 rw [bI fun z => (List.mem_cons.mp z).elim ne hb, aU ne]
 exact q1
theorem RS.setO (r : RS K B A H st σ) {p : Addr} {kk : OK} {o : HO}   (i : Nat) (hp : H p = none) (ko : KOk K kk p o vs) (h : bA K (hide (A ++ B) H) ds vs) :
  RS K B (p :: A) (upd H p o) (st.set i (some (.o kk ds))) (σ.set i (some (.ref p))) where
 len := by rw [length_set, length_set, r.len]
 own := aQg r.own
 dis := fun a ha hb => by
  rcases List.mem_cons.mp ha with rfl | ha
  ·exact r.own.free hp (List.mem_append_right _ hb)
  ·exact r.dis a ha hb
 val := fun j d' e => by
  rw [List.getElem?_set] at e
  by_cases hij : i = j
  ·subst hij
   rw [if_pos rfl] at e
   split at e <;> simp at e
  ·rw [if_neg hij] at e
   obtain ⟨u, e1, q⟩ := r.val j d' e
   exact ⟨u, by rw [List.getElem?_set, if_neg hij]; exact e1, q.mono (aBn hp)⟩
 lst := fun j k0 xs e => by
  rw [List.getElem?_set] at e
  by_cases hij : i = j
  ·subst hij
   rw [if_pos rfl] at e
   split at e
   ·rename_i hl
    simp at e
    obtain ⟨e0, e⟩ := e
    subst e0 e
    refine ⟨p, o, vs, by rw [List.getElem?_set, if_pos rfl, if_pos (by rw [<- r.len]; exact hl)], mem_cons_self, bY, ko, h.mono (aBn hp), fun k k' ys ek ek2 => ?_⟩
    by_cases hk : i = k
    ·exact hk.symm
    ·rw [List.getElem?_set, if_neg hk] at ek ek2
     obtain ⟨a, o', vs', e1, m, h1, _⟩ := r.lst k k' ys ek
     rw [e1] at ek2
     cases ek2
     rw [hp] at h1; cases h1
   ·cases e
  ·rw [if_neg hij] at e
   obtain ⟨a, o', vs', e1, m, h1, ko', q, u⟩ := r.lst j k0 xs e
   have ne : a ≠ p := aK h1 hp
   refine ⟨a, o', vs', by rw [List.getElem?_set, if_neg hij]; exact e1, mem_cons_of_mem _ m, by rw [aU ne]; exact h1, ko', q.mono (aBn hp), fun k k' ys ek ek2 => ?_⟩
   by_cases hk : i = k
   ·subst hk
    rw [List.getElem?_set, if_pos rfl] at ek2
    split at ek2
    ·simp at ek2; exact absurd ek2.symm ne
    ·cases ek2
   ·rw [List.getElem?_set, if_neg hk] at ek ek2
    exact u k k' ys ek ek2
theorem RS.write (r : RS K B A H st σ) {a : Addr}  {k0 k1 : OK} {o' : HO}  {vs' : List V} (hi : st[i]? = some (some (.o k0 xs))) (hs : σ[i]? = some (some (.ref a))) (ko : KOk K k1 a o' vs') (h : bA K (hide (A ++ B) H) ds vs') :
  RS K B A (upd H a o') (st.set i (some (.o k1 ds))) σ /\ Le A H A (upd H a o') := by
 obtain ⟨a', o, vs, e1, m, h1, _, q, u⟩ := r.lst i k0 xs hi
 rw [hs] at e1
 cases e1
 have hh : hide (A ++ B) (upd H a o') = hide (A ++ B) H := gW (List.mem_append_left _ m)
 refine ⟨⟨by rw [length_set, r.len], fun b hb => ?_, r.dis, fun j d e => ?_, fun j kj ys e => ?_⟩, ?_⟩
 ·by_cases e : b = a
  ·subst e; rw [bY]; rfl
  ·rw [aU e]; exact r.own b hb
 ·rw [hh]
  rw [List.getElem?_set] at e
  by_cases hij : i = j
  ·subst hij
   rw [if_pos rfl] at e
   split at e <;> simp at e
  ·rw [if_neg hij] at e
   exact r.val j d e
 ·rw [hh]
  have ne : ∀ {k : Nat} {kz : OK} {zs : List D}, (st.set i (some (.o k1 ds)))[k]? = some (some (.o kz zs)) -> ∃ kw ws, st[k]? = some (some (.o kw ws)) := fun {k kz zs} ek => by
   rw [List.getElem?_set] at ek
   by_cases hk : i = k
   ·subst hk; exact ⟨_, _, hi⟩
   ·rw [if_neg hk] at ek; exact ⟨_, _, ek⟩
  rw [List.getElem?_set] at e
  by_cases hij : i = j
  ·subst hij
   rw [if_pos rfl] at e
   split at e
   ·simp at e
    obtain ⟨e0, e⟩ := e
    subst e0 e
    exact ⟨a, o', vs', hs, m, bY, ko, h, fun k kz zs ek ek2 => let ⟨kw, ws, ew⟩ := ne ek; u k kw ws ew ek2⟩
   ·cases e
  ·rw [if_neg hij] at e
   obtain ⟨c, oc, ws, c1, cm, ch, kc, cq, cu⟩ := r.lst j kj ys e
   have hca : c ≠ a := fun z => by subst z; exact hij (u j kj ys e c1).symm
   exact ⟨c, oc, ws, c1, cm, by rw [aU hca]; exact ch, kc, cq, fun k kz zs ek ek2 => let ⟨kw, ws, ew⟩ := ne ek; cu k kw ws ew ek2⟩
 ·unfold Le
  rw [gW m]
  exact aM.refl _
theorem RS.fz1 (r : RS K B A H st σ) (i : Nat) : ∃ A', RS K B A' H (Pu.fz1 st i) σ /\ Le A H A' H := by
 unfold Pu.fz1
 split
 ·rename_i kk xs e
  obtain ⟨a, o, vs, e1, m, h1, ko, q, u⟩ := r.lst i kk xs e
  have hsub : ∀ b ∈ A.filter (fun c => decide (c ≠ a)), b ∈ A := fun b hb => (List.mem_filter.mp hb).1
  have hsub2 : ∀ b ∈ A.filter (fun c => decide (c ≠ a)) ++ B, b ∈ A ++ B := fun b hb => (List.mem_append.mp hb).elim (fun z => List.mem_append_left _ (hsub b z)) (List.mem_append_right _)
  have sm : aM (hide (A ++ B) H) (hide (A.filter (fun c => decide (c ≠ a)) ++ B) H) := dR hsub2
  have hout : a ∉ A.filter (fun c => decide (c ≠ a)) ++ B := fun z => (List.mem_append.mp z).elim (fun z => of_decide_eq_true (List.mem_filter.mp z).2 rfl) (r.dis a m)
  refine ⟨A.filter fun c => decide (c ≠ a), ⟨by rw [length_set, r.len], fun b hb => r.own b (hsub2 b hb), fun b hb => r.dis b (hsub b hb), fun j d ej => ?_, fun j kj ys ej => ?_⟩, dR hsub⟩
  ·rw [List.getElem?_set] at ej
   by_cases hij : i = j
   ·subst hij
    rw [if_pos rfl] at ej
    split at ej
    ·simp at ej
     subst ej
     exact ⟨_, e1, ko.rep (by rw [bI hout]; exact h1) (q.mono sm)⟩
    ·cases ej
   ·rw [if_neg hij] at ej
    obtain ⟨v, e2, q2⟩ := r.val j d ej
    exact ⟨v, e2, q2.mono sm⟩
  ·obtain ⟨hj, ej'⟩ := uH ej
   obtain ⟨c, oc, ws, c1, cm, ch, kc, cq, cu⟩ := r.lst j kj ys ej'
   have hca : c ≠ a := fun z => by subst z; exact hj (u j kj ys ej' c1)
   exact ⟨c, oc, ws, c1, List.mem_filter.mpr ⟨cm, decide_eq_true hca⟩, ch, kc, cq.mono sm, fun k kz zs ek ek2 => cu k kz zs (uH ek).2 ek2⟩
 ·exact ⟨A, r, Le.refl⟩
theorem RS.fz (is : List Nat) : ∀ {A : List Addr} {st : PSt}, RS K B A H st σ -> ∃ A', RS K B A' H (is.foldl Pu.fz1 st) σ /\ Le A H A' H := by
 induction is with
 | nil => exact fun r => ⟨_, r, Le.refl⟩
 | cons i is ih =>
  intro A st r
  obtain ⟨A1, r1, l1⟩ := r.fz1 i
  obtain ⟨A2, r2, l2⟩ := ih r1
  exact ⟨A2, r2, l1.trans l2⟩
end
section
variable {X : Cx} {B : List Addr} {a b e : Expr} {f g : Ex} {pos : Pos} {bd bd' : Bd} {sm : Stmt} {rest : List Stmt}
theorem mX : PSs X [] (tS X.K B eN) := oU aDw (by
 rintro Dn σ H ⟨A, st, r, rs, hr, p⟩
 cases hr
 exact p A σ H Le.refl rs)
theorem cD (h1 : PS X sm (tS X.K B bd)) (h2 : PSs X rest (tS X.K B bd')) : PSs X (sm :: rest) (tS X.K B (cQ bd bd')) := by
 refine oU (pR h1 h2) ?_
 rintro Dn σ H ⟨A, st, r, rs, hr, p⟩
 obtain ⟨x, hx, h3⟩ := R.ok_of hr
 refine ⟨A, st, x, rs, hx, ?_⟩
 cases x with
 | nx s1 => exact fun A' σ' H' l rs' => ⟨A', s1, r, rs', h3, p.mono l⟩
 | rt d => cases h3; exact p
 | bk s1 => cases h3; exact p
 | ct s1 => cases h3; exact p
theorem cX (h1 : PS X sm (tS X.K B bd)) : PSs X [sm] (tS X.K B bd) := aAg h1
theorem aWw (is : List Nat) (h : PS X sm (tS X.K B bd)) : PS X sm (tS X.K B (sFz is bd)) := fZ h (by
 rintro Dn σ H ⟨A, st, r, rs, hr, p⟩
 obtain ⟨A', rs', l⟩ := RS.fz is rs
 exact ⟨A', _, r, rs', hr, p.mono l⟩)
theorem eO (h : PE X e (tI X.K B f)) : PS X (.Return (some e) pos) (tS X.K B (eV f)) := fZ (aLs h) (by
 rintro Dn σ H ⟨A, st, r, rs, hr, p⟩
 obtain ⟨d, hd, h3⟩ := R.ok_of hr
 cases h3
 exact ⟨A, st, d, rs, hd, fun v H' s q => p A v H' (Le.of s) q⟩)
theorem fP (i : Nat)   (he : PE X e (tI X.K B f)) (hN : X.N.Nodup) (hi : X.N[i]? = some x := by rfl) (hx : Loc X.env.scope x := by first | exact Or.inl rfl | exact Or.inr rfl) (hs : swapsWith e (some (.Name x pos')) pos.line X.env = pure false := by rfl)
  (hf : X.fn x = true \/ X.env.scope.names.lookup x = some .local := by first | exact .inl rfl | exact .inr rfl | assumption) : PS X (.Assign [.Name x pos'] e pos) (tS X.K B (eF i f)) := fZ (yE hN hi hx he hs hf) (by
 rintro Dn σ H ⟨A, st, r, rs, hr, p⟩
 obtain ⟨d, hd, h3⟩ := R.ok_of hr
 cases h3
 exact ⟨A, st, d, rs, hd, fun v H' s q => p A _ H' (Le.of s) ((rs.mono s).set i q)⟩)
def tF (K : Frag) (B : List Addr) (f : Ex) : TE := fun σ H Q => ∃ A st ds, RS K B A H st σ /\ f st = .ok (.lst ds) /\ ∀ p vs H', aM H H' -> H' p = none -> bA K (hide (A ++ B) H') ds vs -> Q (.ref p) (upd H' p (.lst vs))
theorem aRu (h : PA X es (tA X.K B r)) : PE X (.List es pos) (tF X.K B (jC r)) := by
 refine cW (aH3 h) ?_
 rintro σ H Q ⟨A, st, d, rs, hd, q⟩
 obtain ⟨xs, hx, h2⟩ := R.ok_of hd
 obtain ⟨c, h3⟩ := aJ h2
 cases h3
 exact ⟨A, st, _, rs, hx, fun vs H1 s1 r1 => ⟨by rw [r1.length]; exact lim c, fun p hp => q p vs H1 s1 hp r1⟩⟩
theorem aNk (i : Nat)   (he : PE X e (tF X.K B f)) (hN : X.N.Nodup) (hi : X.N[i]? = some x := by rfl) (hx : Loc X.env.scope x := by first | exact Or.inl rfl | exact Or.inr rfl) (hs : swapsWith e (some (.Name x pos')) pos.line X.env = pure false := by rfl)
  (hf : X.fn x = true \/ X.env.scope.names.lookup x = some .local := by first | exact .inl rfl | exact .inr rfl | assumption) : PS X (.Assign [.Name x pos'] e pos) (tS X.K B (aAy i f)) := fZ (yE hN hi hx he hs hf) (by
 rintro Dn σ H ⟨A, st, r, rs, hr, p⟩
 obtain ⟨d, hd, h3⟩ := R.ok_of hr
 cases d <;> first | (cases h3; done) | skip
 cases h3
 exact ⟨A, st, _, rs, hd, fun a vs H' s hn q => p (a :: A) _ _ ((Le.of s).trans (aTj hn)) ((rs.mono s).setO (kk := .l) i hn rfl q)⟩)
theorem vO {c : Expr} {t : Ex} {x : List Stmt} (hc : PT X c (tT X.K B t)) (ha : PSs X x (tS X.K B bd)) (hb : PSs X y (tS X.K B bd')) : PS X (.If c x y pos) (tS X.K B (sIf t bd bd')) := fZ (aIa hc ha hb) (by
 rintro Dn σ H ⟨A, st, r, rs, hr, p⟩
 obtain ⟨d, hd, h3⟩ := R.ok_of hr
 obtain ⟨k, rfl, h4⟩ := qQ h3
 refine ⟨A, st, k, rs, hd, fun H1 s1 => ?_⟩
 cases k with
 | true => exact ⟨A, st, r, rs.mono s1, h4, p.mono (Le.of s1)⟩
 | false => exact ⟨A, st, r, rs.mono s1, h4, p.mono (Le.of s1)⟩)
theorem dZ (i : Nat)  (hN : X.N.Nodup) (hi : X.N[i]? = some x := by rfl) (hx : Loc X.env.scope x := by first | exact Or.inl rfl | exact Or.inr rfl)
  (hf : X.fn x = true \/ X.env.scope.names.lookup x = some .local := by first | exact .inl rfl | exact .inr rfl | assumption) : PG X (.Name x pos) (tG X.K B (tgN i)) := aNg (aIb hN hi hx hf) (by
 rintro v σ H Q ⟨A, st, d, s1, rs, hr, hg, q⟩
 cases hg
 exact q _ (rs.set i hr))
def tGs (K : Frag) (B : List Addr) (is : List Nat) : TGs := fun vs σ H Q => ∃ A st ds s1, RS K B A H st σ /\ bA K (hide (A ++ B) H) ds vs /\ nP is ds st = .ok s1 /\ ∀ σ', RS K B A H s1 σ' -> Q σ' H
theorem aJ4 {t t' : TGs} (h : PGs X es t) (m : ∀ v σ H Q, t' v σ H Q -> t v σ H Q) : PGs X es t' := fun pins s σ H v u Q I r q => h pins s σ H v u Q I r (m v σ H Q q)
theorem aHw : PGs X [] (tGs X.K B []) := aJ4 aP6 (by
 rintro v σ H Q ⟨A, st, ds, s1, rs, hr, hg, q⟩
 cases ds with
 | nil => cases hg; exact ⟨dM.mp hr, q σ rs⟩
 | cons _ _ => exact nomatch hg)
theorem uI (i : Nat) {is : List Nat}   (h2 : PGs X es (tGs X.K B is)) (hN : X.N.Nodup) (hi : X.N[i]? = some x := by rfl) (hx : Loc X.env.scope x := by first | exact Or.inl rfl | exact Or.inr rfl)
  (hf : X.fn x = true \/ X.env.scope.names.lookup x = some .local := by first | exact .inl rfl | exact .inr rfl | assumption)
  (hs : (assignEach (.Name x pos :: es) X.env).map (·.2) = assign (.Name x pos) X.env :: (assignEach es X.env).map (·.2) := by rfl) : PGs X (.Name x pos :: es) (tGs X.K B (i :: is)) := aJ4 (aLt (dZ i (pos := pos) hN hi hx hf) h2 hs) (by
 rintro v σ H Q ⟨A, st, ds, s1, rs, hr, hg, q⟩
 cases ds with
 | nil => exact nomatch hg
 | cons d ds =>
  obtain ⟨u, r, e, r1, r2⟩ := cF.mp hr
  exact ⟨u, r, e, A, st, d, st.set i (some (.v d)), rs, r1, rfl, fun σ' rs' => ⟨A, _, ds, s1, rs', r2, hg, q⟩⟩)
theorem aBo {it : Addr}  (hl : h.IsList l items) (s : Heap.SameBut it h h') (hne : l ≠ it) : h'.IsList l items := by
 obtain ⟨o, e, r⟩ := hl
 exact ⟨o, (s.2 l hne).trans e, r⟩
theorem aDf {M : Program} {w : World} {A : Around} {E : Value -> Shared -> Prop} {it t : Addr} {items : Array Value} (hne : t ≠ it) : ∀ (n i : Nat) (s : Shared) (Q : List Value -> Shared -> Prop), s.heap.IsListIter it t i -> s.heap.IsList t items -> i + n <= items.size ->
  (∀ h', h'.IsListIter it t (i + n) -> Heap.SameBut it s.heap h' -> Q ((items.toList.drop i).take n) { s with heap := h' }) -> wpAny (model M w) A (draw (.ref it) n) Q E s
 | 0, i, s, Q, hit, _, _, hQ => by
  show wpAny _ _ (pure []) Q E s
  exact wpAny_pure (by simpa using hQ s.heap hit (Heap.SameBut.refl ..))
 | n + 1, i, s, Q, hit, ht, hle, hQ => by
  have hlt : i < items.size := by omega
  show wpAny _ _ (pyNext (.ref it) >>= _) Q E s
  refine wpAny_bind (wpAny_pyNext_list_item hit ht (x := items[i]) (by simp [hlt]) fun h1 hit1 hs1 => ?_)
  refine wpAny_bind (wpAny_holding (aDf hne n (i + 1) _ _ hit1 (aBo ht hs1 hne) (by omega) fun h2 hit2 hs2 => wpAny_pure ?_))
  have hd : items.toList.drop i = items[i] :: items.toList.drop (i + 1) := by simp [drop_eq_getElem_cons, hlt]
  have := hQ h2 (by rw [show i + (n + 1) = i + 1 + n by omega]; exact hit2) (hs1.trans hs2)
  rw [hd, take_succ_cons] at this
  exact this
theorem wZ {M : Program}  {A : Around}  {s : Shared}    {pos : Pos} {t : Addr}   (hh : A.handled = none) (ht : s.heap.IsList t items)
  (hn : (assignEach elts env).length = items.size) (hstar : (assignEach elts env).findIdx? (·.1) = none)
  (h : ∀ h', Heap.ExtBut s.heap.objs.size s.heap h' -> wpAny (model M w) A (assignInOrder ((assignEach elts env).map (·.2)) items.toList) Q E { s with heap := h' }) :
  wpAny (model M w) A (assign (.Tuple elts x1 pos) env (.ref t)) Q E s := by
 have hlt : t ≠ s.heap.objs.size := by obtain ⟨o, ho, _⟩ := ht; exact Nat.ne_of_lt (Heap.lt_size ho)
 rw [assign_Tuple]
 refine wpAny_bind (wpAny_standAt ?_)
 unfold unpack
 rw [hn, hstar]
 refine wpAny_bind (wpAny_holding ?_)
 unfold unpackItems
 refine wpAny_bind ?_
 unfold notIterableAtAll
 refine wpAny_bind (wpAny_specialOf ht.typeIs PySem.F.slot_list_iter.lookup ?_)
 refine wpAny_pure ?_
 simp only [Bool.false_eq_true, if_false]
 refine wpAny_bind (wpAny_holding (wpAny_pyIter_list ht ?_))
 have ht0 : (s.heap.push { cls := .type "list_iterator", data := .fields #[.ref t, rawInt 0] }).IsList t items := by
  obtain ⟨o, ho, r⟩ := ht
  exact ⟨o, Heap.get?_push_of_some _ ho, r⟩
 refine wpAny_bind (wpAny_holding (aDf hlt items.size 0 _ _ ⟨_, Heap.get?_push_size _ rfl, rfl, rfl⟩ ht0 (by omega) fun h1 hit1 hs1 => ?_))
 have hall : List.take items.size (List.drop 0 items.toList) = items.toList := by
  rw [drop_zero]; exact take_of_length_le (by simp)
 rw [hall]
 rw [if_neg (by simp)]
 refine wpAny_bind (wpAny_holding (wpAny_pyNext_list_end hh hit1 (aBo ht0 hs1 hlt) (by simp) fun h2 he2 => ?_))
 simp only [Option.isSome_none, Bool.false_eq_true, if_false]
 refine wpAny_pure (h h2 fun b o hb e => he2 b o hb (hs1.extBut b o hb (Heap.get?_push_of_some _ e)))
def aZ6 (K : Frag) (n : Nat) (t : TGs) : TG := fun v σ H Q => ∃ a xs, v = .ref a /\ (SqT K H a xs \/ SqL K H a xs) /\ xs.length = n /\ t xs σ H Q
theorem aTk {k : Nat} {t : TGs}  (hc : X.calm = true) (h : PGs X es t)
  (hn : (assignEach es X.env).length = n := by rfl) (hst : (assignEach es X.env).findIdx? (·.1) = none := by rfl) : PG X (.Tuple es k pos) (aZ6 X.K n t) := by
 intro pins s σ H v u Q I r hw
 obtain ⟨a, xs, e1, hq, hl, hw⟩ := hw
 rcases hq with hq | hq
 ·exact aSg hc h hn hst pins s σ H v u Q I r ⟨a, xs, e1, hq, hl, hw⟩
 ·subst e1
  cases r
  obtain ⟨its, rv, ht, hz⟩ := I.list hq
  refine wZ (I.ok.hd hc) ht.isList (by simp [hn, <- hl, rv.length]) hst fun h' hx => ?_
  have I1 : Inv X pins σ H { s with heap := h' } := I.kept (t' := s.toks) fun b o e => hx b o (Nat.ne_of_lt (Heap.lt_size e)) e
  exact h pins _ σ H xs _ Q I1 (by simpa using rv) hw
theorem aBp {s1 : PSt} : ∀ (is : List Nat) (ds : List D) (st : PSt), nP is ds st = .ok s1 -> ds.length = is.length := by
 intro is
 induction is with
 | nil => intro ds st h; cases ds with | nil => rfl | cons _ _ => exact nomatch h
 | cons i is ih => intro ds st h; cases ds with | nil => exact nomatch h | cons _ ds => exact congrArg (· + 1) (ih ds _ h)
theorem aNl {is : List Nat}  {k : Nat} (hc : X.calm = true) (h : PGs X es (tGs X.K B is)) (hn : (assignEach es X.env).length = is.length := by rfl) (hst : (assignEach es X.env).findIdx? (·.1) = none := by rfl) : PG X (.Tuple es k pos) (tG X.K B (tgT is)) := aNg (aTk hc h hn hst) (by
 rintro v σ H Q ⟨A, st, d, s1, rs, hr, hg, q⟩
 cases d <;> first | (cases hg; done) | skip
 ·rename_i ds
  obtain ⟨a, vs, e, h1, h2⟩ := bF hr
  exact ⟨a, vs, e, .inl (sY (aY _ _) h1), by rw [h2.length]; exact aBp is ds st hg, A, st, ds, s1, rs, h2, hg, q⟩
 ·rename_i ds
  obtain ⟨a, vs, e, h1, h2⟩ := bG.mp hr
  exact ⟨a, vs, e, .inr ((aY _ _).seq h1), by rw [h2.length]; exact aBp is ds st hg, A, st, ds, s1, rs, h2, hg, q⟩)
theorem aWx {t : Tg} (he : PE X e (tI X.K B f)) (hg : PG X tg (tG X.K B t)) (hs : swapsWithSole [tg] e pos.line X.env = pure false := by rfl) (hw : swappedStores [tg] e X.env = pure none := by rfl)
  (h1 : (assignEach [tg] X.env).map (·.2) = [assign tg X.env] := by rfl) : PS X (.Assign [tg] e pos) (tS X.K B (aSw t f)) := fZ (aLu he hg hs hw h1) (by
 rintro Dn σ H ⟨A, st, r, rs, hr, p⟩
 obtain ⟨d, hd, h3⟩ := R.ok_of hr
 obtain ⟨s1, hs1, h4⟩ := R.ok_of h3
 cases h4
 exact ⟨A, st, d, rs, hd, fun v H' s q => ⟨A, st, d, s1, rs.mono s, q, hs1, fun σ' rs' => p A σ' H' (Le.of s) rs'⟩⟩)
theorem aNm {iter : Expr}  {t : Tg}  (hi : L2.PI X tg iter (tIt X.K B it)) (hg : PG X tg (tG X.K B t)) (hb : PSs X body (tS X.K B bd)) (hp : PassesOwn (model X.prog X.w) X.A X.env X.xe) (hc : X.calm = true)
  (hs : ∀ x, foldedSetIterable iter X.env x = pure x := by intro _; rfl) : PS X (.For tg iter body [] pos) (tS X.K B (aF9 t it bd)) := fZ (aSi hp hc hi hg hb hs) (by
 rintro Dn σ H ⟨A, st, r, rs, hr, p⟩
 obtain ⟨ds, hd, h3⟩ := R.ok_of hr
 refine ⟨A, st, ds, rs, hd, fun J H1 s1 ito => ?_⟩
 refine ⟨fun i m σ' H' => ∃ A' st', m = ds.length - i /\ i <= ds.length /\ RS X.K B A' H' st' σ' /\ forR t bd (ds.drop i) st' = .ok r /\ Le A H1 A' H', ⟨ds.length, A, st, by simp, zero_le _, rs.mono s1, by rw [drop_zero]; exact h3, Le.refl⟩, ?_⟩
 rintro i m σ' H' ⟨A', st', rfl, hle, rs', hf, l⟩
 obtain ⟨i1, i2⟩ := ito A' H' l rs'.own i
 by_cases hlt : i < ds.length
 ·have hd' : ds[i]? = some ds[i] := List.getElem?_eq_getElem hlt
  obtain ⟨go, yl⟩ := i1 _ hd'
  rw [drop_eq_getElem_cons hlt] at hf
  obtain ⟨s2, hs2, h5⟩ := R.ok_of hf
  obtain ⟨fl, hfl, h6⟩ := R.ok_of h5
  refine .inr ⟨go, fun σ2 H2 => ∃ A2 st2, i + 1 <= ds.length /\ RS X.K B A2 H2 st2 σ2 /\ forR t bd (ds.drop (i + 1)) st2 = .ok r /\ Le A H1 A2 H2, ?_, fun x H2 y => ?_⟩
  ·rintro σ2 H2 ⟨A2, st2, hle2, rs2, hf2, l2⟩
   exact ⟨ds.length - (i + 1), by omega, A2, st2, rfl, hle2, rs2, hf2, l2⟩
  ·obtain ⟨sm, rx⟩ := yl x H2 y
   have l5 : Le A H1 A' H2 := l.trans (Le.of sm)
   refine ⟨A', st', ds[i], s2, rs'.mono sm, rx, hs2, fun σ3 rs3 => ⟨A', s2, fl, rs3, hfl, ?_⟩⟩
   cases fl with
   | nx s4 => exact fun A4 σ4 H4 l4 rs4 => ⟨A4, s4, hlt, rs4, h6, l5.trans l4⟩
   | ct s4 => exact fun A4 σ4 H4 l4 rs4 => ⟨A4, s4, hlt, rs4, h6, l5.trans l4⟩
   | bk s4 => cases h6; exact p.mono ((Le.of s1).trans l5)
   | rt d => cases h6; exact p.mono ((Le.of s1).trans l5)
 ·have e : i = ds.length := by omega
  subst e
  rw [drop_length] at hf
  cases hf
  exact .inl ⟨i2 (Nat.le_refl _), p A' σ' H' ((Le.of s1).trans l) rs'⟩)
theorem aTl {K : Frag}      (hq : SqL K (hide (A ++ B) H) l vs) (r : bA K (hide (A ++ B) H) ds vs) : aKv K B A H (Itl K l) ds := by
 intro A' H' le own i
 have hq' : SqL K H' l vs := (aY _ _).seq ((Le.app le).seq hq)
 refine ⟨fun d hd => ?_, fun hl => ⟨vs, hq', by rw [r.length]; exact hl⟩⟩
 obtain ⟨v, hv, rv⟩ := r.get hd
 refine ⟨⟨vs, v, hq', hv⟩, fun x H3 y => ⟨by rw [y.1]; exact aM.refl _, ?_⟩⟩
 have hx := y.2 vs hq'
 rw [y.1]
 rw [hv] at hx
 cases hx
 exact rv.mono (Le.app le)
theorem aTm {K : Frag}      (hq : SqT K (hide (A ++ B) H) l vs) (r : bA K (hide (A ++ B) H) ds vs) : aKv K B A H (Itt K l) ds := by
 intro A' H' le own i
 have hq' : SqT K H' l vs := sY (aY _ _) (sY (Le.app le) hq)
 refine ⟨fun d hd => ?_, fun hl => ⟨vs, hq', by rw [r.length]; exact hl⟩⟩
 obtain ⟨v, hv, rv⟩ := r.get hd
 refine ⟨⟨vs, v, hq', hv⟩, fun x H3 y => ⟨by rw [y.1]; exact aM.refl _, ?_⟩⟩
 have hx := y.2 vs hq'
 rw [y.1]
 rw [hv] at hx
 cases hx
 exact rv.mono (Le.app le)
theorem aNn {K : Frag}   {lo : Int}  : aKv K B A H (Itr lo n) (gH lo n) := by
 intro A' H' le own i
 have hl : (gH lo n).length = n := by simp [gH]
 refine ⟨fun d hd => ?_, fun h => by rw [hl] at h; exact h⟩
 have hi : i < n := by
  have := (List.getElem?_eq_some_iff.mp hd).1
  rw [hl] at this; exact this
 have e : d = .int (lo + (i : Int)) := by
  unfold gH at hd
  rw [List.getElem?_map, List.getElem?_range hi] at hd
  exact (Option.some.inj hd).symm
 subst e
 exact ⟨hi, fun x H3 y => ⟨by rw [y.1]; exact aM.refl _, aW.mpr y.2⟩⟩
def Its (z : List Nat) : It := ⟨fun i _ => i < z.length, fun i H x H' => H' = H /\ ∃ c, z[i]? = some c /\ x = .str ⟨#[c]⟩, fun i _ => z.length <= i⟩
theorem aNo {K : Frag}  {z : List Nat} {it : Addr} {n : String} {t : Tok} (hn : n = "str_ascii_iterator" \/ n = "str_iterator") : Turn P w K tg (Its z) [it] it (fun i h => h.IsStrIter it n ⟨z.toArray⟩ t i) where
 mem := by simp
 obj := fun i h st b hb => by
  have e : b = it := by simpa using hb
  subst e
  obtain ⟨o, e, c, d⟩ := st
  exact ⟨o, e, fun v z => by rw [d] at z; cases z⟩
 keep := fun i h h' st k => let ⟨o, e, r⟩ := st; ⟨o, k it (by simp) o e, r⟩
 item := by
  intro X hP hw hK hc i pins s σ H E I hf st hg
  subst hP hw hK
  obtain ⟨f0, f1, f2, f3, f4, f5⟩ := hf it (by simp)
  have fin : ∀ v h' tk, SignAt ⟨z.toArray⟩ i v -> Heap.IsStrIter h' it n ⟨z.toArray⟩ t (i + 1) -> (∀ b o, b ∉ [it] -> s.heap.get? b = some o -> h'.get? b = some o) ->
    ∃ u, some v = some u /\ wpAny (model X.prog X.w) X.A (letOwnedTupleGo tg (.ref it) u) (fun _ s2 => ∃ x H', Inv X pins σ H' s2 /\ RelV x u /\ (Its z).yld i H x H' /\ Heap.IsStrIter s2.heap it n ⟨z.toArray⟩ t (i + 1) /\ ∀ b ∈ [it], H' b = none) E { s with heap := h', toks := tk } := by
   intro v h' tk hv st' kk
   obtain ⟨c, u, hcu, rfl⟩ := hv
   have I1 : Inv X pins σ H { s with heap := h', toks := tk } := I.turned (fun b o hb e => kk b o (by simpa using hb) e) f0 f1 f3 f4 f5
   obtain ⟨o, e, c', d⟩ := id st'
   refine ⟨_, rfl, aIc (s := { s with heap := h', toks := tk }) e c' d (by rcases hn with rfl | rfl <;> decide) ⟨.str ⟨#[c]⟩, H, I1, ⟨u, rfl⟩, ⟨rfl, c, ?_, rfl⟩, st', fun b hb => (hf b hb).1⟩⟩
   simpa using hcu
  have hg2 : i < z.length := hg
  have hg' : i < (⟨z.toArray⟩ : Str).cps.size := by simpa using hg2
  rcases hn with rfl | rfl
  ·exact (Walks.strAscii (prog := X.prog) (w := X.w) (I.ok.hd hc) it ⟨z.toArray⟩ t).item i s _ _ hg' st fun v h' tk hv st' kk => fin v h' tk hv st' kk
  ·exact (Walks.strWide (prog := X.prog) (w := X.w) (I.ok.hd hc) it ⟨z.toArray⟩ t).item i s _ _ hg' st fun v h' tk hv st' kk => fin v h' tk hv st' kk
 done := by
  intro X hP hw hK hc i pins s σ H E I hf st hg
  subst hP hw hK
  obtain ⟨f0, f1, f2, f3, f4, f5⟩ := hf it (by simp)
  have hg2 : z.length <= i := hg
  rcases hn with rfl | rfl
  ·exact wpAny_pyNext_ascii_end (I.ok.hd hc) st (by simpa using hg2) fun h' eb => ⟨rfl, I.turned (t' := s.toks) (fun b o hb e => eb b o hb e) f0 f1 f3 f4 f5⟩
  ·exact wpAny_pyNext_wide_end (I.ok.hd hc) st (by simpa using hg2) fun h' eb => ⟨rfl, I.turned (t' := s.toks) (fun b o hb e => eb b o hb e) f0 f1 f3 f4 f5⟩
 self := fun _ _ _ _ _ st h => by
  rcases hn with rfl | rfl
  ·exact wpAny_pyIter_striter_ascii st h
  ·exact wpAny_pyIter_striter_wide st h
theorem aTn {K : Frag}   {z : List Nat} : aKv K B A H (Its z) (z.map fun c => .str [c]) := by
 intro A' H' le own i
 refine ⟨fun d hd => ?_, fun h => (by simpa using h : z.length <= i)⟩
 rw [List.getElem?_map] at hd
 cases hz : z[i]? with
 | none => rw [hz] at hd; cases hd
 | some c =>
  rw [hz] at hd
  cases hd
  refine ⟨(List.getElem?_eq_some_iff.mp hz).1, fun x H3 y => ⟨by rw [y.1]; exact aM.refl _, ?_⟩⟩
  obtain ⟨c', hc', rfl⟩ := y.2
  rw [hz] at hc'
  cases hc'
  exact aO.mpr rfl
def aZ7 (K : Frag) (tl : TE) : TI := fun σ H R => tl σ H fun x H1 => (∃ a, x = .ref a /\ (((∃ xs, SqL K H1 a xs) /\ R (Itl K a) H1) \/ ((∃ xs, SqT K H1 a xs) /\ R (Itt K a) H1))) \/ ∃ z : List Nat, x = .str ⟨z.toArray⟩ /\ R (Its z) H1
theorem aTo {l : Expr} {tl : TE} (hl : PE X l tl) : L2.PI X tg l (aZ7 X.K tl) := by
 intro pins s σ H R I h
 refine thn (hl pins s σ H _ I h) fun v s1 ⟨x, H1, I1, r1, q1⟩ => ?_
 rcases q1 with ⟨a, e, q⟩ | ⟨z, rfl, q⟩
 rotate_left
 ·obtain ⟨t, rfl⟩ := r1
  refine wpAny_pyIter_strU ?_
  refine ⟨s1.heap.objs.size, [s1.heap.objs.size], _, _, H1, rfl, I1.kept (t' := s1.toks) fun b o e => Heap.get?_push_of_some _ e, aNo (z := z) (n := strIterType ⟨z.toArray⟩) (t := t) (by unfold strIterType; split <;> simp), ⟨_, Heap.get?_push_size _ rfl, rfl, rfl⟩, fun b hb => ?_, q⟩
  have e : b = s1.heap.objs.size := by simpa using hb
  subst e
  exact I1.fpOk (Nat.le_refl _) (I1.hok.fresh (Nat.le_refl _))
 subst e
 cases r1
 rcases q with ⟨⟨xs, hq⟩, q⟩ | ⟨⟨xs, hq⟩, q⟩
 ·obtain ⟨its, rv, p, hz⟩ := I1.list hq
  refine wpAny_pyIter_list p.isList ?_
  refine ⟨s1.heap.objs.size, [s1.heap.objs.size], _, _, H1, rfl, I1.kept (t' := s1.toks) fun b o e => Heap.get?_push_of_some _ e, aJr a _, ⟨_, Heap.get?_push_size _ rfl, rfl, rfl⟩, fun b hb => ?_, q⟩
  have e : b = s1.heap.objs.size := by simpa using hb
  subst e
  exact I1.fpOk (Nat.le_refl _) (I1.hok.fresh (Nat.le_refl _))
 ·obtain ⟨its, rv, p, hz⟩ := I1.tuple hq
  refine wpAny_pyIter_tuple (show s1.heap.IsTuple a its.toArray from p) ?_
  refine ⟨s1.heap.objs.size, [s1.heap.objs.size], _, _, H1, rfl, I1.kept (t' := s1.toks) fun b o e => Heap.get?_push_of_some _ e, aGv a _, ⟨_, Heap.get?_push_size _ rfl, rfl, rfl⟩, fun b hb => ?_, q⟩
  have e : b = s1.heap.objs.size := by simpa using hb
  subst e
  exact I1.fpOk (Nat.le_refl _) (I1.hok.fresh (Nat.le_refl _))
theorem rT {l : Expr} (hl : PE X l (tI X.K B f)) : L2.PI X tg l (tIt X.K B (itE f)) := aHq (aTo hl) (by
 rintro σ H Rq ⟨A, st, ds, rs, hd, q⟩
 obtain ⟨x, hx, h2⟩ := R.ok_of hd
 refine ⟨A, st, x, rs, hx, fun v H1 s1 r1 => ?_⟩
 cases x <;> first | (cases h2; done) | skip
 ·obtain ⟨_, h2⟩ := aJ h2
  cases h2
  exact .inr ⟨_, aO.mp r1, q _ H1 s1 aTn⟩
 ·cases h2
  obtain ⟨a, vs, e, h3, r3⟩ := bF r1
  exact .inl ⟨a, e, .inr ⟨⟨vs, sY (aY _ _) h3⟩, q _ H1 s1 (aTm h3 r3)⟩⟩
 ·cases h2
  obtain ⟨a, vs, e, h3, r3⟩ := bG.mp r1
  exact .inl ⟨a, e, .inl ⟨⟨vs, (aY _ _).seq h3⟩, q _ H1 s1 (aTl h3 r3)⟩⟩)
theorem aA7 {p : Pos} (hm : X.mg "range" = none) (ha : PE X a (tP X.K B f)) (hg : Gl X "range" := by rfl) (hs : starEach [a] X.env = [(false, eval a X.env)] := by rfl) : L2.PI X tg (.Call (.Name "range" p) [a] [] pos) (tIt X.K B (nC f)) := aHq (aJs hg hm (dC ha gG hs) hs) (by
 rintro σ H Rq ⟨A, st, ds, rs, hd, q⟩
 obtain ⟨x, hx, h2⟩ := R.ok_of hd
 obtain ⟨j, rfl, h3⟩ := rU h2
 obtain ⟨c, h4⟩ := aJ h3
 rw [jO] at c
 cases h4
 exact ⟨A, st, _, rs, hx, fun v H1 s1 r1 => ⟨j, by rw [r1.int], by omega, by omega, q _ H1 s1 aNn⟩⟩)
theorem aWy {p : Pos} (hm : X.mg "range" = none) (ha : PE X a (tP X.K B f)) (hb : PE X b (tP X.K B g)) (hg : Gl X "range" := by rfl) (hs : starEach [a, b] X.env = [(false, eval a X.env), (false, eval b X.env)] := by rfl) (hs2 : starEach [b] X.env = [(false, eval b X.env)] := by rfl)
  (hs3 : starEach [a, b] X.env = (false, eval a X.env) :: starEach [b] X.env := by rfl) : L2.PI X tg (.Call (.Name "range" p) [a, b] [] pos) (tIt X.K B (aPn f g)) := aHq (aJt hg hm (dC ha (dC hb gG hs2) hs3) hs hs2) (by
 rintro σ H Rq ⟨A, st, ds, rs, hd, q⟩
 obtain ⟨x, hx, h2⟩ := R.ok_of hd
 obtain ⟨y, hy, h5⟩ := R.ok_of h2
 obtain ⟨i, rfl, h6⟩ := rU h5
 obtain ⟨j, rfl, h3⟩ := rU h6
 obtain ⟨c, h4⟩ := aJ h3
 rw [jO] at c
 cases h4
 exact ⟨A, st, _, rs, hx, fun v H1 s1 r1 => ⟨A, st, _, rs.mono s1, hy, fun u H2 s2 r2 => ⟨i, j, by rw [r1.int, r2.int], ⟨by omega, by omega, by omega, by omega⟩, q _ H2 (s1.trans s2) aNn⟩⟩⟩)
end
theorem aBq {K : Frag}      (w : Own B H) (r : bA K (hide B H) ds vs) : RS K B [] H (ds.map (fun d => some (Sl.v d)) ++ List.replicate (N.length - ds.length) none) (L2.start N vs) := by
 have hl := r.length
 have nov : ∀ (i : Nat) (s : Sl), (ds.map (fun d => some (Sl.v d)) ++ List.replicate (N.length - ds.length) none)[i]? = some (some s) -> ∃ d, ds[i]? = some d /\ s = .v d := fun i s e => by
  by_cases hi : i < ds.length
  ·rw [List.getElem?_append_left (by simpa using hi), List.getElem?_map, List.getElem?_eq_getElem hi] at e
   simp at e
   exact ⟨ds[i], List.getElem?_eq_getElem hi, e.symm⟩
  ·rw [List.getElem?_append_right (by simpa using hi), List.getElem?_replicate] at e
   split at e <;> simp at e
 refine ⟨by unfold L2.start; simp [hl], by rw [nil_append]; exact w, fun a ha => absurd ha (by simp), fun i d e => ?_, fun i kk xs e => ?_⟩
 ·obtain ⟨d', e1, e2⟩ := nov i _ e
  cases e2
  obtain ⟨v, hv, rv⟩ := r.get e1
  refine ⟨v, ?_, by rw [nil_append]; exact rv⟩
  unfold L2.start
  have hi : i < vs.length := (List.getElem?_eq_some_iff.mp hv).1
  rw [List.getElem?_append_left (by simpa using hi), List.getElem?_map, hv]
  rfl
 ·obtain ⟨d', e1, e2⟩ := nov i _ e
  cases e2
theorem aNp (ds : List D) (d : D) (h : fV np n bd ds = .ok d) : ds.length = np := (aJ h).1
end Pu
namespace Pu
open PySem PySem.Spec PyProof.Rows L2
structure DefOk (P : Program) (w : World) (K : Frag) (mg : Str -> Option Value) (base : Heap) (x : Str) (k np : Nat) (p : List D -> R D) : Prop where
 ex : ∃ (fa : Addr) (fd : FuncData) (ps : List Str), FnOk P w K mg base CX0 k fa fd ps (spI K np p) /\ mg x = some (.ref fa) /\ keepIn K (.ref fa) = true /\ Binds K fd ps []
 len : ∀ ds d, p ds = .ok d -> ds.length = np
theorem DefOk.of {K : Frag}    {k : Nat}     (h : FnOk P w K mg base CX0 k fa fd ps (spI K np p)) (m : mg x = some (.ref fa))
  (kp : keepIn K (.ref fa) = true) (b : Binds K fd ps []) (l : ∀ ds d, p ds = .ok d -> ds.length = np) : DefOk P w K mg base x k np p := ⟨⟨fa, fd, ps, h, m, kp, b⟩, l⟩
section
variable {X : Cx} {B : List Addr} {a b e : Expr} {f g : Ex} {pos : Pos}
theorem aX {k : Nat}     (h : DefOk X.prog X.w X.K X.mg X.base x k np p) (hr : Room j X.A) (hk : k <= j) (ha : PA X (e :: es) (tA X.K B r)) (hg : Gl X x := by rfl) (hdb : (x == ("__debug__" : Str)) = false := by decide)
  (he : starEach (e :: es) X.env = (false, eval e X.env) :: starEach es X.env := by rfl) (hpl : (backTo pos (starEach es X.env)).any (·.1) = false := by rfl) : PE X (.Call (.Name x p0) (e :: es) [] pos) (tI X.K B (bM p r)) := by
 obtain ⟨fa, fd, ps, F, m, kp, bd⟩ := h.ex
 exact aTi F (hr.mono hk) m kp bd h.len ha hg hdb he hpl
theorem aTp {K : Frag}  {a : Addr} {ns : List Int}  {E : XK} (hS : SqL K H a (ns.map V.int)) (h : p [.lst (ns.map D.int)] = .ok (.bl true)) : spI K 1 p [.ref a] H (fun v _ => v = .bl true) E := by
 refine ⟨[], [.lst (ns.map D.int)], .bl true, fun b hb => absurd hb (by simp), ?_, rfl, h, fun v H' _ r => bK.mp r⟩
 rw [wW]
 refine .cons (bG.mpr ⟨a, _, rfl, hS, ?_⟩) .nil
 clear hS h
 induction ns with
 | nil => exact .nil
 | cons n ns ih => exact .cons (aW.mpr rfl) ih
theorem gF (hm : X.mg "len" = none) (ha : PE X a (tP X.K B f)) (hg : Gl X "len" := by rfl) (hs : starEach [a] X.env = (false, eval a X.env) :: starEach [] X.env := by rfl) : PE X (.Call (.Name "len" p0) [a] [] pos) (tI X.K B (e1 eE f)) := by
 refine cW (pU (aDz.or (aE0.or aKw)) hg hm PySem.boot_len (dC ha gG hs) (he := hs)) ?_
 rintro σ H Q ⟨A, st, d, rs, hd, q⟩
 obtain ⟨x, hx, h2⟩ := R.ok_of hd
 refine ⟨A, st, x, rs, hx, fun v H1 s1 r1 => ?_⟩
 cases x <;> first | (cases h2; done) | skip
 ·obtain ⟨c, h3⟩ := aJ h2
  cases h3
  exact .inr (.inl ⟨_, by rw [r1.str], by rw [str_len]; exact lim c, by rw [str_len]; exact q _ H1 s1 (aW.mpr rfl)⟩)
 ·cases h2
  obtain ⟨l, vs, e, h3, r3⟩ := r1.tup
  exact .inl ⟨l, vs, by rw [e], .inr h3, by rw [r3.length]; exact q _ H1 s1 (aW.mpr rfl)⟩
 ·cases h2
  obtain ⟨l, vs, e, h3, r3⟩ := r1.lst
  exact .inl ⟨l, vs, by rw [e], .inl h3, by rw [r3.length]; exact q _ H1 s1 (aW.mpr rfl)⟩
 ·rename_i t ks ds
  cases t <;> first | (cases h2; done) | skip
  cases h2
  obtain ⟨a, kvs, e, h3, h4⟩ := aQf r1
  exact .inr (.inr ⟨a, kvs, by rw [e], h3, by rw [h4]; exact q _ H1 s1 (aW.mpr rfl)⟩)
theorem aEm : PO X none (tO X.K B wC) := aNf aPh (by
 rintro σ H Q ⟨A, st, o, rs, ho, q⟩
 cases ho
 exact q H (aM.refl _))
theorem aEn (h : PE X e (tP X.K B f)) : PO X (some e) (tO X.K B (wD f)) := aNf (aPi h) (by
 rintro σ H Q ⟨A, st, o, rs, ho, q⟩
 obtain ⟨x, hx, h2⟩ := R.ok_of ho
 obtain ⟨i, rfl, h3⟩ := rU h2
 cases h3
 exact ⟨A, st, _, rs, hx, fun v H1 s1 r1 => ⟨i, r1.int, q H1 s1⟩⟩)
theorem aG2 {α : Type} (x : List α) : ∀ (k a : Nat), ((List.range k).map (a + ·)).filterMap (x[·]?) = (x.drop a).take k
 | 0, a => by simp
 | k + 1, a => by
  rw [List.range_succ_eq_map, map_cons, List.filterMap_cons, List.map_map]
  have e : ((fun b => a + b) ∘ Nat.succ) = fun b => (a + 1) + b := by funext b; simp only [Function.comp_apply]; omega
  rw [e]
  have ih := aG2 x k (a + 1)
  rw [ih]
  by_cases h : a < x.length
  ·rw [Nat.add_zero, List.getElem?_eq_getElem h]
   simp only [drop_eq_getElem_cons h, take_succ_cons]
  ·rw [Nat.add_zero, List.getElem?_eq_none (by omega)]
   simp only [List.drop_eq_nil_of_le (by omega : x.length <= a), List.drop_eq_nil_of_le (by omega : x.length <= a + 1), List.take_nil]
theorem aJ5 (n d : Nat) (o : Option Int) : (match o with | none => (d : Int) | some i => if (1 : Int) > 0 then max 0 (min (if i < 0 then i + (n : Int) else i) (n : Int)) else max (-1) (min (if i < 0 then i + (n : Int) else i) ((n : Int) - 1))) = ((sIx n d o : Nat) : Int) := by
 cases o with
 | none => rfl
 | some i =>
  show (if (1 : Int) > 0 then _ else _) = (((if i < 0 then (i + (n : Int)).toNat else min i.toNat n) : Nat) : Int)
  rw [if_pos (by decide)]
  by_cases h : i < 0
  ·rw [if_pos h, if_pos h]; omega
  ·rw [if_neg h, if_neg h]; omega
theorem aNq (lo hi : Option Int) (n : Nat) : Builtin.Str.strSliceIndices lo hi 1 n = (List.range (sIx n n hi - sIx n 0 lo)).map (sIx n 0 lo + ·) := by
 unfold Builtin.Str.strSliceIndices
 simp only [show (1 : Int) > 0 by decide, if_true]
 have e1 := aJ5 n 0 lo
 have e2 := aJ5 n n hi
 simp only [show (1 : Int) > 0 by decide, if_true] at e1 e2
 rw [show ((0 : Nat) : Int) = 0 from rfl] at e1
 refine Eq.trans (congrArg (fun z => sliceRange z _ 1) (show _ = ((sIx n 0 lo : Nat) : Int) from e1)) (Eq.trans (congrArg (fun z => sliceRange _ z 1) (show _ = ((sIx n n hi : Nat) : Int) from e2)) ?_)
 unfold sliceRange
 simp only [show (1 : Int) > 0 by decide, if_true]
 have hc : (if ((sIx n 0 lo : Nat) : Int) < ((sIx n n hi : Nat) : Int) then (((sIx n n hi : Nat) : Int) - ((sIx n 0 lo : Nat) : Int) + 1 - 1) / 1 else 0).toNat = sIx n n hi - sIx n 0 lo := by
  by_cases h : ((sIx n 0 lo : Nat) : Int) < ((sIx n n hi : Nat) : Int)
  ·rw [if_pos h, Int.ediv_one]; omega
  ·rw [if_neg h]; omega
 rw [hc]
 refine List.map_congr_left fun k _ => ?_
 omega
theorem aQh (n d : Nat) (hd : d <= n) (o : Option Int) : sIx n d o <= n := by
 cases o with
 | none => exact hd
 | some v =>
  show (if v < 0 then (v + (n : Int)).toNat else min v.toNat n) <= n
  by_cases hv : v < 0
  ·rw [if_pos hv]; omega
  ·rw [if_neg hv]; omega
theorem aKx (x : List Nat) (lo hi : Option Int) : Txt.slice ⟨x.toArray⟩ lo hi = ⟨(cut x lo hi).toArray⟩ := by
 unfold Txt.slice cut
 rw [str_len, aNq, length_map, length_range]
 have h1 := aQh x.length x.length (Nat.le_refl _) hi
 by_cases h : sIx x.length x.length hi - sIx x.length 0 lo = x.length
 ·have e0 : sIx x.length 0 lo = 0 \/ x.length = 0 := by omega
  rw [if_pos (by simp [h]), h]
  rcases e0 with e0 | e0
  ·rw [e0, drop_zero, List.take_length]
  ·rw [List.length_eq_zero_iff.mp e0]; simp
 ·rw [if_neg (by simp [h])]
  have e : (fun (i : Nat) => (⟨x.toArray⟩ : Str).cps[i]?) = fun i => x[i]? := by funext i; simp
  rw [e, aG2]
def aZ8 : V -> Option Int -> Option Int -> Hp -> VK -> Prop := fun x lo hi H Q => ∃ z : List Nat, x = .str ⟨z.toArray⟩ /\ z.length <= sizeLine /\ Q (.str ⟨(cut z lo hi).toArray⟩) H
theorem aTq : SlR X aZ8 := by
 intro pins s σ H x v vl vu lo hi sl Q I rx hs pl pu h
 obtain ⟨z, rfl, hz, q⟩ := h
 obtain ⟨t, rfl⟩ := rx
 refine ⟨"str", _, PySem.F.slot_str_getitem.lookup, typeIs_str _ _ _, ?_⟩
 have hl : (Txt.slice ⟨z.toArray⟩ lo hi).length <= sizeLine := Nat.le_trans (Txt.slice_le _ _ _) (by rw [str_len]; exact hz)
 have fin : ∀ t' k, EP X pins σ Q (.str (Txt.slice ⟨z.toArray⟩ lo hi) t') { s with toks := k } := fun t' k => ⟨.str ⟨(cut z lo hi).toArray⟩, H, I.tok k, ⟨t', by rw [aKx]⟩, q⟩
 cases pl with
 | none =>
  cases pu with
  | none => exact wpAny_getItem_str_slice (l := none) (u := none) (st := none) hs rfl (post_val_or_str ⟨hl, fin⟩)
  | int j uj => exact wpAny_getItem_str_slice (l := none) (u := some (j, uj)) (st := none) hs rfl (post_val_or_str ⟨hl, fin⟩)
 | int i ui =>
  cases pu with
  | none => exact wpAny_getItem_str_slice (l := some (i, ui)) (u := none) (st := none) hs rfl (post_val_or_str ⟨hl, fin⟩)
  | int j uj => exact wpAny_getItem_str_slice (l := some (i, ui)) (u := some (j, uj)) (st := none) hs rfl (post_val_or_str ⟨hl, fin⟩)
theorem aNr {K : Frag}    (lo hi : Option Int) (r : bA K H ds vs) : bA K H (cut ds lo hi) (aK0 vs lo hi) := by
 unfold cut aK0
 rw [r.length]
 exact (r.drop _).take _
theorem aQi {lo hi : Option Expr} {l u : ExO}  (ha : PE X a (tP X.K B f)) (hl : PO X lo (tO X.K B l)) (hu : PO X hi (tO X.K B u)) : PE X (.Subscript a (.Slice lo hi none p2) pos) (tI X.K B (eSl f l u)) := by
 refine cW (aM0 (aPk.or aTq) ha hl hu) ?_
 rintro σ H Q ⟨A, st, d, rs, hd, q⟩
 obtain ⟨x, hx, h2⟩ := R.ok_of hd
 obtain ⟨l', hl', h3⟩ := R.ok_of h2
 obtain ⟨u', hu', h4⟩ := R.ok_of h3
 refine ⟨A, st, x, rs, hx, fun v H1 s1 r1 => ⟨A, st, l', rs.mono s1, hl', fun H2 s2 => ⟨A, st, u', rs.mono (s1.trans s2), hu', fun H3 s3 => ?_⟩⟩⟩
 have r3 := r1.mono (s2.trans s3)
 cases x <;> first | (cases h4; done) | skip
 ·obtain ⟨c, h5⟩ := aJ h4
  cases h5
  exact .inr ⟨_, r3.str, lim c, q _ H3 (s1.trans (s2.trans s3)) (aO.mpr rfl)⟩
 ·cases h4
  obtain ⟨p, vs, e, h6, r6⟩ := r3.lst
  refine .inl ⟨p, vs, e, h6, fun n hn => q _ _ (s1.trans (s2.trans (s3.trans (dB hn)))) ?_⟩
  exact gY (rs.own.mono (s1.trans (s2.trans s3))) hn (aNr _ _ r6)
end
end Pu
namespace Pu
open PySem PySem.Spec PyProof.Rows L2
def clo (cells : List (Str × Addr)) : List (Str × NameKind) -> List (Str × Addr) -> List (Str × Addr)
 | [], acc => acc
 | (n, k) :: r, acc => if k == .free then clo cells r ((n, (cells.lookup n).getD 0) :: acc) else clo cells r acc
theorem vP {env : Env} : ∀ (names : List (Str × NameKind)) (acc : List (Str × Addr)), (∀ y ∈ names, y.2 = .free -> ∃ c, env.cells.lookup y.1 = some c) ->
  (forIn names acc fun x cs => if x.2 == .free then (do let c <- cellOf env x.1; pure (ForInStep.yield ((x.1, c) :: cs))) else pure (ForInStep.yield cs) : Sem (List (Str × Addr))) = pure (clo env.cells names acc)
 | [], acc, _ => by rw [forIn_nil]; rfl
 | (n, k) :: r, acc, h => by
  rw [forIn_cons]
  unfold clo
  by_cases hk : k = .free
  ·subst hk
   obtain ⟨c, e⟩ := h (n, .free) mem_cons_self rfl
   have e2 : cellOf env n = pure c := by unfold cellOf; rw [e]
   simp only [beq_self_eq_true, if_true, e2, e, getD_some]
   show (forIn r ((n, c) :: acc) _ : Sem (List (Str × Addr))) = _
   exact vP r _ fun y hy => h y (mem_cons_of_mem _ hy)
  ·have hb : (k == NameKind.free) = false := by simpa using hk
   simp only [hb, Bool.false_eq_true, if_false]
   show (forIn r acc _ : Sem (List (Str × Addr))) = _
   exact vP r _ fun y hy => h y (mem_cons_of_mem _ hy)
theorem aCj {scope : Scope}  (h : ∀ y ∈ scope.names, y.2 = .free -> ∃ c, env.cells.lookup y.1 = some c) : closureFor scope env = pure (clo env.cells scope.names []) := by
 have q := vP (env := env) scope.names [] h
 unfold closureFor
 rw [<- q]
 simp only [pure_bind, bind_pure]
theorem aEo {cells : List (Str × Addr)} : ∀ (names : List (Str × NameKind)) (acc : List (Str × Addr)) (x : Str) (c : Addr), (∀ y ∈ names, y.2 = .free -> ∃ c, cells.lookup y.1 = some c) -> (x, c) ∈ clo cells names acc -> ((x, NameKind.free) ∈ names /\ cells.lookup x = some c) \/ (x, c) ∈ acc
 | [], acc, x, c, _, h => .inr h
 | (n, k) :: r, acc, x, c, hn, h => by
  unfold clo at h
  have hr : ∀ y ∈ r, y.2 = .free -> ∃ c, cells.lookup y.1 = some c := fun y hy => hn y (mem_cons_of_mem _ hy)
  by_cases hk : k = .free
  ·subst hk
   rw [if_pos (by simp)] at h
   obtain ⟨c', e⟩ := hn (n, .free) mem_cons_self rfl
   rcases aEo r _ x c hr h with ⟨h1, h2⟩ | h1
   ·exact .inl ⟨mem_cons_of_mem _ h1, h2⟩
   ·rcases List.mem_cons.mp h1 with h1 | h1
    ·cases h1
     refine .inl ⟨mem_cons_self, ?_⟩
     have e' : cells.lookup n = some c' := e
     rw [e']; rfl
    ·exact .inr h1
  ·rw [if_neg (by simpa using hk)] at h
   rcases aEo r _ x c hr h with ⟨h1, h2⟩ | h1
   ·exact .inl ⟨mem_cons_of_mem _ h1, h2⟩
   ·exact .inr h1
theorem aEp {cells : List (Str × Addr)} : ∀ (names : List (Str × NameKind)) (acc : List (Str × Addr)) (x : Str), ((x, NameKind.free) ∈ names \/ ∃ c, (x, c) ∈ acc) -> ∃ c, (x, c) ∈ clo cells names acc
 | [], acc, x, h => by
  rcases h with h | h
  ·cases h
  ·exact h
 | (n, k) :: r, acc, x, h => by
  unfold clo
  by_cases hk : k = .free
  ·subst hk
   rw [if_pos (by simp)]
   refine aEp r _ x ?_
   rcases h with h | ⟨c, h⟩
   ·rcases List.mem_cons.mp h with h | h
    ·cases h; exact .inr ⟨_, mem_cons_self⟩
    ·exact .inl h
   ·exact .inr ⟨c, mem_cons_of_mem _ h⟩
  ·rw [if_neg (by simpa using hk)]
   refine aEp r _ x ?_
   rcases h with h | h
   ·rcases List.mem_cons.mp h with h | h
    ·cases h; exact absurd rfl hk
    ·exact .inl h
   ·exact .inr h
theorem pM {α : Type} : ∀ {l : List (Str × α)} {x : Str} {c : α}, (x, c) ∈ l -> ∃ c', l.lookup x = some c'
 | (n, v) :: r, x, c, h => by
  rw [lookup_cons]
  cases hb : x == n with
  | true => exact ⟨v, rfl⟩
  | false =>
   rcases List.mem_cons.mp h with h | h
   ·cases h; simp at hb
   ·exact pM h
theorem jT {env : Env} : ∀ (names : List (Str × NameKind)) (x : Str), (names.map fun (n, k) => if (k == NameKind.free && env.scope.kind == .function && env.kindOf n == some .cell) then (n, NameKind.cell) else (n, k)).lookup x =
  (names.lookup x).map fun k => if (k == NameKind.free && env.scope.kind == .function && env.kindOf x == some .cell) then NameKind.cell else k
 | [], _ => rfl
 | (n, k) :: r, x => by
  have ih := @jT env r x
  rw [map_cons, lookup_cons]
  show List.lookup x ((if (k == NameKind.free && env.scope.kind == .function && env.kindOf n == some .cell) = true then (n, NameKind.cell) else (n, k)) :: _) = _
  cases hx : x == n with
  | true =>
   have e : x = n := beq_iff_eq.mp hx
   subst e
   by_cases hc : (k == NameKind.free && env.scope.kind == .function && env.kindOf x == some .cell) = true
   ·rw [if_pos hc, lookup_cons, lookup_cons, hx]; simp only [map_some]; rw [if_pos hc]
   ·rw [if_neg hc, lookup_cons, lookup_cons, hx]; simp only [map_some]; rw [if_neg hc]
  | false =>
   by_cases hc : (k == NameKind.free && env.scope.kind == .function && env.kindOf n == some .cell) = true
   ·rw [if_pos hc, lookup_cons, lookup_cons, hx]; exact ih
   ·rw [if_neg hc, lookup_cons, lookup_cons, hx]; exact ih
theorem lU : ∀ (names : List (Str × NameKind)) (n : Nat) (acc : List (Str × Addr)), cellsFrom n names acc = cellsFrom n names [] ++ acc
 | [], _, _ => rfl
 | (x, k) :: r, n, acc => by
  unfold cellsFrom
  split
  ·rw [lU r (n + 1) ((x, n) :: acc), lU r (n + 1) [(x, n)], List.append_assoc]; rfl
  ·exact lU r n acc
theorem rC : ∀ (names : List (Str × NameKind)) (n : Nat) (acc : List (Str × Addr)) (x : Str) (c : Addr), (x, c) ∈ cellsFrom n names acc -> (x, c) ∈ acc \/ (x, NameKind.cell) ∈ names
 | [], _, _, _, _, h => .inl h
 | (y, k) :: r, n, acc, x, c, h => by
  unfold cellsFrom at h
  split at h
  ·rename_i hk
   rcases rC r _ _ x c h with z | z
   ·rcases List.mem_cons.mp z with z | z
    ·cases z; exact .inr (by rw [show k = NameKind.cell from by simpa using hk]; exact mem_cons_self)
    ·exact .inl z
   ·exact .inr (mem_cons_of_mem _ z)
  ·rcases rC r _ _ x c h with z | z
   ·exact .inl z
   ·exact .inr (mem_cons_of_mem _ z)
theorem lV : ∀ (names : List (Str × NameKind)) (n : Nat) (acc : List (Str × Addr)) (x : Str), ((x, NameKind.cell) ∈ names \/ ∃ c, (x, c) ∈ acc) -> ∃ c, (x, c) ∈ cellsFrom n names acc
 | [], _, _, x, h => h.elim (fun z => nomatch z) id
 | (y, k) :: r, n, acc, x, h => by
  unfold cellsFrom
  split
  ·refine lV r _ _ x ?_
   rcases h with h | ⟨c, h⟩
   ·rcases List.mem_cons.mp h with h | h
    ·cases h; exact .inr ⟨n, mem_cons_self⟩
    ·exact .inl h
   ·exact .inr ⟨c, mem_cons_of_mem _ h⟩
  ·rename_i hk
   refine lV r _ _ x ?_
   rcases h with h | h
   ·rcases List.mem_cons.mp h with h | h
    ·cases h; exact absurd rfl hk
    ·exact .inl h
   ·exact .inr h
theorem aBr {α : Type} (x : Str) : ∀ (l r : List (Str × α)), (l ++ r).lookup x = (l.lookup x).or (r.lookup x)
 | [], r => by simp
 | (y, v) :: l, r => by
  rw [cons_append, lookup_cons, lookup_cons]
  cases hb : x == y with
  | true => rfl
  | false => exact aBr x l r
theorem lW {α : Type} : ∀ {l : List (Str × α)} {x : Str} {v : α}, (l.map (·.1)).Nodup -> (x, v) ∈ l -> l.lookup x = some v
 | (y, w) :: l, x, v, nd, h => by
  rw [map_cons, List.nodup_cons] at nd
  rw [lookup_cons]
  rcases List.mem_cons.mp h with h | h
  ·cases h; simp
  ·have hne : (x == y) = false := by
    rw [beq_eq_false_iff_ne]
    intro z
    exact nd.1 (List.mem_map.mpr ⟨(x, v), h, z⟩)
   rw [hne]
   exact lW nd.2 h
theorem aDg {A : Around}  {s : Shared} {scope : Scope} {gl : Addr} {cl : List (Str × Addr)}   {Q : Env -> Shared -> Prop}
  (hQ : ∀ h', h'.Ns s.heap.objs.size (fun _ => none) -> (∀ b o, s.heap.get? b = some o -> h'.get? b = some o) -> CellsOk h' (s.heap.objs.size + 1) (cellsFrom (s.heap.objs.size + 1) scope.names []) ->
   Q { scope := scope, locals := s.heap.objs.size, globals := gl, cells := cellsFrom (s.heap.objs.size + 1) scope.names cl, qual := qual, func := none, code := env.code, frame := env.frame, builtins := env.builtins } { s with heap := h' }) :
  wpAny M A (newFunctionEnv scope gl cl [] qual none .none (some env)) Q E s := by
 simp only [newFunctionEnv, Option.isSome_some, if_true]
 refine wpAny_bind (wpAny_alloc (wpAny_bind (wpAny_layCells _ (fun name kind cells => by cases hkc : kind == NameKind.cell <;> simp [hkc]) _ _ _ _ ?_)))
 rw [forIn_nil]
 refine wpAny_bind (wpAny_pure (wpAny_pure ?_))
 have ok := cellsFrom_ok scope.names (s.heap.push { cls := .type "dict", data := .dict #[] }) (s.heap.objs.size + 1) [] ⟨fun _ _ hm => (nomatch hm), List.Pairwise.nil⟩ (by rw [Heap.size_push]; exact Nat.le_refl _)
 rw [Heap.size_push] at ok
 have e : ({ s with heap := s.heap.push { cls := .type "dict", data := .dict #[] } } : Shared).heap.objs.size = s.heap.objs.size + 1 := Heap.size_push ..
 rw [e]
 exact hQ _ ((Heap.Ns.new s.heap (.type "dict")).keeps (pushCells_keeps _ _)) (fun b o q => pushCells_keeps _ _ b o (Heap.get?_push_of_some _ q)) ok
structure CScope (X : Cx) (scope : Scope) (is : List Nat) : Prop where
 kind : scope.kind = .function
 nd : (scope.names.map (·.1)).Nodup
 free : ∀ x ∈ scope.names, x.2 = .free -> X.env.kindOf x.1 = some .cell \/ X.env.kindOf x.1 = some .free
 own : ∀ (i : Nat) x, X.N[i]? = some x -> (scope.names.lookup x = some .local \/ scope.names.lookup x = some .cell) -> i ∈ is
section
variable {X : Cx} {scope : Scope} {is : List Nat}
theorem CScope.names (S : CScope X scope is) : ∀ x ∈ scope.names, x.2 = .local -> scope.names.lookup x.1 = some .local := fun x hx e => lW S.nd (by rw [<- e]; exact hx)
def bR (X : Cx) (scope : Scope) (C : Addr) (s₀ : Shared) (H₀ : Hp) (fp : List Addr) : Cx :=
 { X with s₀ := s₀, H₀ := H₀, env := compEnvC scope (cellsFrom (C + 1) scope.names (clo X.env.cells scope.names [])) C X.env, outer := X.stack, stack := X.stack, ex := fp, fn := fun x => scope.names.lookup x == some .cell, pn := [], xe := fun _ _ => False, calm := true }
theorem CScope.cells (S : CScope X scope is) (ok : X.Ok) : ∀ y ∈ scope.names, y.2 = .free -> ∃ c, X.env.cells.lookup y.1 = some c := fun y hy hf => ok.has y.1 (S.free y hy hf)
theorem CScope.lk (S : CScope X scope is) (ok : X.Ok) {n : Nat} {x : Str} {c : Addr} (h : (cellsFrom n scope.names (clo X.env.cells scope.names [])).lookup x = some c) :
  ((cellsFrom n scope.names []).lookup x = some c /\ scope.names.lookup x = some .cell) \/ (scope.names.lookup x = some .free /\ X.env.cells.lookup x = some c) := by
 rw [lU, aBr] at h
 cases e : (cellsFrom n scope.names []).lookup x with
 | some c' =>
  rw [e] at h
  cases h
  rcases rC _ _ _ _ _ (PySem.mem_of_lookup e) with z | z
  ·cases z
  ·exact .inl ⟨rfl, lW S.nd z⟩
 | none =>
  rw [e] at h
  have h : (clo X.env.cells scope.names []).lookup x = some c := h
  rcases aEo scope.names [] x c (S.cells ok) (PySem.mem_of_lookup h) with ⟨h1, h2⟩ | h2
  ·exact .inr ⟨lW S.nd h1, h2⟩
  ·cases h2
def aCk (is : List Nat) (σ : LSt) : LSt := is.foldl (fun τ i => τ.set i none) σ
theorem aBs (is : List Nat) : ∀ σ : LSt, (aCk is σ).length = σ.length := by
 induction is with
 | nil => exact fun _ => rfl
 | cons i is ih => intro σ; show (aCk is (σ.set i none)).length = _; rw [ih, length_set]
theorem aNs (is : List Nat) : ∀ (σ : LSt) (j : Nat) (v : V), (aCk is σ)[j]? = some (some v) -> σ[j]? = some (some v) /\ j ∉ is := by
 induction is with
 | nil => exact fun σ j v h => ⟨h, by simp⟩
 | cons i is ih =>
  intro σ j v h
  obtain ⟨h1, h2⟩ := ih (σ.set i none) j v h
  rw [List.getElem?_set] at h1
  by_cases e : i = j
  ·subst e
   rw [if_pos rfl] at h1
   split at h1 <;> cases h1
  ·rw [if_neg e] at h1
   exact ⟨h1, fun z => (List.mem_cons.mp z).elim (fun z => e z.symm) h2⟩
theorem aBt {s : Shared} {fp : List Addr}  {t' : Nat} (S : CScope X scope is) (hc : X.calm = true) (I : Inv X pins σ H s) (hf : ∀ b ∈ fp, qP X pins H b) (hlt : ∀ b ∈ fp, b < s.heap.objs.size)
  (hn : h'.Ns s.heap.objs.size fun _ => none) (hk : ∀ b o, s.heap.get? b = some o -> h'.get? b = some o) (hcl : CellsOk h' (s.heap.objs.size + 1) (cellsFrom (s.heap.objs.size + 1) scope.names [])) :
  Inv (bR X scope s.heap.objs.size s H fp) [] (aCk is σ) H { s with heap := h', toks := t' } := by
 have lk := @CScope.lk X scope is S I.ok (s.heap.objs.size + 1)
 have nf : ∀ b ∈ fp, b ≠ s.heap.objs.size := fun b hb => Nat.ne_of_lt (hlt b hb)
 have cellLt : ∀ x c, X.env.cells.lookup x = some c -> c < s.heap.objs.size := fun x c e => by
  obtain ⟨v, q⟩ := I.cell x c e
  exact q.lt
 have ownGe : ∀ x c, (cellsFrom (s.heap.objs.size + 1) scope.names []).lookup x = some c -> s.heap.objs.size + 1 <= c := fun x c e => (hcl.empty x c (PySem.mem_of_lookup e)).2
 have has : ∀ x k, (k = .cell \/ k = .free) -> scope.names.lookup x = some k -> ∃ c, (cellsFrom (s.heap.objs.size + 1) scope.names (clo X.env.cells scope.names [])).lookup x = some c := fun x k hk e => by
  have hm := PySem.mem_of_lookup e
  rcases hk with rfl | rfl
  ·obtain ⟨c, q⟩ := lV scope.names (s.heap.objs.size + 1) (clo X.env.cells scope.names []) x (.inl hm)
   exact pM q
  ·obtain ⟨c, q⟩ := lV scope.names (s.heap.objs.size + 1) (clo X.env.cells scope.names []) x (.inr (aEp (cells := X.env.cells) scope.names [] x (.inl hm)))
   exact pM q
 have knd : ∀ x, (relabel scope X.env).names.lookup x = some .cell \/ (relabel scope X.env).names.lookup x = some .free -> scope.names.lookup x = some .cell \/ scope.names.lookup x = some .free := fun x hx => by
  unfold relabel at hx
  rw [jT] at hx
  cases e : scope.names.lookup x with
  | none => rw [e] at hx; rcases hx with hx | hx <;> cases hx
  | some k =>
   rw [e] at hx
   simp only [map_some] at hx
   by_cases hc : (k == NameKind.free && X.env.scope.kind == .function && X.env.kindOf x == some .cell) = true
   ·simp only [and_eq_true, beq_iff_eq] at hc
    exact .inr (by rw [hc.1.1])
   ·rw [if_neg hc] at hx; exact hx
 refine ⟨⟨I.ok.mod, ?_, I.ok.glob, I.ok.blt, Nat.le_refl _, fun x y c h1 h2 => ?_, fun x hx => ?_, fun x c hfn e => ?_, fun _ => I.ok.hd hc, I.ok.frames, .inl rfl, fun b hb => ⟨nf b hb, fun x c e z => ?_⟩, I.bs, ?_, fun b o e hb => ?_, fun b hb z => ?_, I.stack, I.stkFree⟩,
  rfl, I.bare, Un.kept hk, ⟨_, hn, fun i x v e1 e2 e3 => ?_⟩, fun x c e => ?_, I.hok.fresh (Nat.le_refl _), fun x c e => ?_, (fun p hp => absurd (show p ∈ ([] : List (Addr × Obj)) from hp) (by simp)), I.hok.kept hk, by rw [aBs]; exact I.len⟩
 ·show (relabel scope X.env).kind = .function
  exact S.kind
 ·rcases lk h1 with ⟨a1, _⟩ | ⟨_, a1⟩ <;> rcases lk h2 with ⟨a2, _⟩ | ⟨_, a2⟩
  ·exact name_of_addr hcl.apart (PySem.mem_of_lookup a1) (PySem.mem_of_lookup a2)
  ·exact absurd (Nat.lt_of_lt_of_le (cellLt y c a2) (Nat.le_of_succ_le (ownGe x c a1))) (Nat.lt_irrefl _)
  ·exact absurd (Nat.lt_of_lt_of_le (cellLt x c a1) (Nat.le_of_succ_le (ownGe y c a2))) (Nat.lt_irrefl _)
  ·exact I.ok.inj x y c a1 a2
 ·rcases knd x hx with e | e
  ·exact has x _ (.inl rfl) e
  ·exact has x _ (.inr rfl) e
 ·have hfn : scope.names.lookup x = some .cell := beq_iff_eq.mp hfn
  rcases lk e with ⟨a1, _⟩ | ⟨a1, _⟩
  ·have := ownGe x c a1
   show s.heap.objs.size <= c
   omega
  ·rw [hfn] at a1; cases a1
 ·rcases lk e with ⟨a1, _⟩ | ⟨_, a1⟩
  ·have h2 := hlt b hb
   rw [<- z] at h2
   exact absurd (Nat.lt_of_lt_of_le h2 (Nat.le_of_succ_le (ownGe x c a1))) (Nat.lt_irrefl _)
  ·exact (hf b hb).2.2.2.2.1 x c a1 z
 ·exact Nat.le_trans I.ok.bsz I.sz
 ·rcases (hf b hb).2.2.2.1 with z | z
  ·exact I.ok.noex b o e z
  ·exact absurd (Nat.lt_of_lt_of_le (Heap.lt_size e) (Nat.le_trans I.ok.bsz z)) (Nat.lt_irrefl _)
 ·rcases List.mem_cons.mp (I.stkSub b z) with z | z
  ·exact (hf b hb).2.1 z
  ·exact (hf b hb).2.2.1 z
 ·obtain ⟨e2, hni⟩ := aNs is σ i v e2
  have e3 : (relabel scope X.env).names.lookup x = some .local \/ (relabel scope X.env).names.lookup x = some .cell \/ (relabel scope X.env).names.lookup x = some .free := e3
  have hfr : scope.names.lookup x = some .free := by
   have e4 := e3
   unfold relabel at e4
   rw [jT] at e4
   cases e : scope.names.lookup x with
   | none => rw [e] at e4; rcases e4 with e4 | e4 | e4 <;> cases e4
   | some k =>
    rw [e] at e4
    simp only [map_some] at e4
    by_cases hc : (k == NameKind.free && X.env.scope.kind == .function && X.env.kindOf x == some .cell) = true
    ·simp only [and_eq_true, beq_iff_eq] at hc
     rw [hc.1.1]
    ·rw [if_neg hc] at e4
     rcases e4 with e4 | e4 | e4
     ·exact absurd (S.own i x e1 (.inl (by rw [e, e4]))) hni
     ·exact absurd (S.own i x e1 (.inr (by rw [e, e4]))) hni
     ·exact e4
  have hrel : (relabel scope X.env).names.lookup x = some .cell \/ (relabel scope X.env).names.lookup x = some .free := by
   rcases e3 with e3 | e3 | e3
   ·unfold relabel at e3
    rw [jT, hfr] at e3
    simp only [map_some] at e3
    split at e3 <;> cases e3
   ·exact .inl e3
   ·exact .inr e3
  have hvis := S.free _ (PySem.mem_of_lookup hfr) rfl
  obtain ⟨m, hm, hl⟩ := I.loc
  obtain ⟨u, ru, lu⟩ := hl i x v e1 e2 (.inr hvis)
  refine ⟨u, ru, .inr ⟨hrel, ?_⟩⟩
  rcases lu with ⟨k1, _⟩ | ⟨_, c, ec, zc⟩
  ·have k1 : X.env.kindOf x = some .local := k1
   rcases hvis with q | q <;> rw [k1] at q <;> cases q
  ·obtain ⟨c2, e5⟩ := has x _ (.inr rfl) hfr
   rcases lk e5 with ⟨_, a1⟩ | ⟨_, a1⟩
   ·rw [hfr] at a1; cases a1
   ·rw [ec] at a1
    cases a1
    exact ⟨c, e5, zc.keeps hk⟩
 ·rcases lk e with ⟨a1, _⟩ | ⟨_, a1⟩
  ·exact ⟨_, (hcl.empty x c (PySem.mem_of_lookup a1)).1⟩
  ·obtain ⟨v, q⟩ := I.cell x c a1
   exact ⟨v, q.keeps hk⟩
 ·rcases lk e with ⟨a1, _⟩ | ⟨_, a1⟩
  ·exact I.hok.fresh (by have := ownGe x c a1; omega)
  ·exact I.freeC x c a1
end
end Pu
namespace Pu
open PySem PySem.Spec PyProof.Rows L2
theorem rM (elt target iter : Expr) (scope : Scope) (pos : Pos) (it acc : Value) (env : Env) :
  compTurn (.ListComp elt [⟨target, iter, [], 0⟩] scope pos) 0 it acc env = (standAt iter.pos >>= fun _ => pyNext it >>= fun r => match r with
   | none => pure (.done .next)
   | some v => letOwnedTupleGo target it v >>= fun _ => assign target env v >>= fun _ =>
    (eval elt env >>= fun x => call (.builtin "list.append") [acc, x] >>= fun _ => again (.compLoop (.ListComp elt [⟨target, iter, [], 0⟩] scope pos) 0 it acc env))) := by
 unfold compTurn
 simp [forIn_nil]
 rfl
section
variable {X : Cx} {scope : Scope} {is : List Nat} {elt tg iter : Expr} {pos : Pos} {wi : TI} {g : TG} {te : TE} {tt : TT}
def tLC (is : List Nat) (wi : TI) (g : TG) (tt : TT) (te : TE) : TE := fun σ H Q => wi σ H fun J H1 => ∀ p, H1 p = none -> ∃ W : Nat -> Nat -> LSt -> List V -> Hp -> Prop, (∃ m, W 0 m (aCk is σ) [] (upd H1 p (.lst []))) /\
 ∀ i m τ vs H, W i m τ vs H -> H p = some (.lst vs) /\ ((J.stop i H /\ Q (.ref p) H) \/ (J.go i H /\ ∀ x H', J.yld i H x H' -> g x τ H' fun τ2 H2 => tt τ2 H2 fun k H3 =>
  if k = true then te τ2 H3 fun y H4 => H4 p = some (.lst vs) /\ vs.length < sizeLine /\ ∃ m', m' < m /\ W (i + 1) m' τ2 (vs ++ [y]) (upd H4 p (.lst (vs ++ [y]))) else ∃ m', m' < m /\ W (i + 1) m' τ2 vs H3))
theorem uJ {σ5 : LSt} {H5 : Hp} {s5 : Shared} {fp : List Addr}   (I : Inv X pins σ H s) (hf : ∀ b ∈ fp, qP X pins H b) (hC : s.heap.objs.size <= C) (J : Inv (bR X scope C s H fp) [] σ5 H5 s5)
  (hs : Heap.SameBut C s5.heap h') : Inv X pins σ H5 { s5 with heap := h' } := by
 have hfree : H5 C = none := J.free
 have ne : ∀ b o, s.heap.get? b = some o -> b ≠ C := fun b o e z => by
  have := Heap.lt_size e
  subst z
  exact absurd (Nat.lt_of_lt_of_le this hC) (Nat.lt_irrefl _)
 have u : Un (frs X.stack) fp H H5 s.heap h' := ⟨fun b o e n hb hx => hs.extBut b o (ne b o e) (J.base.keep b o e n hb hx), fun b o e n hb hx => by
   obtain ⟨sl, q⟩ := J.base.slot b o e n hb hx
   exact ⟨sl, hs.extBut b _ (ne b o e) q⟩, J.base.free, fun b o e hx => by
   obtain ⟨o', q⟩ := J.base.there b o e hx
   exact ⟨o', hs.extBut b _ (ne b o e) q⟩, J.base.tups, J.base.frzs, J.base.tbls⟩
 have hok : HOk X.prog X.w H5 h' := fun b o e => by
  refine (J.hok b o e).stay (fun c v hc q => hs.extBut c v ?_ q) (fun _ q => q) fun _ _ q => q
  rintro rfl
  rcases hc with z | z
  ·subst z; rw [hfree] at e; cases e
  ·rw [hfree] at z; cases z
 obtain ⟨hh, gg, dd, tt, os⟩ := s5
 have hos : os = s.os := J.os
 subst hos
 have fin := I.call (h' := h') (g' := gg) (d' := dd) (t' := tt) (ch := fp) u hok J.bare fun b hb => ⟨(hf b hb).2.2.2.1, (hf b hb).2.1, (hf b hb).2.2.2.2.1, (hf b hb).2.2.2.2.2⟩
 exact fin
theorem aDh {p : Addr}   {k : Sem α} {Q : α -> Shared -> Prop}  (he : PE Y elt te) (hx : ∀ e s', Y.xe e s' -> E e s') (I : Inv Y pins τ H s) (hw : te τ H fun y H4 => H4 p = some (.lst vs) /\ vs.length < sizeLine /\ ∀ s', Inv Y pins τ (upd H4 p (.lst (vs ++ [y]))) s' -> wpAny (model Y.prog Y.w) Y.A k Q E s') :
  wpAny (model Y.prog Y.w) Y.A (eval elt Y.env >>= fun x => call (.builtin "list.append") [.ref p, x] >>= fun _ => k) Q E s := by
 refine wpAny_bind (wpAny_mono (he pins s τ H _ I hw) (fun u s1 ⟨y, H4, I4, r4, hp, hz, q⟩ => ?_) hx)
 obtain ⟨z, its, n, r, hl, e⟩ := I4.lstM hp
 refine wpAny_bind (call_meets PySem.F.slot_list_append ⟨_, e, rfl⟩ PySem.F.entry_list_append (PySem.F.args_list_append_2 _ _) (PySem.list_append p its.toArray n u (by rw [List.size_toArray]; omega)) ⟨e, ?_⟩)
 refine q _ (I4.lset (its' := its ++ [u]) (t' := s1.toks) hp e (by simp) (r.append (.cons r4 .nil)) ?_)
 rw [length_append, length_singleton]
 omega
end
theorem aKy {env : Env} {g : TG}   {it p : Addr} {fp : List Addr}   {R : Result -> Shared -> Prop} {iterPos : Pos} {rest : Sem Fin}
  (T : Turn Y.prog Y.w Y.K tg J fp it tn) (hc : Y.calm = true) (hE : Y.xe = fun _ _ => False) (hg : PG Y tg g) (hq : (Code.compLoop e 0 (.ref it) (.ref p) Y.env).quiet = true)
  (hden : ∀ (s : Shared) (Q : Fin -> Shared -> Prop), wpAny (model Y.prog Y.w) Y.A (pyNext (.ref it) >>= fun r => match r with
    | none => pure (.done .next)
    | some v => letOwnedTupleGo tg (.ref it) v >>= fun _ => assign tg Y.env v >>= fun _ => rest) Q (fun _ _ => False) s ->
   wpAny (model Y.prog Y.w) (Y.A.under (.compLoop e 0 (.ref it) (.ref p) Y.env)) ((model Y.prog Y.w).den (.compLoop e 0 (.ref it) (.ref p) Y.env)) Q (fun _ _ => False) s)
  (hrest : ∀ (τ : LSt) (H : Hp) (s : Shared) (pins : List (Addr × Obj)) (vs : List V) (N : Hp -> List V -> Prop) (Q : Fin -> Shared -> Prop), Inv Y pins τ H s ->
   (tt τ H fun k H3 => if k = true then te τ H3 fun y H4 => H4 p = some (.lst vs) /\ vs.length < sizeLine /\ N (upd H4 p (.lst (vs ++ [y]))) (vs ++ [y]) else N H3 vs) ->
   (∀ s' H' ws, Inv Y pins τ H' s' -> N H' ws -> Q (.again (.compLoop e 0 (.ref it) (.ref p) Y.env)) s') -> wpAny (model Y.prog Y.w) Y.A rest Q (fun _ _ => False) s)
  (W : Nat -> Nat -> LSt -> List V -> Hp -> Prop) 
  (step : ∀ i m τ vs H, W i m τ vs H -> H p = some (.lst vs) /\ ((J.stop i H /\ Qe H) \/ (J.go i H /\ ∀ x H', J.yld i H x H' -> g x τ H' fun τ2 H2 => tt τ2 H2 fun k H3 =>
   if k = true then te τ2 H3 fun y H4 => H4 p = some (.lst vs) /\ vs.length < sizeLine /\ ∃ m', m' < m /\ W (i + 1) m' τ2 (vs ++ [y]) (upd H4 p (.lst (vs ++ [y]))) else ∃ m', m' < m /\ W (i + 1) m' τ2 vs H3)))
  (hR : ∀ τ H s, Inv Y [] τ H s -> Qe H -> R (.ok .next) s)      (I : Inv Y [] τ H s) (st : tn i s.heap) (fr : ∀ b ∈ fp, qP Y [] H b) (w : W i m τ vs H) :
  codeAny (model Y.prog Y.w) Y.A (.compLoop e 0 (.ref it) (.ref p) Y.env) R s := by
 have stat : ∀ {H' : Hp}, (∀ b ∈ fp, H' b = none) -> ∀ b ∈ fp, qP Y [] H' b := fun hn b hb => ⟨hn b hb, (fr b hb).2⟩
 refine codeAny_loop hq (fun n s' => ∃ i τ' vs' H', Inv Y [] τ' H' s' /\ tn i s'.heap /\ (∀ b ∈ fp, H' b = none) /\ W i n τ' vs' H') (fun n s3 hI => ?_) m ⟨i, τ, vs, H, I, st, fun b hb => (fr b hb).1, w⟩
 obtain ⟨i, τ3, vs3, H3, I3, st3, fr3, w3⟩ := hI
 refine wpAny_mono (hden s3 _ ?_) (fun _ _ q => q) (fun _ _ q => q.elim)
 obtain ⟨hp, hs⟩ := step i n τ3 vs3 H3 w3
 rcases hs with ⟨stop, qe⟩ | ⟨go, hs⟩
 ·refine wpAny_bind (thn (T.done Y rfl rfl rfl hc i [] s3 τ3 H3 (fun _ _ => False) I3 (stat fr3) st3 stop) fun r s4 ⟨hr, I4⟩ => ?_)
  subst hr
  exact wpAny_pure (hR τ3 H3 s4 I4 qe)
 ·refine wpAny_bind (thn (T.item Y rfl rfl rfl hc i [] s3 τ3 H3 (fun _ _ => False) I3 (stat fr3) st3 go) fun r s4 ⟨u, hr, h4⟩ => ?_)
  subst hr
  refine wpAny_bind (thn h4 fun _ s5 ⟨x, H5, I5, r5, y5, st5, fr5⟩ => ?_)
  have I5' := I5.pinned (stat fr5) (T.obj _ _ st5)
  have hg' := hg _ s5 τ3 H5 x u _ I5' r5 (hs x H5 y5)
  rw [hE] at hg'
  refine wpAny_bind (thn hg' fun _ s6 ⟨τ6, H6, I6, q6⟩ => ?_)
  refine hrest τ6 H6 s6 _ vs3 (fun H' ws => ∃ m', m' < n /\ W (i + 1) m' τ6 ws H') _ I6 q6 fun s7 H7 ws I7 ⟨m', hm, w7⟩ => ?_
  refine ⟨rfl, m', hm, i + 1, τ6, ws, H7, I7.unpinned, T.keep _ _ _ st5 fun b hb o e => (I7.pin (b, o) (List.mem_append_right _ (List.mem_append_right _ (kW hb e)))).1, fun b hb => ?_, w7⟩
  obtain ⟨o, e, d⟩ := T.obj _ _ st5 b hb
  exact (I7.pin (b, o) (List.mem_append_right _ (List.mem_append_right _ (kW hb e)))).2.1
end Pu
namespace Pu
open PySem PySem.Spec PyProof.Rows L2
section
variable {X : Cx} {scope : Scope} {is : List Nat} {elt tg iter c : Expr} {pos : Pos} {wi : TI} {g : TG} {te : TE} {tt : TT}
theorem uK {use : Option (Value -> Sem Unit)}   {pins : List (Addr × Obj)} {s : Shared}  {H : Hp} {Q : VK} {ifs : List Expr} {rest : Env -> Value -> Value -> Sem Fin} (S : CScope X scope is) (hc : X.calm = true) (hi : L2.PI X tg iter wi) (hg : ∀ C s₀ H₀ fp, PG (bR X scope C s₀ H₀ fp) tg g)
  (hquiet : ∀ it acc env, (Code.compLoop (.ListComp elt [⟨tg, iter, ifs, 0⟩] scope pos) 0 it acc env).quiet = true)
  (hden : ∀ C s₀ H₀ fp it p (s : Shared) (Q : Fin -> Shared -> Prop), wpAny (model X.prog X.w) X.A (pyNext (.ref it) >>= fun r => match r with
    | none => pure (.done .next)
    | some v => letOwnedTupleGo tg (.ref it) v >>= fun _ => assign tg (bR X scope C s₀ H₀ fp).env v >>= fun _ => rest (bR X scope C s₀ H₀ fp).env (.ref it) (.ref p)) Q (fun _ _ => False) s ->
   wpAny (model X.prog X.w) (X.A.under (.compLoop (.ListComp elt [⟨tg, iter, ifs, 0⟩] scope pos) 0 (.ref it) (.ref p) (bR X scope C s₀ H₀ fp).env)) ((model X.prog X.w).den (.compLoop (.ListComp elt [⟨tg, iter, ifs, 0⟩] scope pos) 0 (.ref it) (.ref p) (bR X scope C s₀ H₀ fp).env)) Q (fun _ _ => False) s)
  (hrest : ∀ C s₀ H₀ fp it p (τ : LSt) (H : Hp) (s : Shared) (pins : List (Addr × Obj)) (vs : List V) (N : Hp -> List V -> Prop) (Q : Fin -> Shared -> Prop), Inv (bR X scope C s₀ H₀ fp) pins τ H s ->
   (tt τ H fun k H3 => if k = true then te τ H3 fun y H4 => H4 p = some (.lst vs) /\ vs.length < sizeLine /\ N (upd H4 p (.lst (vs ++ [y]))) (vs ++ [y]) else N H3 vs) ->
   (∀ s' H' ws, Inv (bR X scope C s₀ H₀ fp) pins τ H' s' -> N H' ws -> Q (.again (.compLoop (.ListComp elt [⟨tg, iter, ifs, 0⟩] scope pos) 0 (.ref it) (.ref p) (bR X scope C s₀ H₀ fp).env)) s') ->
   wpAny (model X.prog X.w) X.A (rest (bR X scope C s₀ H₀ fp).env (.ref it) (.ref p)) Q (fun _ _ => False) s)
  (hs : ∀ x, foldedSetIterable iter X.env x = pure x) (I : Inv X pins σ H s) (h : tLC is wi g tt te σ H Q)
  (hfin : ∀ C p H5 s5 m5 s3 H3 fp τ, s3.heap.objs.size <= C -> Inv X pins σ H3 s3 -> (∀ b ∈ fp, qP X pins H3 b) -> Inv (bR X scope C s3 H3 fp) [] τ H5 s5 -> s5.heap.Ns C m5 -> Q (.ref p) H5 -> compPost (model X.prog X.w) X.A X.xe use Qf (.ref p) C (.ok .next) s5) :
  wpAny (model X.prog X.w) X.A (comprehension (.ListComp elt [⟨tg, iter, ifs, 0⟩] scope pos) scope X.env ppos (newList []) false (eval iter X.env) use) Qf X.xe s := by
 refine wpAny_comprehension_free (use := use) rfl hs (aCj (S.cells I.ok)) S.kind S.names ?_
 refine thn (hi pins s σ H _ I h) fun v s1 h1 => thn h1 fun itv s2 h2 => ?_
 obtain ⟨it, fp, tn, J, H2, e, I2, T, st2, f2, hW⟩ := h2
 subst e
 refine wpAny_newObj_type (aDg fun h₁ hns₁ hkp hcl₁ => ?_)
 have I3 : Inv X pins σ (upd H2 s2.heap.objs.size (.lst [])) { s2 with heap := s2.heap.push { cls := .type "list", data := .seq ([] : List Value).toArray } } := I2.lnew (t' := s2.toks) .nil (zero_le _)
 obtain ⟨W, ⟨m, w0⟩, step⟩ := hW s2.heap.objs.size I2.fresh
 have hob : ∀ b ∈ fp, b < s2.heap.objs.size := fun b hb => let ⟨o, e, _⟩ := T.obj 0 _ st2 b hb; Heap.lt_size e
 have hfp : ∀ b ∈ fp, qP X pins (upd H2 s2.heap.objs.size (.lst [])) b := fun b hb => ⟨by rw [aU (Nat.ne_of_lt (hob b hb))]; exact (f2 b hb).1, (f2 b hb).2⟩
 have hk : ∀ b o, (s2.heap.push { cls := .type "list", data := .seq ([] : List Value).toArray }).get? b = some o -> h₁.get? b = some o := hkp
 have Ic := aBt (t' := s2.toks) S hc I3 hfp (fun b hb => Nat.lt_of_lt_of_le (hob b hb) (by rw [Heap.size_push]; exact le_succ _)) hns₁ hk hcl₁
 have st4 : tn 0 h₁ := T.keep 0 _ _ st2 fun b _ o e => hk b o (Heap.get?_push_of_some _ e)
 have fr4 : ∀ b ∈ fp, qP (bR X scope _ _ _ fp) [] (upd H2 s2.heap.objs.size (.lst [])) b := fun b hb => ⟨(hfp b hb).1, (Ic.ok.exf b hb).1, Ic.ok.exfs b hb, .inl hb, fun x c e => (Ic.ok.exf b hb).2 x c e, fun p hp => absurd (show p ∈ ([] : List (Addr × Obj)) from hp) (by simp)⟩
 have loop := aKy (Y := bR X scope _ _ _ fp) (e := .ListComp elt [⟨tg, iter, ifs, 0⟩] scope pos) (env := X.env) (iterPos := pos) T rfl rfl (hg _ _ _ fp) (hquiet _ _ _) (hden _ _ _ fp it s2.heap.objs.size) (hrest _ _ _ fp it s2.heap.objs.size) W step
  (R := compPost (model X.prog X.w) X.A X.xe use Qf (.ref s2.heap.objs.size) (s2.heap.push { cls := .type "list", data := .seq ([] : List Value).toArray }).objs.size) (fun τ H5 s5 I5 q5 => by
   obtain ⟨m5, hn5, _⟩ := I5.loc
   exact hfin _ _ H5 s5 m5 _ _ fp τ (Nat.le_refl _) I3 hfp I5 hn5 q5) Ic st4 fr4 w0
 exact codeAny_compStart_list loop (T.self _ 0 _ _ _ st4 loop)
theorem nY {it acc : Value}  : (Code.compLoop e 0 it acc env).quiet = true := rfl
theorem aQj {it p : Addr}  {Q : Fin -> Shared -> Prop} (h : wpAny (model X.prog X.w) X.A (pyNext (.ref it) >>= fun r => match r with
        | none => pure (.done .next)
        | some v => letOwnedTupleGo tg (.ref it) v >>= fun _ => assign tg Y.env v >>= fun _ => (eval elt Y.env >>= fun x => call (.builtin "list.append") [.ref p, x] >>= fun _ => again (.compLoop (.ListComp elt [⟨tg, iter, [], 0⟩] scope pos) 0 (.ref it) (.ref p) Y.env))) Q (fun _ _ => False) s) :
      wpAny (model X.prog X.w) (X.A.under (.compLoop (.ListComp elt [⟨tg, iter, [], 0⟩] scope pos) 0 (.ref it) (.ref p) Y.env)) ((model X.prog X.w).den (.compLoop (.ListComp elt [⟨tg, iter, [], 0⟩] scope pos) 0 (.ref it) (.ref p) Y.env)) Q (fun _ _ => False) s := by
 show wpAny _ _ ((compTurn (.ListComp elt [⟨tg, iter, [], 0⟩] scope pos) 0 (.ref it) (.ref p) Y.env).onRaise (fun x => do noteFrame x Y.env; theTreesLotGoes x)) _ _ s
 refine wpAny_noted ?_
 rw [rM]
 exact wpAny_bind (wpAny_standAt (wpAny_mono h (fun _ _ q => q) fun _ _ q => q.elim))
def rD : TT := fun _ H Q => Q true H
theorem aJ6 (hY : Y.xe = fun _ _ => False) (he : PE Y elt te) {it p : Addr} (τ : LSt) (H : Hp) (s : Shared) (pins : List (Addr × Obj)) (vs : List V) (N : Hp -> List V -> Prop) (Q : Fin -> Shared -> Prop) (I : Inv Y pins τ H s)
  (h : rD τ H fun k H3 => if k = true then te τ H3 fun y H4 => H4 p = some (.lst vs) /\ vs.length < sizeLine /\ N (upd H4 p (.lst (vs ++ [y]))) (vs ++ [y]) else N H3 vs)
  (mono : ∀ (Q Q' : VK), (∀ v H', Q v H' -> Q' v H') -> te τ H Q -> te τ H Q')
  (q : ∀ s' H' ws, Inv Y pins τ H' s' -> N H' ws -> Q (.again (.compLoop (.ListComp elt [⟨tg, iter, [], 0⟩] scope pos) 0 (.ref it) (.ref p) Y.env)) s') :
  wpAny (model Y.prog Y.w) Y.A (eval elt Y.env >>= fun x => call (.builtin "list.append") [.ref p, x] >>= fun _ => again (.compLoop (.ListComp elt [⟨tg, iter, [], 0⟩] scope pos) 0 (.ref it) (.ref p) Y.env)) Q (fun _ _ => False) s := by
 have h' : te τ H fun y H4 => H4 p = some (.lst vs) /\ vs.length < sizeLine /\ N (upd H4 p (.lst (vs ++ [y]))) (vs ++ [y]) := h
 exact aDh he (by rw [hY]; exact fun _ _ z => z) I (mono _ _ (fun y H4 ⟨a, b, n⟩ => ⟨a, b, fun s' I' => wpAny_pure (q s' _ _ I' n)⟩) h')
end
end Pu
namespace Pu
open PySem PySem.Spec PyProof.Rows L2
section
variable {K : Frag}   {st : PSt} 
theorem aQk (is : List Nat) : ∀ st : PSt, (clr is st).length = st.length := by
 induction is with
 | nil => exact fun _ => rfl
 | cons i is ih => intro st; show (clr is (st.set i none)).length = _; rw [ih, length_set]
theorem xF (is : List Nat) : ∀ (st : PSt) (j : Nat) (x : Sl), (clr is st)[j]? = some (some x) -> st[j]? = some (some x) /\ j ∉ is := by
 induction is with
 | nil => exact fun σ j v h => ⟨h, by simp⟩
 | cons i is ih =>
  intro σ j v h
  obtain ⟨h1, h2⟩ := ih (σ.set i none) j v h
  rw [List.getElem?_set] at h1
  by_cases e : i = j
  ·subst e
   rw [if_pos rfl] at h1
   split at h1 <;> cases h1
  ·rw [if_neg e] at h1
   exact ⟨h1, fun z => (List.mem_cons.mp z).elim (fun z => e z.symm) h2⟩
theorem aBu (is : List Nat) : ∀ (σ : LSt) (j : Nat), j ∉ is -> (aCk is σ)[j]? = σ[j]? := by
 induction is with
 | nil => exact fun σ j _ => rfl
 | cons i is ih =>
  intro σ j h
  show (aCk is (σ.set i none))[j]? = _
  rw [ih _ j fun z => h (mem_cons_of_mem _ z), List.getElem?_set, if_neg (show ¬ i = j from fun z => h (z ▸ mem_cons_self))]
theorem RS.clr (is : List Nat) (r : RS K B A H st σ) : RS K B A H (Pu.clr is st) (aCk is σ) where
 len := by rw [aQk, aBs, r.len]
 own := r.own
 dis := r.dis
 val := fun i d e => by
  obtain ⟨e1, h⟩ := xF is st i _ e
  rw [aBu is σ i h]
  exact r.val i d e1
 lst := fun i kk xs e => by
  obtain ⟨e1, h⟩ := xF is st i _ e
  obtain ⟨a, o, vs, e2, m, h1, ko, q, u⟩ := r.lst i kk xs e1
  refine ⟨a, o, vs, by rw [aBu is σ i h]; exact e2, m, h1, ko, q, fun j k' ys ej ej2 => ?_⟩
  obtain ⟨e3, h3⟩ := xF is st j _ ej
  rw [aBu is σ j h3] at ej2
  exact u j k' ys e3 ej2
theorem RS.weaken (r : RS K B A H st σ) (hl : st'.length = st.length) (h : ∀ (j : Nat) (x : Sl), st'[j]? = some (some x) -> st[j]? = some (some x)) : RS K B A H st' σ where
 len := hl.trans r.len
 own := r.own
 dis := r.dis
 val := fun i d e => r.val i d (h i _ e)
 lst := fun i kk xs e => by
  obtain ⟨a, o, vs, e2, m, h1, ko, q, u⟩ := r.lst i kk xs (h i _ e)
  exact ⟨a, o, vs, e2, m, h1, ko, q, fun j k' ys ej ej2 => u j k' ys (h j _ ej) ej2⟩
theorem mem_mid {p b : Addr} : b ∈ A ++ p :: B ↔ b = p \/ b ∈ A ++ B := by
 simp only [List.mem_append, mem_cons]
 constructor
 ·rintro (h | h | h)
  ·exact .inr (.inl h)
  ·exact .inl h
  ·exact .inr (.inr h)
 ·rintro (h | h | h)
  ·exact .inr (.inl h)
  ·exact .inl h
  ·exact .inr (.inr h)
theorem aG3 {p : Addr} {o : HO} (hp : H p = none) : aM (hide (A ++ B) H) (hide (A ++ p :: B) (upd H p o)) := fun b u q => by
 have q1 := aY _ _ _ _ q
 have hb : b ∉ A ++ B := fun z => by rw [eG z] at q; cases q
 have ne : b ≠ p := aK q1 hp
 rw [bI (show b ∉ A ++ p :: B from fun z => (mem_mid.mp z).elim ne hb), aU ne]
 exact q1
theorem RS.grow (r : RS K B A H st σ) {p : Addr}  (hp : H p = none) : RS K (p :: B) A (upd H p (.lst vs)) st σ where
 len := r.len
 own := fun a ha => by
  by_cases e : a = p
  ·subst e; rw [bY]; rfl
  ·rw [aU e]; exact r.own a ((mem_mid.mp ha).resolve_left e)
 dis := fun a ha hb => by
  rcases List.mem_cons.mp hb with rfl | hb
  ·exact r.own.free hp (List.mem_append_left _ ha)
  ·exact r.dis a ha hb
 val := fun j d' e => let ⟨u, e1, q⟩ := r.val j d' e; ⟨u, e1, q.mono (aG3 hp)⟩
 lst := fun j kk xs e => by
  obtain ⟨a, o, vs', e1, m, h1, ko, q, u⟩ := r.lst j kk xs e
  exact ⟨a, o, vs', e1, m, by rw [aU (aK h1 hp)]; exact h1, ko, q.mono (aG3 hp), u⟩
theorem RS.put {p : Addr} (r : RS K (p :: B) A H st σ)  : RS K (p :: B) A (upd H p (.lst vs)) st σ := by
 have hh : hide (A ++ p :: B) (upd H p (.lst vs)) = hide (A ++ p :: B) H := gW (mem_mid.mpr (.inl rfl))
 refine ⟨r.len, fun b hb => ?_, r.dis, fun j d e => by rw [hh]; exact r.val j d e, fun j kk xs e => ?_⟩
 ·by_cases e : b = p
  ·subst e; rw [bY]; rfl
  ·rw [aU e]; exact r.own b hb
 ·obtain ⟨a, o, vs', e1, m, h1, ko, q, u⟩ := r.lst j kk xs e
  refine ⟨a, o, vs', e1, m, ?_, ko, by rw [hh]; exact q, u⟩
  have : a ≠ p := fun z => r.dis a m (z ▸ mem_cons_self)
  rw [aU this]; exact h1
end
def aG4 (is : List Nat) (t : Tg) : Prop := ∀ d st s2, t d st = .ok s2 -> s2.length = st.length /\ ∀ (j : Nat), j ∉ is -> s2[j]? = st[j]?
theorem jK : aG4 [i] (tgN i) := fun d st s2 h => by
 cases h
 refine ⟨length_set, fun j hj => ?_⟩
 rw [List.getElem?_set, if_neg fun z => hj (by simp [z])]
theorem aRv {is : List Nat} : aG4 is (tgT is) := by
 have key : ∀ (is : List Nat) (ds : List D) (st s2 : PSt), nP is ds st = .ok s2 -> s2.length = st.length /\ ∀ (j : Nat), j ∉ is -> s2[j]? = st[j]? := by
  intro is
  induction is with
  | nil => intro ds st s2 h; cases ds with | nil => cases h; exact ⟨rfl, fun _ _ => rfl⟩ | cons _ _ => cases h
  | cons i is ih =>
   intro ds st s2 h
   cases ds with
   | nil => cases h
   | cons d ds =>
    obtain ⟨h1, h2⟩ := ih ds _ s2 h
    refine ⟨by rw [h1, length_set], fun j hj => ?_⟩
    rw [h2 j fun z => hj (mem_cons_of_mem _ z), List.getElem?_set, if_neg (show ¬ i = j from fun z => hj (z ▸ mem_cons_self))]
 intro d st s2 h
 cases d <;> first | (cases h; done) | exact key is _ st s2 h
def ndB : List Str -> Bool
 | [] => true
 | x :: r => !r.contains x && ndB r
theorem aRw : ∀ {l : List Str}, ndB l = true -> l.Nodup
 | [], _ => .nil
 | x :: r, h => by
  unfold ndB at h
  simp only [and_eq_true, not_eq_true'] at h
  exact List.nodup_cons.mpr ⟨fun z => by rw [List.contains_iff_mem.mpr z] at h; exact Bool.noConfusion h.1, aRw h.2⟩
def aWz (scope : Scope) (outer : List (Str × NameKind)) (N : List Str) (is : List Nat) : Bool :=
 scope.kind == .function && ndB (scope.names.map (·.1)) && scope.names.all (fun x => x.2 != .free || outer.lookup x.1 == some .cell || outer.lookup x.1 == some .free) &&
  (List.range N.length).all fun i => (scope.names.lookup (N.getD i "") != some .local && scope.names.lookup (N.getD i "") != some .cell) || is.contains i
theorem CScope.of {is : List Nat} (h : aWz scope X.env.scope.names X.N is = true) : CScope X scope is := by
 unfold aWz at h
 simp only [and_eq_true, List.all_eq_true] at h
 obtain ⟨⟨⟨h1, h0⟩, h2⟩, h3⟩ := h
 refine ⟨by simpa using h1, aRw h0, fun x hx hf => ?_, fun i x e hl => ?_⟩
 ·have := h2 x hx
  simp only [or_eq_true, bne_iff_ne, ne_eq, beq_iff_eq] at this
  rcases this with (z | z) | z
  ·exact absurd hf z
  ·exact .inl z
  ·exact .inr z
 ·have hi : i < X.N.length := (List.getElem?_eq_some_iff.mp e).1
  have := h3 i (List.mem_range.mpr hi)
  rw [List.getD_eq_getElem?_getD, e] at this
  simp only [getD_some, or_eq_true, and_eq_true, bne_iff_ne, ne_eq] at this
  rcases this with ⟨z1, z2⟩ | z
  ·rcases hl with hl | hl
   ·exact absurd hl z1
   ·exact absurd hl z2
  ·simpa using z
theorem aQl {K : Frag}     (Q Q' : VK) (m : ∀ v H', Q v H' -> Q' v H') (h : tI K B f τ H Q) : tI K B f τ H Q' :=
 let ⟨A, st, d, rs, hd, q⟩ := h; ⟨A, st, d, rs, hd, fun v H' s r => m v H' (q v H' s r)⟩
def tIx (K : Frag) (f : Ex) : TE := fun τ H Q => ∃ B, tI K B f τ H Q
def tTx (K : Frag) (f : Ex) : TT := fun τ H Q => ∃ B, tT K B f τ H Q
def tGx (K : Frag) (t : Tg) : TG := fun v τ H Q => ∃ B, tG K B t v τ H Q
theorem aX0 (h : ∀ B, PE X e (tI X.K B f)) : PE X e (tIx X.K f) := fun pins s σ H Q I ⟨B, q⟩ => h B pins s σ H Q I q
theorem aQm {t : Tg} (h : ∀ B, PG X e (tG X.K B t)) : PG X e (tGx X.K t) := fun pins s σ H v u Q I r ⟨B, q⟩ => h B pins s σ H v u Q I r q
theorem aG5 {K : Frag}    (Q Q' : VK) (m : ∀ v H', Q v H' -> Q' v H') (h : tIx K f τ H Q) : tIx K f τ H Q' := let ⟨B, q⟩ := h; ⟨B, aQl Q Q' m q⟩
theorem aRx {K : Frag}  {is : List Nat} {t : Tg}  {c : Ex}   {H : Hp} (hsub : aG4 is t)
  (htt : ∀ τ H Q, tTx K c τ H Q -> tt τ H Q)  {st : PSt}  (rs : RS K B A H st σ) (hx : it st = .ok xs) (hl : xs.length <= big) (hy : cY t c f (clr is st) xs = .ok ys) {Q : VK}
  (q : ∀ p vs H1 H', aM H H1 -> H1 p = none -> aM H1 H' -> H' p = some (.lst vs) -> bA K (hide (A ++ p :: B) H') ys vs -> Q (.ref p) H') : tLC is (tIt K B it) (tGx K t) tt (tIx K f) σ H Q := by
 refine ⟨A, st, xs, rs, hx, fun J H1 s1 ito p hp => ?_⟩
 have rs1 := rs.mono s1
 refine ⟨fun i m τ vs H' => m = xs.length - i /\ i <= xs.length /\ vs.length <= i /\ H' p = some (.lst vs) /\ aM H1 H' /\ RS K (p :: B) A H' (clr is st) τ /\
   ∃ ds rest, bA K (hide (A ++ p :: B) H') ds vs /\ cY t c f (clr is st) (xs.drop i) = .ok rest /\ ds ++ rest = ys, ⟨xs.length, by simp, zero_le _, zero_le _, bY, dB hp, (rs1.clr is).grow hp, [], ys, .nil, by rw [drop_zero]; exact hy, rfl⟩, ?_⟩
 rintro i m τ vs H' ⟨rfl, hi, hvl, hpv, s2, rs2, ds, rest, rds, hr, hcat⟩
 refine ⟨hpv, ?_⟩
 have mv : ∀ a, a ∈ (p :: A) ++ B ↔ a ∈ A ++ p :: B := fun a => by
  rw [mem_mid]
  exact mem_cons
 have le : Le A H1 (p :: A) H' := fun b u z => by
  have z1 := aY _ _ _ _ z
  have hb : b ∉ A := fun w => by rw [eG w] at z; cases z
  have ne : b ≠ p := aK z1 hp
  rw [bI (show b ∉ p :: A from fun w => (List.mem_cons.mp w).elim ne hb)]
  exact s2 b u z1
 obtain ⟨i1, i2⟩ := ito (p :: A) H' le (fun a ha => rs2.own a ((mv a).mp ha)) i
 by_cases hlt : i < xs.length
 ·have hd' : xs[i]? = some xs[i] := List.getElem?_eq_getElem hlt
  obtain ⟨go, yl⟩ := i1 _ hd'
  rw [drop_eq_getElem_cons hlt] at hr
  obtain ⟨st2, hst2, h5⟩ := R.ok_of hr
  obtain ⟨cb, hcb, h6⟩ := R.ok_of h5
  obtain ⟨k, rfl, h7⟩ := qQ h6
  refine .inr ⟨go, fun x H2 y => ?_⟩
  obtain ⟨sm3, rx⟩ := yl x H2 y
  have hpv := sm3 _ _ hpv
  have s2 := s2.trans sm3
  have rs2 := rs2.mono sm3
  have rds := rds.mono (aM.hide sm3)
  have rx' : Rep K (hide (A ++ p :: B) H2) xs[i] x := rx.mono (dR fun a ha => (mv a).mpr ha)
  obtain ⟨sl, sg⟩ := hsub _ _ _ hst2
  have back : ∀ (j : Nat) (z : Sl), (clr is st)[j]? = some (some z) -> st2[j]? = some (some z) := fun j z ez => by rw [sg j (xF is st j z ez).2]; exact ez
  refine ⟨p :: B, A, clr is st, xs[i], st2, rs2, rx', hst2, fun τ2 rs3 => htt _ _ _ ⟨p :: B, A, st2, k, rs3, hcb, fun H3 s3 => ?_⟩⟩
  cases k with
  | true =>
   obtain ⟨y', hy', h8⟩ := R.ok_of h7
   obtain ⟨rest', hrest', h9⟩ := R.ok_of h8
   cases h9
   refine ⟨p :: B, A, st2, y', rs3.mono s3, hy', fun v H4 s4 r4 => ⟨s4 _ _ (s3 _ _ hpv), ?_, xs.length - (i + 1), by omega, rfl, hlt, by rw [length_append, length_singleton]; omega, bY, ?_, ?_, ds ++ [y'], rest', ?_, hrest', by rw [List.append_assoc]; exact hcat⟩⟩
   ·have : sizeLine = 16777216 := by decide
    have hbg := jO
    omega
   ·exact fun b u z => by rw [aU (aK z hp)]; exact s4 _ _ (s3 _ _ (s2 b u z))
   ·exact (((rs3.mono s3).mono s4).weaken (by rw [sl]) back).put
   ·rw [gW (mem_mid.mpr (.inl rfl))]
    exact (rds.mono (aM.hide (s3.trans s4))).append (.cons r4 .nil)
  | false => exact ⟨xs.length - (i + 1), by omega, rfl, hlt, by omega, s3 _ _ hpv, s2.trans s3, (rs3.mono s3).weaken (by rw [sl]) back, ds, rest, rds.mono (aM.hide s3), h7, hcat⟩
 ·have e : i = xs.length := by omega
  subst e
  rw [drop_length] at hr
  cases hr
  rw [append_nil] at hcat
  subst hcat
  exact .inl ⟨i2 (Nat.le_refl _), q p vs H1 H' s1 hp s2 hpv rds⟩
section
variable    {iter c : Expr}  {t : Tg}  {u : Ex}
theorem aEq {Q : VK} {st : PSt}   {p : Addr}  {H' : Hp} (rs : RS X.K B A H st σ) (q : ∀ v H', aM H H' -> Rep X.K (hide (A ++ B) H') (.lst ys) v -> Q v H') (s1 : aM H H1) (hp : H1 p = none) (s2 : aM H1 H')
  (hv : H' p = some (.lst vs)) (r : bA X.K (hide (A ++ p :: B) H') ys vs) : Q (.ref p) H' :=
 q _ H' (s1.trans s2) (bG.mpr ⟨p, vs, rfl, SqL.of (by rw [bI ((rs.own.mono s1).free hp)]; exact hv), r.mono (dR fun a ha => mem_mid.mpr (.inr ha))⟩)
theorem gJ (is : List Nat) (hsub : aG4 is t) (S : CScope X scope is) (hi : L2.PI X tg iter (tIt X.K B it)) (hg : ∀ (B : List Addr) (C : Addr) (s₀ : Shared) (H₀ : Hp) (fp : List Addr), PG (bR X scope C s₀ H₀ fp) tg (tG X.K B t))
  (he : ∀ (B : List Addr) (C : Addr) (s₀ : Shared) (H₀ : Hp) (fp : List Addr), PE (bR X scope C s₀ H₀ fp) elt (tI X.K B f)) (hc : X.calm = true) (hs : ∀ x, foldedSetIterable iter X.env x = pure x := by intro _; rfl) :
  PE X (.ListComp elt [⟨tg, iter, [], 0⟩] scope pos) (tI X.K B (cT is t it aZ f)) := by
 intro pins s σ H Q I h
 obtain ⟨A, st, d, rs, hd, q⟩ := h
 obtain ⟨xs, hx, h2⟩ := R.ok_of hd
 obtain ⟨hl, h3⟩ := aJ h2
 obtain ⟨ys, hy, h4⟩ := R.ok_of h3
 cases h4
 rw [eval_ListComp]
 refine uK (use := none) (Qf := EP X pins σ Q) (Q := Q) (tt := rD) (te := tIx X.K f) (rest := fun env it p => eval elt env >>= fun x => call (.builtin "list.append") [p, x] >>= fun _ => again (.compLoop (.ListComp elt [⟨tg, iter, [], 0⟩] scope pos) 0 it p env)) S hc hi (fun C s₀ H₀ fp => aQm fun B => hg B C s₀ H₀ fp) (fun _ _ _ => nY)
  (fun C s₀ H₀ fp it p s Q h => aQj (Y := bR X scope C s₀ H₀ fp) h) (fun C s₀ H₀ fp it p τ H s pins vs N Q I h q => aJ6 (Y := bR X scope C s₀ H₀ fp) rfl (aX0 fun B => he B C s₀ H₀ fp) τ H s pins vs N Q I h (fun Q Q' m h => aG5 Q Q' m h) q) hs I
  (aRx hsub (fun τ H Q ⟨B, A, st, k, rs, hk, q⟩ => ?_) rs hx hl hy fun p vs H1 H' s1 hp s2 hv r => aEq rs q s1 hp s2 hv r) fun C p H5 s5 m5 s3 H3 fp τ hC I3 hfp I5 hn5 q5 => ⟨m5, hn5, fun h' hs' => ⟨.ref p, H5, uJ I3 hfp hC I5 hs', rfl, q5⟩⟩
 cases hk
 exact q H (aM.refl _)
end
end Pu
namespace Pu
open PySem PySem.Spec PyProof.Rows L2 PySem.SeqAt
section
variable {X : Cx} {pins : List (Addr × Obj)} {σ : LSt} {H : Hp} {s : Shared}
theorem aJ7 (I : Inv X pins σ H s) {a : Addr} {xs ys : List V} (h1 : SqL X.K H a xs) (h2 : SqT X.K H a ys) : False := by
 obtain ⟨its, _, ⟨o, n, e, hc, _⟩, _⟩ := I.list h1
 obtain ⟨its2, _, ⟨o2, e2, hc2, _⟩, _⟩ := I.tuple h2
 rw [e] at e2; cases e2
 rw [hc] at hc2; simp at hc2
mutual
theorem Rep.inj (I : Inv X pins σ H s) : ∀ {x y : D} {v : V}, plain x = true -> plain y = true -> Rep X.K H x v -> Rep X.K H y v -> x = y
 | .non, y, v, px, py, h, h' => by
  have e := bV.mp h; subst e
  cases y <;> first | (simp at py; done) | skip
  all_goals simp only [bV, bK, aW, aO, qK, bG] at h'
  all_goals first | rfl | (obtain ⟨_, _, h', _⟩ := h'; cases h'; done) | (cases h'; done)
 | .bl b, y, v, px, py, h, h' => by
  have e := bK.mp h; subst e
  cases y <;> first | (simp at py; done) | skip
  all_goals simp only [bV, bK, aW, aO, qK, bG] at h'
  all_goals first | (obtain ⟨_, _, h', _⟩ := h'; cases h'; done) | (cases h'; first | rfl | done)
 | .int i, y, v, px, py, h, h' => by
  have e := aW.mp h; subst e
  cases y <;> first | (simp at py; done) | skip
  all_goals simp only [bV, bK, aW, aO, qK, bG] at h'
  all_goals first | (obtain ⟨_, _, h', _⟩ := h'; cases h'; done) | (cases h'; first | rfl | done)
 | .str x, y, v, px, py, h, h' => by
  have e := aO.mp h; subst e
  cases y with
  | dct _ _ _ => simp at py
  | ins _ _ _ => simp at py
  | exn _ _ _ => simp at py
  | fn _ => simp at py
  | str z =>
   have e2 := aO.mp h'
   injection e2 with e2
   injection e2 with e2
   have : x = z := by simpa using congrArg Array.toList e2
   rw [this]
  | non => exact nomatch bV.mp h'
  | bl _ => exact nomatch bK.mp h'
  | int _ => exact nomatch aW.mp h'
  | tup _ => obtain ⟨_, _, h', _⟩ := bF h'; cases h'
  | lst _ => obtain ⟨_, _, h', _⟩ := bG.mp h'; cases h'
 | .tup ds, y, v, px, py, h, h' => by
  obtain ⟨a, vs, e, hq, hr⟩ := bF h
  subst e
  cases y with
  | dct _ _ _ => simp at py
  | ins _ _ _ => simp at py
  | exn _ _ _ => simp at py
  | fn _ => simp at py
  | tup es =>
   obtain ⟨a', vs', e', hq', hr'⟩ := bF h'
   cases e'
   have := I.tuple_inj hq hq'
   subst this
   rw [bA.inj I (by simpa using px) (by simpa using py) hr hr']
  | lst es =>
   obtain ⟨a', vs', e', hq', hr'⟩ := bG.mp h'
   cases e'
   exact (aJ7 I hq' hq).elim
  | non => exact nomatch bV.mp h'
  | bl _ => exact nomatch bK.mp h'
  | int _ => exact nomatch aW.mp h'
  | str _ => exact nomatch aO.mp h'
 | .lst ds, y, v, px, py, h, h' => by
  obtain ⟨a, vs, e, hq, hr⟩ := bG.mp h
  subst e
  cases y with
  | dct _ _ _ => simp at py
  | ins _ _ _ => simp at py
  | exn _ _ _ => simp at py
  | fn _ => simp at py
  | lst es =>
   obtain ⟨a', vs', e', hq', hr'⟩ := bG.mp h'
   cases e'
   have := I.list_inj hq hq'
   subst this
   rw [bA.inj I (by simpa using px) (by simpa using py) hr hr']
  | tup es =>
   obtain ⟨a', vs', e', hq', hr'⟩ := bF h'
   cases e'
   exact (aJ7 I hq hq').elim
  | non => exact nomatch bV.mp h'
  | bl _ => exact nomatch bK.mp h'
  | int _ => exact nomatch aW.mp h'
  | str _ => exact nomatch aO.mp h'
 | .dct _ _ _, y, v, px, py, h, h' => by simp at px
 | .ins _ _ _, y, v, px, py, h, h' => by simp at px
 | .exn _ _ _, y, v, px, py, h, h' => by simp at px
 | .fn _, y, v, px, py, h, h' => by simp at px
theorem bA.inj (I : Inv X pins σ H s) : ∀ {xs ys : List D} {vs : List V}, fK xs = true -> fK ys = true -> bA X.K H xs vs -> bA X.K H ys vs -> xs = ys
 | [], ys, vs, px, py, h, h' => by
  have e := dM.mp h; subst e
  cases ys with
  | nil => rfl
  | cons y ys => obtain ⟨_, _, h', _⟩ := cF.mp h'; cases h'
 | x :: xs, ys, vs, px, py, h, h' => by
  obtain ⟨v, r, e, h1, h2⟩ := cF.mp h
  subst e
  cases ys with
  | nil => exact nomatch dM.mp h'
  | cons y ys =>
   obtain ⟨v', r', e', h1', h2'⟩ := cF.mp h'
   cases e'
   simp only [jH, and_eq_true] at px py
   rw [Rep.inj I px.1 py.1 h1 h1', bA.inj I px.2 py.2 h2 h2']
end
mutual
theorem aBv : ∀ x : D, plain x = true -> eqD x x = true
 | .non, _ => by unfold eqD; rfl
 | .bl b, _ => by unfold eqD; simp
 | .int i, _ => by unfold eqD; simp
 | .str x, _ => by unfold eqD; simp
 | .tup x, h => by unfold eqD; exact zJ x (by simpa using h)
 | .lst x, h => by unfold eqD; exact zJ x (by simpa using h)
 | .dct _ _ _, h => by simp at h
 | .ins _ _ _, h => by simp at h
 | .exn _ _ _, h => by simp at h
 | .fn _, h => by simp at h
theorem zJ : ∀ x : List D, fK x = true -> fH x x = true
 | [], _ => by unfold fH; rfl
 | a :: x, h => by
  simp only [jH, and_eq_true] at h
  unfold fH; rw [aBv a h.1, zJ x h.2]; rfl
end
def pairE (xs ys : List D) (j : Nat) : Bool := eqD (xs.getD j .non) (ys.getD j .non)
theorem mL : ∀ xs ys : List D, ((List.range (min xs.length ys.length)).all (pairE xs ys) && xs.length == ys.length) = fH xs ys
 | [], [] => by unfold fH; rfl
 | [], _ :: _ => by unfold fH; simp
 | _ :: _, [] => by unfold fH; simp
 | x :: xs, y :: ys => by
  have ih := mL xs ys
  have e : fH (x :: xs) (y :: ys) = (eqD x y && fH xs ys) := by conv => lhs; unfold fH
  rw [e, <- ih]
  have hm : min (x :: xs).length (y :: ys).length = min xs.length ys.length + 1 := by simp only [length_cons]; omega
  rw [hm, List.range_succ_eq_map, all_cons, List.all_map]
  have e1 : pairE (x :: xs) (y :: ys) 0 = eqD x y := rfl
  have e2 : (pairE (x :: xs) (y :: ys) ∘ Nat.succ) = pairE xs ys := rfl
  rw [e1, e2, Bool.and_assoc]
  congr 1
  simp
theorem vQ (h : xs.length ≠ ys.length) : fH xs ys = false := by
 rw [<- mL]; simp [h]
mutual
theorem aNt (I : Inv X pins σ H s) : ∀ (x y : D) (A : Around) (v u : V) (a b : Value), Rep X.K H x v -> Rep X.K H y u -> RelV v a -> RelV u b -> A.units + dep x < cLine -> plain x = true -> plain y = true -> EqAt A s a b (eqD x y)
 | .non, y, A, v, u, a, b, ra, rb, va, vb, hu, px, py => by
  have zv := bV.mp ra; subst zv; have za : a = Value.none := va; subst za
  cases y with
  | dct _ _ _ => simp at py
  | ins _ _ _ => simp at py
  | exn _ _ _ => simp at py
  | fn _ => simp at py
  | non =>
   have zu := bV.mp rb; subst zu; have zb : b = Value.none := vb; subst zb
   have e : eqD (.non) (.non) = eqD _ _ := rfl
   unfold eqD
   exact EqAt.same _
  | bl y =>
   have zu := bK.mp rb; subst zu; have zb : b = Value.bool y := vb; subst zb
   have e : eqD (.non) (.bl y) = eqD _ _ := rfl
   unfold eqD
   exact EqAt.none_bool y
  | int y =>
   have zu := aW.mp rb; subst zu; obtain ⟨tb, zb⟩ : ∃ t, b = Value.int y t := vb; subst zb
   have e : eqD (.non) (.int y) = eqD _ _ := rfl
   unfold eqD
   exact EqAt.none_int y tb
  | str y =>
   have zu := aO.mp rb; subst zu; obtain ⟨tb, zb⟩ : ∃ t, b = Value.str ⟨y.toArray⟩ t := vb; subst zb
   have e : eqD (.non) (.str y) = eqD _ _ := rfl
   unfold eqD
   exact EqAt.none_str _ tb
  | tup y =>
   obtain ⟨lb, wsb, zu, hqb, hrb⟩ := bF rb; subst zu; have zb : b = Value.ref lb := vb; subst zb; obtain ⟨itsb, rvb, plb, _⟩ := I.tuple hqb; have ilb : s.heap.IsTuple lb itsb.toArray := plb
   have e : eqD (.non) (.tup y) = eqD _ _ := rfl
   unfold eqD
   exact EqAt.none_tuple ilb (Nat.lt_of_le_of_lt (le_add_right _ _) hu)
  | lst y =>
   obtain ⟨lb, wsb, zu, hqb, hrb⟩ := bG.mp rb; subst zu; have zb : b = Value.ref lb := vb; subst zb; obtain ⟨itsb, rvb, plb, _⟩ := I.list hqb; have ilb := plb.isList
   have e : eqD (.non) (.lst y) = eqD _ _ := rfl
   unfold eqD
   exact EqAt.none_list ilb (Nat.lt_of_le_of_lt (le_add_right _ _) hu)
 | .bl x, y, A, v, u, a, b, ra, rb, va, vb, hu, px, py => by
  have zv := bK.mp ra; subst zv; have za : a = Value.bool x := va; subst za
  cases y with
  | dct _ _ _ => simp at py
  | ins _ _ _ => simp at py
  | exn _ _ _ => simp at py
  | fn _ => simp at py
  | non =>
   have zu := bV.mp rb; subst zu; have zb : b = Value.none := vb; subst zb
   have e : eqD (.bl x) (.non) = eqD _ _ := rfl
   unfold eqD
   exact EqAt.bool_none x
  | bl y =>
   have zu := bK.mp rb; subst zu; have zb : b = Value.bool y := vb; subst zb
   have e : eqD (.bl x) (.bl y) = eqD _ _ := rfl
   unfold eqD
   exact EqAt.bool_bool x y
  | int y =>
   have zu := aW.mp rb; subst zu; obtain ⟨tb, zb⟩ : ∃ t, b = Value.int y t := vb; subst zb
   have e : eqD (.bl x) (.int y) = eqD _ _ := rfl
   unfold eqD
   exact EqAt.bool_int x y tb
  | str y =>
   have zu := aO.mp rb; subst zu; obtain ⟨tb, zb⟩ : ∃ t, b = Value.str ⟨y.toArray⟩ t := vb; subst zb
   have e : eqD (.bl x) (.str y) = eqD _ _ := rfl
   unfold eqD
   exact EqAt.bool_str x _ tb
  | tup y =>
   obtain ⟨lb, wsb, zu, hqb, hrb⟩ := bF rb; subst zu; have zb : b = Value.ref lb := vb; subst zb; obtain ⟨itsb, rvb, plb, _⟩ := I.tuple hqb; have ilb : s.heap.IsTuple lb itsb.toArray := plb
   have e : eqD (.bl x) (.tup y) = eqD _ _ := rfl
   unfold eqD
   exact EqAt.bool_tuple x ilb (Nat.lt_of_le_of_lt (le_add_right _ _) hu)
  | lst y =>
   obtain ⟨lb, wsb, zu, hqb, hrb⟩ := bG.mp rb; subst zu; have zb : b = Value.ref lb := vb; subst zb; obtain ⟨itsb, rvb, plb, _⟩ := I.list hqb; have ilb := plb.isList
   have e : eqD (.bl x) (.lst y) = eqD _ _ := rfl
   unfold eqD
   exact EqAt.bool_list x ilb (Nat.lt_of_le_of_lt (le_add_right _ _) hu)
 | .int x, y, A, v, u, a, b, ra, rb, va, vb, hu, px, py => by
  have zv := aW.mp ra; subst zv; obtain ⟨ta, za⟩ : ∃ t, a = Value.int x t := va; subst za
  cases y with
  | dct _ _ _ => simp at py
  | ins _ _ _ => simp at py
  | exn _ _ _ => simp at py
  | fn _ => simp at py
  | non =>
   have zu := bV.mp rb; subst zu; have zb : b = Value.none := vb; subst zb
   have e : eqD (.int x) (.non) = eqD _ _ := rfl
   unfold eqD
   exact EqAt.int_none x ta
  | bl y =>
   have zu := bK.mp rb; subst zu; have zb : b = Value.bool y := vb; subst zb
   have e : eqD (.int x) (.bl y) = eqD _ _ := rfl
   unfold eqD
   exact EqAt.int_bool x ta y
  | int y =>
   have zu := aW.mp rb; subst zu; obtain ⟨tb, zb⟩ : ∃ t, b = Value.int y t := vb; subst zb
   have e : eqD (.int x) (.int y) = eqD _ _ := rfl
   unfold eqD
   exact EqAt.int_int x ta y tb
  | str y =>
   have zu := aO.mp rb; subst zu; obtain ⟨tb, zb⟩ : ∃ t, b = Value.str ⟨y.toArray⟩ t := vb; subst zb
   have e : eqD (.int x) (.str y) = eqD _ _ := rfl
   unfold eqD
   exact EqAt.int_str x ta _ tb
  | tup y =>
   obtain ⟨lb, wsb, zu, hqb, hrb⟩ := bF rb; subst zu; have zb : b = Value.ref lb := vb; subst zb; obtain ⟨itsb, rvb, plb, _⟩ := I.tuple hqb; have ilb : s.heap.IsTuple lb itsb.toArray := plb
   have e : eqD (.int x) (.tup y) = eqD _ _ := rfl
   unfold eqD
   exact EqAt.int_tuple x ta ilb (Nat.lt_of_le_of_lt (le_add_right _ _) hu)
  | lst y =>
   obtain ⟨lb, wsb, zu, hqb, hrb⟩ := bG.mp rb; subst zu; have zb : b = Value.ref lb := vb; subst zb; obtain ⟨itsb, rvb, plb, _⟩ := I.list hqb; have ilb := plb.isList
   have e : eqD (.int x) (.lst y) = eqD _ _ := rfl
   unfold eqD
   exact EqAt.int_list x ta ilb (Nat.lt_of_le_of_lt (le_add_right _ _) hu)
 | .str x, y, A, v, u, a, b, ra, rb, va, vb, hu, px, py => by
  have zv := aO.mp ra; subst zv; obtain ⟨ta, za⟩ : ∃ t, a = Value.str ⟨x.toArray⟩ t := va; subst za
  cases y with
  | dct _ _ _ => simp at py
  | ins _ _ _ => simp at py
  | exn _ _ _ => simp at py
  | fn _ => simp at py
  | non =>
   have zu := bV.mp rb; subst zu; have zb : b = Value.none := vb; subst zb
   have e : eqD (.str x) (.non) = eqD _ _ := rfl
   unfold eqD
   exact EqAt.str_none _ ta
  | bl y =>
   have zu := bK.mp rb; subst zu; have zb : b = Value.bool y := vb; subst zb
   have e : eqD (.str x) (.bl y) = eqD _ _ := rfl
   unfold eqD
   exact EqAt.str_bool _ ta y
  | int y =>
   have zu := aW.mp rb; subst zu; obtain ⟨tb, zb⟩ : ∃ t, b = Value.int y t := vb; subst zb
   have e : eqD (.str x) (.int y) = eqD _ _ := rfl
   unfold eqD
   exact EqAt.str_int _ ta y tb
  | str y =>
   have zu := aO.mp rb; subst zu; obtain ⟨tb, zb⟩ : ∃ t, b = Value.str ⟨y.toArray⟩ t := vb; subst zb
   have e : eqD (.str x) (.str y) = ((⟨x.toArray⟩ : Str) == ⟨y.toArray⟩) := by rw [<- str_beq]; unfold eqD; simp
   rw [e]
   exact EqAt.str_str _ ta _ tb
  | tup y =>
   obtain ⟨lb, wsb, zu, hqb, hrb⟩ := bF rb; subst zu; have zb : b = Value.ref lb := vb; subst zb; obtain ⟨itsb, rvb, plb, _⟩ := I.tuple hqb; have ilb : s.heap.IsTuple lb itsb.toArray := plb
   have e : eqD (.str x) (.tup y) = eqD _ _ := rfl
   unfold eqD
   exact EqAt.str_tuple _ ta ilb (Nat.lt_of_le_of_lt (le_add_right _ _) hu)
  | lst y =>
   obtain ⟨lb, wsb, zu, hqb, hrb⟩ := bG.mp rb; subst zu; have zb : b = Value.ref lb := vb; subst zb; obtain ⟨itsb, rvb, plb, _⟩ := I.list hqb; have ilb := plb.isList
   have e : eqD (.str x) (.lst y) = eqD _ _ := rfl
   unfold eqD
   exact EqAt.str_list _ ta ilb (Nat.lt_of_le_of_lt (le_add_right _ _) hu)
 | .tup x, y, A, v, u, a, b, ra, rb, va, vb, hu, px, py => by
  obtain ⟨la, wsa, zv, hqa, hra⟩ := bF ra; subst zv; have za : a = Value.ref la := va; subst za; obtain ⟨itsa, rva, pla, _⟩ := I.tuple hqa; have ila : s.heap.IsTuple la itsa.toArray := pla
  cases y with
  | dct _ _ _ => simp at py
  | ins _ _ _ => simp at py
  | exn _ _ _ => simp at py
  | fn _ => simp at py
  | non =>
   have zu := bV.mp rb; subst zu; have zb : b = Value.none := vb; subst zb
   have e : eqD (.tup x) (.non) = eqD _ _ := rfl
   unfold eqD
   exact EqAt.tuple_none ila (Nat.lt_of_le_of_lt (le_add_right _ _) hu)
  | bl y =>
   have zu := bK.mp rb; subst zu; have zb : b = Value.bool y := vb; subst zb
   have e : eqD (.tup x) (.bl y) = eqD _ _ := rfl
   unfold eqD
   exact EqAt.tuple_bool y ila (Nat.lt_of_le_of_lt (le_add_right _ _) hu)
  | int y =>
   have zu := aW.mp rb; subst zu; obtain ⟨tb, zb⟩ : ∃ t, b = Value.int y t := vb; subst zb
   have e : eqD (.tup x) (.int y) = eqD _ _ := rfl
   unfold eqD
   exact EqAt.tuple_int y tb ila (Nat.lt_of_le_of_lt (le_add_right _ _) hu)
  | str y =>
   have zu := aO.mp rb; subst zu; obtain ⟨tb, zb⟩ : ∃ t, b = Value.str ⟨y.toArray⟩ t := vb; subst zb
   have e : eqD (.tup x) (.str y) = eqD _ _ := rfl
   unfold eqD
   exact EqAt.tuple_str _ tb ila (Nat.lt_of_le_of_lt (le_add_right _ _) hu)
  | tup y =>
   obtain ⟨lb, wsb, zu, hqb, hrb⟩ := bF rb; subst zu; have zb : b = Value.ref lb := vb; subst zb; obtain ⟨itsb, rvb, plb, _⟩ := I.tuple hqb; have ilb : s.heap.IsTuple lb itsb.toArray := plb
   have n1 : itsa.length = x.length := by rw [<- rva.length, hra.length]
   have n2 : itsb.length = y.length := by rw [<- rvb.length, hrb.length]
   have e : eqD (.tup x) (.tup y) = fH x y := by conv => lhs; unfold eqD
   have hd : dep (.tup x) = gO x + 1 := by conv => lhs; unfold dep
   rw [hd] at hu
   have hin : A.in1.units + gO x < cLine := by show A.units + 1 + gO x < cLine; omega
   by_cases hll : la = lb
   ·subst hll
    have := Rep.inj I px py ra rb
    rw [this, aBv _ py]
    exact EqAt.same _
   ·rw [e]
    have e3 : fH x y = ((List.range (min itsa.toArray.size itsb.toArray.size)).all (pairE x y) && itsa.toArray.size == itsb.toArray.size) := by rw [<- mL, List.size_toArray, List.size_toArray, n1, n2]
    rw [e3]
    refine EqAt.of_refs hll (RcAt.tuples ila ilb (by omega) fun j j1 j2 => ?_)
    have := lC I x y A.in1 wsa wsb itsa itsb hra hrb rva rvb hin (by simpa using px) (by simpa using py) j (by simpa using j1) (by simpa using j2)
    simpa using this
  | lst y =>
   obtain ⟨lb, wsb, zu, hqb, hrb⟩ := bG.mp rb; subst zu; have zb : b = Value.ref lb := vb; subst zb; obtain ⟨itsb, rvb, plb, _⟩ := I.list hqb; have ilb := plb.isList
   have e : eqD (.tup x) (.lst y) = eqD _ _ := rfl
   unfold eqD
   exact EqAt.tuple_list ila ilb (Nat.lt_of_le_of_lt (le_add_right _ _) hu)
 | .lst x, y, A, v, u, a, b, ra, rb, va, vb, hu, px, py => by
  obtain ⟨la, wsa, zv, hqa, hra⟩ := bG.mp ra; subst zv; have za : a = Value.ref la := va; subst za; obtain ⟨itsa, rva, pla, _⟩ := I.list hqa; have ila := pla.isList
  cases y with
  | dct _ _ _ => simp at py
  | ins _ _ _ => simp at py
  | exn _ _ _ => simp at py
  | fn _ => simp at py
  | non =>
   have zu := bV.mp rb; subst zu; have zb : b = Value.none := vb; subst zb
   have e : eqD (.lst x) (.non) = eqD _ _ := rfl
   unfold eqD
   exact EqAt.list_none ila (Nat.lt_of_le_of_lt (le_add_right _ _) hu)
  | bl y =>
   have zu := bK.mp rb; subst zu; have zb : b = Value.bool y := vb; subst zb
   have e : eqD (.lst x) (.bl y) = eqD _ _ := rfl
   unfold eqD
   exact EqAt.list_bool y ila (Nat.lt_of_le_of_lt (le_add_right _ _) hu)
  | int y =>
   have zu := aW.mp rb; subst zu; obtain ⟨tb, zb⟩ : ∃ t, b = Value.int y t := vb; subst zb
   have e : eqD (.lst x) (.int y) = eqD _ _ := rfl
   unfold eqD
   exact EqAt.list_int y tb ila (Nat.lt_of_le_of_lt (le_add_right _ _) hu)
  | str y =>
   have zu := aO.mp rb; subst zu; obtain ⟨tb, zb⟩ : ∃ t, b = Value.str ⟨y.toArray⟩ t := vb; subst zb
   have e : eqD (.lst x) (.str y) = eqD _ _ := rfl
   unfold eqD
   exact EqAt.list_str _ tb ila (Nat.lt_of_le_of_lt (le_add_right _ _) hu)
  | tup y =>
   obtain ⟨lb, wsb, zu, hqb, hrb⟩ := bF rb; subst zu; have zb : b = Value.ref lb := vb; subst zb; obtain ⟨itsb, rvb, plb, _⟩ := I.tuple hqb; have ilb : s.heap.IsTuple lb itsb.toArray := plb
   have e : eqD (.lst x) (.tup y) = eqD _ _ := rfl
   unfold eqD
   exact EqAt.list_tuple ila ilb (Nat.lt_of_le_of_lt (le_add_right _ _) hu)
  | lst y =>
   obtain ⟨lb, wsb, zu, hqb, hrb⟩ := bG.mp rb; subst zu; have zb : b = Value.ref lb := vb; subst zb; obtain ⟨itsb, rvb, plb, _⟩ := I.list hqb; have ilb := plb.isList
   have n1 : itsa.length = x.length := by rw [<- rva.length, hra.length]
   have n2 : itsb.length = y.length := by rw [<- rvb.length, hrb.length]
   have e : eqD (.lst x) (.lst y) = fH x y := by conv => lhs; unfold eqD
   have hd : dep (.lst x) = gO x + 1 := by conv => lhs; unfold dep
   rw [hd] at hu
   have hin : A.in1.units + gO x < cLine := by show A.units + 1 + gO x < cLine; omega
   by_cases hll : la = lb
   ·subst hll
    have := Rep.inj I px py ra rb
    rw [this, aBv _ py]
    exact EqAt.same _
   ·rw [e]
    by_cases hsz : itsa.length = itsb.length
    ·have e3 : fH x y = (List.range itsa.toArray.size).all (pairE x y) := by rw [<- mL, List.size_toArray, n1]; simp [show x.length = y.length by omega]
     rw [e3]
     refine EqAt.of_refs hll (RcAt.lists ila ilb (by simpa using hsz) (by omega) fun j j1 j2 => ?_)
     have := lC I x y A.in1 wsa wsb itsa itsb hra hrb rva rvb hin (by simpa using px) (by simpa using py) j (by simpa using j1) (by simpa using j2)
     simpa using this
    ·rw [vQ (by omega)]
     exact EqAt.of_refs hll (RcAt.lists_lengths ila ilb (by simpa using hsz) (by omega))
 | .dct _ _ _, y, A, v, u, a, b, ra, rb, va, vb, hu, px, py => by simp at px
 | .ins _ _ _, y, A, v, u, a, b, ra, rb, va, vb, hu, px, py => by simp at px
 | .exn _ _ _, y, A, v, u, a, b, ra, rb, va, vb, hu, px, py => by simp at px
 | .fn _, y, A, v, u, a, b, ra, rb, va, vb, hu, px, py => by simp at px
theorem lC (I : Inv X pins σ H s) : ∀ (xs ys : List D) (A : Around) (vs us : List V) (as bs : List Value), bA X.K H xs vs -> bA X.K H ys us -> Vals vs as -> Vals us bs -> A.units + gO xs < cLine -> fK xs = true -> fK ys = true -> ∀ (j : Nat) (h1 : j < as.length) (h2 : j < bs.length), EqAt A s as[j] bs[j] (pairE xs ys j)
 | [], _, A, vs, us, as, bs, ra, rb, va, vb, hu, px, py, j, h1, h2 => by
  have e := dM.mp ra; subst e; cases va; exact absurd h1 (Nat.not_lt_zero _)
 | x :: xs, [], A, vs, us, as, bs, ra, rb, va, vb, hu, px, py, j, h1, h2 => by
  have e := dM.mp rb; subst e; cases vb; exact absurd h2 (Nat.not_lt_zero _)
 | x :: xs, y :: ys, A, vs, us, as, bs, ra, rb, va, vb, hu, px, py, j, h1, h2 => by
  obtain ⟨v, r, e, p1, p2⟩ := cF.mp ra; subst e
  obtain ⟨u, r', e, q1, q2⟩ := cF.mp rb; subst e
  have hd : gO (x :: xs) = max (dep x) (gO xs) := by conv => lhs; unfold gO
  rw [hd] at hu
  simp only [jH, and_eq_true] at px py
  cases va with
  | cons va vas =>
   cases vb with
   | cons vb vbs =>
    cases j with
    | zero => exact aNt I x y A v u _ _ p1 q1 va vb (by omega) px.1 py.1
    | succ j => exact lC I xs ys A r r' _ _ p2 q2 vas vbs (by omega) px.2 py.2 j (Nat.lt_of_succ_lt_succ h1) (Nat.lt_of_succ_lt_succ h2)
end
theorem aNu (I : Inv X pins σ H s) : ∀ (x y : D) (A : Around) (v u : V) (a b : Value), Rep X.K H x v -> Rep X.K H y u -> RelV v a -> RelV u b -> A.units + dep x < cLine -> plain x = true -> plain y = true -> RcAt A s a b (eqD x y)
 | .non, y, A, v, u, a, b, ra, rb, va, vb, hu, px, py => by
  have zv := bV.mp ra; subst zv; have za : a = Value.none := va; subst za
  cases y with
  | dct _ _ _ => simp at py
  | ins _ _ _ => simp at py
  | exn _ _ _ => simp at py
  | fn _ => simp at py
  | non =>
   have zu := bV.mp rb; subst zu; have zb : b = Value.none := vb; subst zb
   have e : eqD (.non) (.non) = eqD _ _ := rfl
   unfold eqD
   exact RcAt.none_none
  | bl y =>
   have zu := bK.mp rb; subst zu; have zb : b = Value.bool y := vb; subst zb
   have e : eqD (.non) (.bl y) = eqD _ _ := rfl
   unfold eqD
   exact RcAt.none_bool y
  | int y =>
   have zu := aW.mp rb; subst zu; obtain ⟨tb, zb⟩ : ∃ t, b = Value.int y t := vb; subst zb
   have e : eqD (.non) (.int y) = eqD _ _ := rfl
   unfold eqD
   exact RcAt.none_int y tb
  | str y =>
   have zu := aO.mp rb; subst zu; obtain ⟨tb, zb⟩ : ∃ t, b = Value.str ⟨y.toArray⟩ t := vb; subst zb
   have e : eqD (.non) (.str y) = eqD _ _ := rfl
   unfold eqD
   exact RcAt.none_str _ tb
  | tup y =>
   obtain ⟨lb, wsb, zu, hqb, hrb⟩ := bF rb; subst zu; have zb : b = Value.ref lb := vb; subst zb; obtain ⟨itsb, rvb, plb, _⟩ := I.tuple hqb; have ilb : s.heap.IsTuple lb itsb.toArray := plb
   have e : eqD (.non) (.tup y) = eqD _ _ := rfl
   unfold eqD
   exact RcAt.none_tuple ilb (Nat.lt_of_le_of_lt (le_add_right _ _) hu)
  | lst y =>
   obtain ⟨lb, wsb, zu, hqb, hrb⟩ := bG.mp rb; subst zu; have zb : b = Value.ref lb := vb; subst zb; obtain ⟨itsb, rvb, plb, _⟩ := I.list hqb; have ilb := plb.isList
   have e : eqD (.non) (.lst y) = eqD _ _ := rfl
   unfold eqD
   exact RcAt.none_list ilb (Nat.lt_of_le_of_lt (le_add_right _ _) hu)
 | .bl x, y, A, v, u, a, b, ra, rb, va, vb, hu, px, py => by
  have zv := bK.mp ra; subst zv; have za : a = Value.bool x := va; subst za
  cases y with
  | dct _ _ _ => simp at py
  | ins _ _ _ => simp at py
  | exn _ _ _ => simp at py
  | fn _ => simp at py
  | non =>
   have zu := bV.mp rb; subst zu; have zb : b = Value.none := vb; subst zb
   have e : eqD (.bl x) (.non) = eqD _ _ := rfl
   unfold eqD
   exact RcAt.bool_none x
  | bl y =>
   have zu := bK.mp rb; subst zu; have zb : b = Value.bool y := vb; subst zb
   have e : eqD (.bl x) (.bl y) = eqD _ _ := rfl
   unfold eqD
   exact RcAt.bool_bool x y
  | int y =>
   have zu := aW.mp rb; subst zu; obtain ⟨tb, zb⟩ : ∃ t, b = Value.int y t := vb; subst zb
   have e : eqD (.bl x) (.int y) = eqD _ _ := rfl
   unfold eqD
   exact RcAt.bool_int x y tb
  | str y =>
   have zu := aO.mp rb; subst zu; obtain ⟨tb, zb⟩ : ∃ t, b = Value.str ⟨y.toArray⟩ t := vb; subst zb
   have e : eqD (.bl x) (.str y) = eqD _ _ := rfl
   unfold eqD
   exact RcAt.bool_str x _ tb
  | tup y =>
   obtain ⟨lb, wsb, zu, hqb, hrb⟩ := bF rb; subst zu; have zb : b = Value.ref lb := vb; subst zb; obtain ⟨itsb, rvb, plb, _⟩ := I.tuple hqb; have ilb : s.heap.IsTuple lb itsb.toArray := plb
   have e : eqD (.bl x) (.tup y) = eqD _ _ := rfl
   unfold eqD
   exact RcAt.bool_tuple x ilb (Nat.lt_of_le_of_lt (le_add_right _ _) hu)
  | lst y =>
   obtain ⟨lb, wsb, zu, hqb, hrb⟩ := bG.mp rb; subst zu; have zb : b = Value.ref lb := vb; subst zb; obtain ⟨itsb, rvb, plb, _⟩ := I.list hqb; have ilb := plb.isList
   have e : eqD (.bl x) (.lst y) = eqD _ _ := rfl
   unfold eqD
   exact RcAt.bool_list x ilb (Nat.lt_of_le_of_lt (le_add_right _ _) hu)
 | .int x, y, A, v, u, a, b, ra, rb, va, vb, hu, px, py => by
  have zv := aW.mp ra; subst zv; obtain ⟨ta, za⟩ : ∃ t, a = Value.int x t := va; subst za
  cases y with
  | dct _ _ _ => simp at py
  | ins _ _ _ => simp at py
  | exn _ _ _ => simp at py
  | fn _ => simp at py
  | non =>
   have zu := bV.mp rb; subst zu; have zb : b = Value.none := vb; subst zb
   have e : eqD (.int x) (.non) = eqD _ _ := rfl
   unfold eqD
   exact RcAt.int_none x ta
  | bl y =>
   have zu := bK.mp rb; subst zu; have zb : b = Value.bool y := vb; subst zb
   have e : eqD (.int x) (.bl y) = eqD _ _ := rfl
   unfold eqD
   exact RcAt.int_bool x ta y
  | int y =>
   have zu := aW.mp rb; subst zu; obtain ⟨tb, zb⟩ : ∃ t, b = Value.int y t := vb; subst zb
   have e : eqD (.int x) (.int y) = eqD _ _ := rfl
   unfold eqD
   exact RcAt.int_int x ta y tb
  | str y =>
   have zu := aO.mp rb; subst zu; obtain ⟨tb, zb⟩ : ∃ t, b = Value.str ⟨y.toArray⟩ t := vb; subst zb
   have e : eqD (.int x) (.str y) = eqD _ _ := rfl
   unfold eqD
   exact RcAt.int_str x ta _ tb
  | tup y =>
   obtain ⟨lb, wsb, zu, hqb, hrb⟩ := bF rb; subst zu; have zb : b = Value.ref lb := vb; subst zb; obtain ⟨itsb, rvb, plb, _⟩ := I.tuple hqb; have ilb : s.heap.IsTuple lb itsb.toArray := plb
   have e : eqD (.int x) (.tup y) = eqD _ _ := rfl
   unfold eqD
   exact RcAt.int_tuple x ta ilb (Nat.lt_of_le_of_lt (le_add_right _ _) hu)
  | lst y =>
   obtain ⟨lb, wsb, zu, hqb, hrb⟩ := bG.mp rb; subst zu; have zb : b = Value.ref lb := vb; subst zb; obtain ⟨itsb, rvb, plb, _⟩ := I.list hqb; have ilb := plb.isList
   have e : eqD (.int x) (.lst y) = eqD _ _ := rfl
   unfold eqD
   exact RcAt.int_list x ta ilb (Nat.lt_of_le_of_lt (le_add_right _ _) hu)
 | .str x, y, A, v, u, a, b, ra, rb, va, vb, hu, px, py => by
  have zv := aO.mp ra; subst zv; obtain ⟨ta, za⟩ : ∃ t, a = Value.str ⟨x.toArray⟩ t := va; subst za
  cases y with
  | dct _ _ _ => simp at py
  | ins _ _ _ => simp at py
  | exn _ _ _ => simp at py
  | fn _ => simp at py
  | non =>
   have zu := bV.mp rb; subst zu; have zb : b = Value.none := vb; subst zb
   have e : eqD (.str x) (.non) = eqD _ _ := rfl
   unfold eqD
   exact RcAt.str_none _ ta
  | bl y =>
   have zu := bK.mp rb; subst zu; have zb : b = Value.bool y := vb; subst zb
   have e : eqD (.str x) (.bl y) = eqD _ _ := rfl
   unfold eqD
   exact RcAt.str_bool _ ta y
  | int y =>
   have zu := aW.mp rb; subst zu; obtain ⟨tb, zb⟩ : ∃ t, b = Value.int y t := vb; subst zb
   have e : eqD (.str x) (.int y) = eqD _ _ := rfl
   unfold eqD
   exact RcAt.str_int _ ta y tb
  | str y =>
   have zu := aO.mp rb; subst zu; obtain ⟨tb, zb⟩ : ∃ t, b = Value.str ⟨y.toArray⟩ t := vb; subst zb
   have e : eqD (.str x) (.str y) = ((⟨x.toArray⟩ : Str) == ⟨y.toArray⟩) := by rw [<- str_beq]; unfold eqD; simp
   rw [e]
   exact RcAt.str_str _ ta _ tb
  | tup y =>
   obtain ⟨lb, wsb, zu, hqb, hrb⟩ := bF rb; subst zu; have zb : b = Value.ref lb := vb; subst zb; obtain ⟨itsb, rvb, plb, _⟩ := I.tuple hqb; have ilb : s.heap.IsTuple lb itsb.toArray := plb
   have e : eqD (.str x) (.tup y) = eqD _ _ := rfl
   unfold eqD
   exact RcAt.str_tuple _ ta ilb (Nat.lt_of_le_of_lt (le_add_right _ _) hu)
  | lst y =>
   obtain ⟨lb, wsb, zu, hqb, hrb⟩ := bG.mp rb; subst zu; have zb : b = Value.ref lb := vb; subst zb; obtain ⟨itsb, rvb, plb, _⟩ := I.list hqb; have ilb := plb.isList
   have e : eqD (.str x) (.lst y) = eqD _ _ := rfl
   unfold eqD
   exact RcAt.str_list _ ta ilb (Nat.lt_of_le_of_lt (le_add_right _ _) hu)
 | .tup x, y, A, v, u, a, b, ra, rb, va, vb, hu, px, py => by
  obtain ⟨la, wsa, zv, hqa, hra⟩ := bF ra; subst zv; have za : a = Value.ref la := va; subst za; obtain ⟨itsa, rva, pla, _⟩ := I.tuple hqa; have ila : s.heap.IsTuple la itsa.toArray := pla
  cases y with
  | dct _ _ _ => simp at py
  | ins _ _ _ => simp at py
  | exn _ _ _ => simp at py
  | fn _ => simp at py
  | non =>
   have zu := bV.mp rb; subst zu; have zb : b = Value.none := vb; subst zb
   have e : eqD (.tup x) (.non) = eqD _ _ := rfl
   unfold eqD
   exact RcAt.tuple_none ila (Nat.lt_of_le_of_lt (le_add_right _ _) hu)
  | bl y =>
   have zu := bK.mp rb; subst zu; have zb : b = Value.bool y := vb; subst zb
   have e : eqD (.tup x) (.bl y) = eqD _ _ := rfl
   unfold eqD
   exact RcAt.tuple_bool y ila (Nat.lt_of_le_of_lt (le_add_right _ _) hu)
  | int y =>
   have zu := aW.mp rb; subst zu; obtain ⟨tb, zb⟩ : ∃ t, b = Value.int y t := vb; subst zb
   have e : eqD (.tup x) (.int y) = eqD _ _ := rfl
   unfold eqD
   exact RcAt.tuple_int y tb ila (Nat.lt_of_le_of_lt (le_add_right _ _) hu)
  | str y =>
   have zu := aO.mp rb; subst zu; obtain ⟨tb, zb⟩ : ∃ t, b = Value.str ⟨y.toArray⟩ t := vb; subst zb
   have e : eqD (.tup x) (.str y) = eqD _ _ := rfl
   unfold eqD
   exact RcAt.tuple_str _ tb ila (Nat.lt_of_le_of_lt (le_add_right _ _) hu)
  | tup y =>
   obtain ⟨lb, wsb, zu, hqb, hrb⟩ := bF rb; subst zu; have zb : b = Value.ref lb := vb; subst zb; obtain ⟨itsb, rvb, plb, _⟩ := I.tuple hqb; have ilb : s.heap.IsTuple lb itsb.toArray := plb
   have n1 : itsa.length = x.length := by rw [<- rva.length, hra.length]
   have n2 : itsb.length = y.length := by rw [<- rvb.length, hrb.length]
   have e : eqD (.tup x) (.tup y) = fH x y := by conv => lhs; unfold eqD
   have hd : dep (.tup x) = gO x + 1 := by conv => lhs; unfold dep
   rw [hd] at hu
   have hin : A.in1.units + gO x < cLine := by show A.units + 1 + gO x < cLine; omega
   rw [e]
   have e3 : fH x y = ((List.range (min itsa.toArray.size itsb.toArray.size)).all (pairE x y) && itsa.toArray.size == itsb.toArray.size) := by rw [<- mL, List.size_toArray, List.size_toArray, n1, n2]
   rw [e3]
   refine  (RcAt.tuples ila ilb (by omega) fun j j1 j2 => ?_)
   have := lC I x y A.in1 wsa wsb itsa itsb hra hrb rva rvb hin (by simpa using px) (by simpa using py) j (by simpa using j1) (by simpa using j2)
   simpa using this
  | lst y =>
   obtain ⟨lb, wsb, zu, hqb, hrb⟩ := bG.mp rb; subst zu; have zb : b = Value.ref lb := vb; subst zb; obtain ⟨itsb, rvb, plb, _⟩ := I.list hqb; have ilb := plb.isList
   have e : eqD (.tup x) (.lst y) = eqD _ _ := rfl
   unfold eqD
   exact RcAt.tuple_list ila ilb (Nat.lt_of_le_of_lt (le_add_right _ _) hu)
 | .lst x, y, A, v, u, a, b, ra, rb, va, vb, hu, px, py => by
  obtain ⟨la, wsa, zv, hqa, hra⟩ := bG.mp ra; subst zv; have za : a = Value.ref la := va; subst za; obtain ⟨itsa, rva, pla, _⟩ := I.list hqa; have ila := pla.isList
  cases y with
  | dct _ _ _ => simp at py
  | ins _ _ _ => simp at py
  | exn _ _ _ => simp at py
  | fn _ => simp at py
  | non =>
   have zu := bV.mp rb; subst zu; have zb : b = Value.none := vb; subst zb
   have e : eqD (.lst x) (.non) = eqD _ _ := rfl
   unfold eqD
   exact RcAt.list_none ila (Nat.lt_of_le_of_lt (le_add_right _ _) hu)
  | bl y =>
   have zu := bK.mp rb; subst zu; have zb : b = Value.bool y := vb; subst zb
   have e : eqD (.lst x) (.bl y) = eqD _ _ := rfl
   unfold eqD
   exact RcAt.list_bool y ila (Nat.lt_of_le_of_lt (le_add_right _ _) hu)
  | int y =>
   have zu := aW.mp rb; subst zu; obtain ⟨tb, zb⟩ : ∃ t, b = Value.int y t := vb; subst zb
   have e : eqD (.lst x) (.int y) = eqD _ _ := rfl
   unfold eqD
   exact RcAt.list_int y tb ila (Nat.lt_of_le_of_lt (le_add_right _ _) hu)
  | str y =>
   have zu := aO.mp rb; subst zu; obtain ⟨tb, zb⟩ : ∃ t, b = Value.str ⟨y.toArray⟩ t := vb; subst zb
   have e : eqD (.lst x) (.str y) = eqD _ _ := rfl
   unfold eqD
   exact RcAt.list_str _ tb ila (Nat.lt_of_le_of_lt (le_add_right _ _) hu)
  | tup y =>
   obtain ⟨lb, wsb, zu, hqb, hrb⟩ := bF rb; subst zu; have zb : b = Value.ref lb := vb; subst zb; obtain ⟨itsb, rvb, plb, _⟩ := I.tuple hqb; have ilb : s.heap.IsTuple lb itsb.toArray := plb
   have e : eqD (.lst x) (.tup y) = eqD _ _ := rfl
   unfold eqD
   exact RcAt.list_tuple ila ilb (Nat.lt_of_le_of_lt (le_add_right _ _) hu)
  | lst y =>
   obtain ⟨lb, wsb, zu, hqb, hrb⟩ := bG.mp rb; subst zu; have zb : b = Value.ref lb := vb; subst zb; obtain ⟨itsb, rvb, plb, _⟩ := I.list hqb; have ilb := plb.isList
   have n1 : itsa.length = x.length := by rw [<- rva.length, hra.length]
   have n2 : itsb.length = y.length := by rw [<- rvb.length, hrb.length]
   have e : eqD (.lst x) (.lst y) = fH x y := by conv => lhs; unfold eqD
   have hd : dep (.lst x) = gO x + 1 := by conv => lhs; unfold dep
   rw [hd] at hu
   have hin : A.in1.units + gO x < cLine := by show A.units + 1 + gO x < cLine; omega
   rw [e]
   by_cases hsz : itsa.length = itsb.length
   ·have e3 : fH x y = (List.range itsa.toArray.size).all (pairE x y) := by rw [<- mL, List.size_toArray, n1]; simp [show x.length = y.length by omega]
    rw [e3]
    refine  (RcAt.lists ila ilb (by simpa using hsz) (by omega) fun j j1 j2 => ?_)
    have := lC I x y A.in1 wsa wsb itsa itsb hra hrb rva rvb hin (by simpa using px) (by simpa using py) j (by simpa using j1) (by simpa using j2)
    simpa using this
   ·rw [vQ (by omega)]
    exact  (RcAt.lists_lengths ila ilb (by simpa using hsz) (by omega))
 | .dct _ _ _, y, A, v, u, a, b, ra, rb, va, vb, hu, px, py => by simp at px
 | .ins _ _ _, y, A, v, u, a, b, ra, rb, va, vb, hu, px, py => by simp at px
 | .exn _ _ _, y, A, v, u, a, b, ra, rb, va, vb, hu, px, py => by simp at px
 | .fn _, y, A, v, u, a, b, ra, rb, va, vb, hu, px, py => by simp at px
theorem aNv (I : Inv X pins σ H s) : ∀ (x y : D) (A : Around) (v u : V) (a b : Value), Rep X.K H x v -> Rep X.K H y u -> RelV v a -> RelV u b -> A.units + dep x < cLine -> plain x = true -> plain y = true -> RcNeAt A s a b (!eqD x y)
 | .non, y, A, v, u, a, b, ra, rb, va, vb, hu, px, py => by
  have zv := bV.mp ra; subst zv; have za : a = Value.none := va; subst za
  cases y with
  | dct _ _ _ => simp at py
  | ins _ _ _ => simp at py
  | exn _ _ _ => simp at py
  | fn _ => simp at py
  | non =>
   have zu := bV.mp rb; subst zu; have zb : b = Value.none := vb; subst zb
   have e : eqD (.non) (.non) = eqD _ _ := rfl
   unfold eqD
   exact RcNeAt.none_none
  | bl y =>
   have zu := bK.mp rb; subst zu; have zb : b = Value.bool y := vb; subst zb
   have e : eqD (.non) (.bl y) = eqD _ _ := rfl
   unfold eqD
   exact RcNeAt.none_bool y
  | int y =>
   have zu := aW.mp rb; subst zu; obtain ⟨tb, zb⟩ : ∃ t, b = Value.int y t := vb; subst zb
   have e : eqD (.non) (.int y) = eqD _ _ := rfl
   unfold eqD
   exact RcNeAt.none_int y tb
  | str y =>
   have zu := aO.mp rb; subst zu; obtain ⟨tb, zb⟩ : ∃ t, b = Value.str ⟨y.toArray⟩ t := vb; subst zb
   have e : eqD (.non) (.str y) = eqD _ _ := rfl
   unfold eqD
   exact RcNeAt.none_str _ tb
  | tup y =>
   obtain ⟨lb, wsb, zu, hqb, hrb⟩ := bF rb; subst zu; have zb : b = Value.ref lb := vb; subst zb; obtain ⟨itsb, rvb, plb, _⟩ := I.tuple hqb; have ilb : s.heap.IsTuple lb itsb.toArray := plb
   have e : eqD (.non) (.tup y) = eqD _ _ := rfl
   unfold eqD
   exact RcNeAt.none_tuple ilb (Nat.lt_of_le_of_lt (le_add_right _ _) hu)
  | lst y =>
   obtain ⟨lb, wsb, zu, hqb, hrb⟩ := bG.mp rb; subst zu; have zb : b = Value.ref lb := vb; subst zb; obtain ⟨itsb, rvb, plb, _⟩ := I.list hqb; have ilb := plb.isList
   have e : eqD (.non) (.lst y) = eqD _ _ := rfl
   unfold eqD
   exact RcNeAt.none_list ilb (Nat.lt_of_le_of_lt (le_add_right _ _) hu)
 | .bl x, y, A, v, u, a, b, ra, rb, va, vb, hu, px, py => by
  have zv := bK.mp ra; subst zv; have za : a = Value.bool x := va; subst za
  cases y with
  | dct _ _ _ => simp at py
  | ins _ _ _ => simp at py
  | exn _ _ _ => simp at py
  | fn _ => simp at py
  | non =>
   have zu := bV.mp rb; subst zu; have zb : b = Value.none := vb; subst zb
   have e : eqD (.bl x) (.non) = eqD _ _ := rfl
   unfold eqD
   exact RcNeAt.bool_none x
  | bl y =>
   have zu := bK.mp rb; subst zu; have zb : b = Value.bool y := vb; subst zb
   have e : eqD (.bl x) (.bl y) = eqD _ _ := rfl
   unfold eqD
   exact RcNeAt.bool_bool x y
  | int y =>
   have zu := aW.mp rb; subst zu; obtain ⟨tb, zb⟩ : ∃ t, b = Value.int y t := vb; subst zb
   have e : eqD (.bl x) (.int y) = eqD _ _ := rfl
   unfold eqD
   exact RcNeAt.bool_int x y tb
  | str y =>
   have zu := aO.mp rb; subst zu; obtain ⟨tb, zb⟩ : ∃ t, b = Value.str ⟨y.toArray⟩ t := vb; subst zb
   have e : eqD (.bl x) (.str y) = eqD _ _ := rfl
   unfold eqD
   exact RcNeAt.bool_str x _ tb
  | tup y =>
   obtain ⟨lb, wsb, zu, hqb, hrb⟩ := bF rb; subst zu; have zb : b = Value.ref lb := vb; subst zb; obtain ⟨itsb, rvb, plb, _⟩ := I.tuple hqb; have ilb : s.heap.IsTuple lb itsb.toArray := plb
   have e : eqD (.bl x) (.tup y) = eqD _ _ := rfl
   unfold eqD
   exact RcNeAt.bool_tuple x ilb (Nat.lt_of_le_of_lt (le_add_right _ _) hu)
  | lst y =>
   obtain ⟨lb, wsb, zu, hqb, hrb⟩ := bG.mp rb; subst zu; have zb : b = Value.ref lb := vb; subst zb; obtain ⟨itsb, rvb, plb, _⟩ := I.list hqb; have ilb := plb.isList
   have e : eqD (.bl x) (.lst y) = eqD _ _ := rfl
   unfold eqD
   exact RcNeAt.bool_list x ilb (Nat.lt_of_le_of_lt (le_add_right _ _) hu)
 | .int x, y, A, v, u, a, b, ra, rb, va, vb, hu, px, py => by
  have zv := aW.mp ra; subst zv; obtain ⟨ta, za⟩ : ∃ t, a = Value.int x t := va; subst za
  cases y with
  | dct _ _ _ => simp at py
  | ins _ _ _ => simp at py
  | exn _ _ _ => simp at py
  | fn _ => simp at py
  | non =>
   have zu := bV.mp rb; subst zu; have zb : b = Value.none := vb; subst zb
   have e : eqD (.int x) (.non) = eqD _ _ := rfl
   unfold eqD
   exact RcNeAt.int_none x ta
  | bl y =>
   have zu := bK.mp rb; subst zu; have zb : b = Value.bool y := vb; subst zb
   have e : eqD (.int x) (.bl y) = eqD _ _ := rfl
   unfold eqD
   exact RcNeAt.int_bool x ta y
  | int y =>
   have zu := aW.mp rb; subst zu; obtain ⟨tb, zb⟩ : ∃ t, b = Value.int y t := vb; subst zb
   have e : eqD (.int x) (.int y) = eqD _ _ := rfl
   unfold eqD
   exact RcNeAt.int_int x ta y tb
  | str y =>
   have zu := aO.mp rb; subst zu; obtain ⟨tb, zb⟩ : ∃ t, b = Value.str ⟨y.toArray⟩ t := vb; subst zb
   have e : eqD (.int x) (.str y) = eqD _ _ := rfl
   unfold eqD
   exact RcNeAt.int_str x ta _ tb
  | tup y =>
   obtain ⟨lb, wsb, zu, hqb, hrb⟩ := bF rb; subst zu; have zb : b = Value.ref lb := vb; subst zb; obtain ⟨itsb, rvb, plb, _⟩ := I.tuple hqb; have ilb : s.heap.IsTuple lb itsb.toArray := plb
   have e : eqD (.int x) (.tup y) = eqD _ _ := rfl
   unfold eqD
   exact RcNeAt.int_tuple x ta ilb (Nat.lt_of_le_of_lt (le_add_right _ _) hu)
  | lst y =>
   obtain ⟨lb, wsb, zu, hqb, hrb⟩ := bG.mp rb; subst zu; have zb : b = Value.ref lb := vb; subst zb; obtain ⟨itsb, rvb, plb, _⟩ := I.list hqb; have ilb := plb.isList
   have e : eqD (.int x) (.lst y) = eqD _ _ := rfl
   unfold eqD
   exact RcNeAt.int_list x ta ilb (Nat.lt_of_le_of_lt (le_add_right _ _) hu)
 | .str x, y, A, v, u, a, b, ra, rb, va, vb, hu, px, py => by
  have zv := aO.mp ra; subst zv; obtain ⟨ta, za⟩ : ∃ t, a = Value.str ⟨x.toArray⟩ t := va; subst za
  cases y with
  | dct _ _ _ => simp at py
  | ins _ _ _ => simp at py
  | exn _ _ _ => simp at py
  | fn _ => simp at py
  | non =>
   have zu := bV.mp rb; subst zu; have zb : b = Value.none := vb; subst zb
   have e : eqD (.str x) (.non) = eqD _ _ := rfl
   unfold eqD
   exact RcNeAt.str_none _ ta
  | bl y =>
   have zu := bK.mp rb; subst zu; have zb : b = Value.bool y := vb; subst zb
   have e : eqD (.str x) (.bl y) = eqD _ _ := rfl
   unfold eqD
   exact RcNeAt.str_bool _ ta y
  | int y =>
   have zu := aW.mp rb; subst zu; obtain ⟨tb, zb⟩ : ∃ t, b = Value.int y t := vb; subst zb
   have e : eqD (.str x) (.int y) = eqD _ _ := rfl
   unfold eqD
   exact RcNeAt.str_int _ ta y tb
  | str y =>
   have zu := aO.mp rb; subst zu; obtain ⟨tb, zb⟩ : ∃ t, b = Value.str ⟨y.toArray⟩ t := vb; subst zb
   have e : eqD (.str x) (.str y) = ((⟨x.toArray⟩ : Str) == ⟨y.toArray⟩) := by rw [<- str_beq]; unfold eqD; simp
   rw [e]
   exact RcNeAt.str_str _ ta _ tb
  | tup y =>
   obtain ⟨lb, wsb, zu, hqb, hrb⟩ := bF rb; subst zu; have zb : b = Value.ref lb := vb; subst zb; obtain ⟨itsb, rvb, plb, _⟩ := I.tuple hqb; have ilb : s.heap.IsTuple lb itsb.toArray := plb
   have e : eqD (.str x) (.tup y) = eqD _ _ := rfl
   unfold eqD
   exact RcNeAt.str_tuple _ ta ilb (Nat.lt_of_le_of_lt (le_add_right _ _) hu)
  | lst y =>
   obtain ⟨lb, wsb, zu, hqb, hrb⟩ := bG.mp rb; subst zu; have zb : b = Value.ref lb := vb; subst zb; obtain ⟨itsb, rvb, plb, _⟩ := I.list hqb; have ilb := plb.isList
   have e : eqD (.str x) (.lst y) = eqD _ _ := rfl
   unfold eqD
   exact RcNeAt.str_list _ ta ilb (Nat.lt_of_le_of_lt (le_add_right _ _) hu)
 | .tup x, y, A, v, u, a, b, ra, rb, va, vb, hu, px, py => by
  obtain ⟨la, wsa, zv, hqa, hra⟩ := bF ra; subst zv; have za : a = Value.ref la := va; subst za; obtain ⟨itsa, rva, pla, _⟩ := I.tuple hqa; have ila : s.heap.IsTuple la itsa.toArray := pla
  cases y with
  | dct _ _ _ => simp at py
  | ins _ _ _ => simp at py
  | exn _ _ _ => simp at py
  | fn _ => simp at py
  | non =>
   have zu := bV.mp rb; subst zu; have zb : b = Value.none := vb; subst zb
   have e : eqD (.tup x) (.non) = eqD _ _ := rfl
   unfold eqD
   exact RcNeAt.tuple_none ila (Nat.lt_of_le_of_lt (le_add_right _ _) hu)
  | bl y =>
   have zu := bK.mp rb; subst zu; have zb : b = Value.bool y := vb; subst zb
   have e : eqD (.tup x) (.bl y) = eqD _ _ := rfl
   unfold eqD
   exact RcNeAt.tuple_bool y ila (Nat.lt_of_le_of_lt (le_add_right _ _) hu)
  | int y =>
   have zu := aW.mp rb; subst zu; obtain ⟨tb, zb⟩ : ∃ t, b = Value.int y t := vb; subst zb
   have e : eqD (.tup x) (.int y) = eqD _ _ := rfl
   unfold eqD
   exact RcNeAt.tuple_int y tb ila (Nat.lt_of_le_of_lt (le_add_right _ _) hu)
  | str y =>
   have zu := aO.mp rb; subst zu; obtain ⟨tb, zb⟩ : ∃ t, b = Value.str ⟨y.toArray⟩ t := vb; subst zb
   have e : eqD (.tup x) (.str y) = eqD _ _ := rfl
   unfold eqD
   exact RcNeAt.tuple_str _ tb ila (Nat.lt_of_le_of_lt (le_add_right _ _) hu)
  | tup y =>
   obtain ⟨lb, wsb, zu, hqb, hrb⟩ := bF rb; subst zu; have zb : b = Value.ref lb := vb; subst zb; obtain ⟨itsb, rvb, plb, _⟩ := I.tuple hqb; have ilb : s.heap.IsTuple lb itsb.toArray := plb
   have n1 : itsa.length = x.length := by rw [<- rva.length, hra.length]
   have n2 : itsb.length = y.length := by rw [<- rvb.length, hrb.length]
   have e : eqD (.tup x) (.tup y) = fH x y := by conv => lhs; unfold eqD
   have hd : dep (.tup x) = gO x + 1 := by conv => lhs; unfold dep
   rw [hd] at hu
   have hin : A.in1.units + gO x < cLine := by show A.units + 1 + gO x < cLine; omega
   rw [e]
   have e3 : fH x y = ((List.range (min itsa.toArray.size itsb.toArray.size)).all (pairE x y) && itsa.toArray.size == itsb.toArray.size) := by rw [<- mL, List.size_toArray, List.size_toArray, n1, n2]
   rw [e3]
   refine  (RcNeAt.tuples ila ilb (by omega) fun j j1 j2 => ?_)
   have := lC I x y A.in1 wsa wsb itsa itsb hra hrb rva rvb hin (by simpa using px) (by simpa using py) j (by simpa using j1) (by simpa using j2)
   simpa using this
  | lst y =>
   obtain ⟨lb, wsb, zu, hqb, hrb⟩ := bG.mp rb; subst zu; have zb : b = Value.ref lb := vb; subst zb; obtain ⟨itsb, rvb, plb, _⟩ := I.list hqb; have ilb := plb.isList
   have e : eqD (.tup x) (.lst y) = eqD _ _ := rfl
   unfold eqD
   exact RcNeAt.tuple_list ila ilb (Nat.lt_of_le_of_lt (le_add_right _ _) hu)
 | .lst x, y, A, v, u, a, b, ra, rb, va, vb, hu, px, py => by
  obtain ⟨la, wsa, zv, hqa, hra⟩ := bG.mp ra; subst zv; have za : a = Value.ref la := va; subst za; obtain ⟨itsa, rva, pla, _⟩ := I.list hqa; have ila := pla.isList
  cases y with
  | dct _ _ _ => simp at py
  | ins _ _ _ => simp at py
  | exn _ _ _ => simp at py
  | fn _ => simp at py
  | non =>
   have zu := bV.mp rb; subst zu; have zb : b = Value.none := vb; subst zb
   have e : eqD (.lst x) (.non) = eqD _ _ := rfl
   unfold eqD
   exact RcNeAt.list_none ila (Nat.lt_of_le_of_lt (le_add_right _ _) hu)
  | bl y =>
   have zu := bK.mp rb; subst zu; have zb : b = Value.bool y := vb; subst zb
   have e : eqD (.lst x) (.bl y) = eqD _ _ := rfl
   unfold eqD
   exact RcNeAt.list_bool y ila (Nat.lt_of_le_of_lt (le_add_right _ _) hu)
  | int y =>
   have zu := aW.mp rb; subst zu; obtain ⟨tb, zb⟩ : ∃ t, b = Value.int y t := vb; subst zb
   have e : eqD (.lst x) (.int y) = eqD _ _ := rfl
   unfold eqD
   exact RcNeAt.list_int y tb ila (Nat.lt_of_le_of_lt (le_add_right _ _) hu)
  | str y =>
   have zu := aO.mp rb; subst zu; obtain ⟨tb, zb⟩ : ∃ t, b = Value.str ⟨y.toArray⟩ t := vb; subst zb
   have e : eqD (.lst x) (.str y) = eqD _ _ := rfl
   unfold eqD
   exact RcNeAt.list_str _ tb ila (Nat.lt_of_le_of_lt (le_add_right _ _) hu)
  | tup y =>
   obtain ⟨lb, wsb, zu, hqb, hrb⟩ := bF rb; subst zu; have zb : b = Value.ref lb := vb; subst zb; obtain ⟨itsb, rvb, plb, _⟩ := I.tuple hqb; have ilb : s.heap.IsTuple lb itsb.toArray := plb
   have e : eqD (.lst x) (.tup y) = eqD _ _ := rfl
   unfold eqD
   exact RcNeAt.list_tuple ila ilb (Nat.lt_of_le_of_lt (le_add_right _ _) hu)
  | lst y =>
   obtain ⟨lb, wsb, zu, hqb, hrb⟩ := bG.mp rb; subst zu; have zb : b = Value.ref lb := vb; subst zb; obtain ⟨itsb, rvb, plb, _⟩ := I.list hqb; have ilb := plb.isList
   have n1 : itsa.length = x.length := by rw [<- rva.length, hra.length]
   have n2 : itsb.length = y.length := by rw [<- rvb.length, hrb.length]
   have e : eqD (.lst x) (.lst y) = fH x y := by conv => lhs; unfold eqD
   have hd : dep (.lst x) = gO x + 1 := by conv => lhs; unfold dep
   rw [hd] at hu
   have hin : A.in1.units + gO x < cLine := by show A.units + 1 + gO x < cLine; omega
   rw [e]
   by_cases hsz : itsa.length = itsb.length
   ·have e3 : fH x y = (List.range itsa.toArray.size).all (pairE x y) := by rw [<- mL, List.size_toArray, n1]; simp [show x.length = y.length by omega]
    rw [e3]
    refine  (RcNeAt.lists ila ilb (by simpa using hsz) (by omega) fun j j1 j2 => ?_)
    have := lC I x y A.in1 wsa wsb itsa itsb hra hrb rva rvb hin (by simpa using px) (by simpa using py) j (by simpa using j1) (by simpa using j2)
    simpa using this
   ·rw [vQ (by omega)]
    exact  (RcNeAt.lists_lengths ila ilb (by simpa using hsz) (by omega))
 | .dct _ _ _, y, A, v, u, a, b, ra, rb, va, vb, hu, px, py => by simp at px
 | .ins _ _ _, y, A, v, u, a, b, ra, rb, va, vb, hu, px, py => by simp at px
 | .exn _ _ _, y, A, v, u, a, b, ra, rb, va, vb, hu, px, py => by simp at px
 | .fn _, y, A, v, u, a, b, ra, rb, va, vb, hu, px, py => by simp at px
end
end Pu
namespace Pu
open PySem PySem.Spec PyProof.Rows L2
section
variable {X : Cx} {B : List Addr} {a b e : Expr} {f g : Ex} {pos : Pos}
theorem nG.rep {K : Frag} {A : List Addr} {H : Hp} {d : D} {v : V} (h : nG K A H d v) : Rep K H d v := by
 rcases h with h | ⟨a, k, o, ds, vs, e1, e2, e3, ko, q⟩
 ·exact h.mono (aY _ _)
 ·subst e1 e2
  exact ko.rep e3 (q.mono (aY _ _))
def aQn (K : Frag) (neg : Bool) : R2 := fun v u H Q => ∃ x y, Rep K H x v /\ Rep K H y u /\ (dep x <= 64 /\ plain x = true /\ plain y = true) /\ Q (.bl (if neg then !eqD x y else eqD x y)) H
theorem mU (hu : X.A.units + 64 < cLine) : OpR X (compareOp .Eq) (aQn X.K false) := by
 intro pins s σ H v u a b Q I ra rb h
 obtain ⟨x, y, rx, ry, hd, q⟩ := h
 exact aNu I x y X.A v u a b rx ry ra rb (by omega) hd.2.1 hd.2.2 X.prog X.w X.xe _ ⟨.bl _, H, I, rfl, q⟩
theorem tE (hu : X.A.units + 64 < cLine) : OpR X (compareOp .NotEq) (aQn X.K true) := by
 intro pins s σ H v u a b Q I ra rb h
 obtain ⟨x, y, rx, ry, hd, q⟩ := h
 exact aNv I x y X.A v u a b rx ry ra rb (by omega) hd.2.1 hd.2.2 X.prog X.w X.xe _ ⟨.bl _, H, I, rfl, q⟩
theorem mV {K : Frag} : zG K (aQn K false) dEq := by
 intro A H x y d v u Q w rx ry e q
 obtain ⟨c, e⟩ := aJ e
 cases e
 exact ⟨x, y, rx.rep, ry.rep, c, q _ H (aM.refl _) (bK.mpr rfl)⟩
theorem tH {K : Frag} : zG K (aQn K true) dNe := by
 intro A H x y d v u Q w rx ry e q
 obtain ⟨c, e⟩ := aJ e
 cases e
 exact ⟨x, y, rx.rep, ry.rep, c, q _ H (aM.refl _) (bK.mpr rfl)⟩
def tyD : D -> String
 | .non => "NoneType"
 | .bl _ => "bool"
 | .int _ => "int"
 | .str _ => "str"
 | .tup _ => "tuple"
 | .lst _ => "list"
 | .dct _ _ _ => "dict"
 | .ins _ _ _ => ""
 | .exn _ _ _ => ""
 | .fn _ => ""
structure IsT (T : String) (p : D -> Bool) : Prop where
 boot : bootBuiltins T = some (.type T)
 ans : ∀ (K : Frag) (d : D), oH d = true -> kitOne K (.type (tyD d)) (.type T) = some (p d)
theorem aNw {T : String} {p : D -> Bool} (h : IsT T p) : mC X (.builtin "isinstance") (fun xs H Q => ∃ v d, xs = [v, .ty T] /\ oH d = true /\ Rep X.K H d v /\ Q (.bl (p d)) H) := by
 intro pins s σ H xs us Q I r q
 obtain ⟨v, d, rfl, hbl, rd, q⟩ := q
 obtain ⟨u, u2, rfl, ru, ru2⟩ := r.two
 have e2 : u2 = Value.type T := ru2
 subst e2
 have fin : ∀ tk, EP X pins σ Q (.bool (p d)) { s with toks := tk } := fun tk => ⟨.bl (p d), H, I.tok tk, rfl, q⟩
 have e := h.ans X.K d hbl
 cases d with
 | non => have z := bV.mp rd; subst z; have z : u = Value.none := ru; subst z; exact kia_one PySem.W.kitx_none I.kIn True.intro e (fun z => nomatch z) fin
 | bl x => have z := bK.mp rd; subst z; have z : u = Value.bool x := ru; subst z; exact kia_one PySem.W.kitx_bool I.kIn True.intro e (fun z => nomatch z) fin
 | int x => have z := aW.mp rd; subst z; obtain ⟨t, z⟩ : ∃ t, u = Value.int x t := ru; subst z; exact kia_one PySem.W.kitx_int I.kIn True.intro e (fun z => nomatch z) fin
 | str x => have z := aO.mp rd; subst z; obtain ⟨t, z⟩ : ∃ t, u = Value.str ⟨x.toArray⟩ t := ru; subst z; exact kia_one PySem.W.kitx_str I.kIn True.intro e (fun z => nomatch z) fin
 | tup x =>
  obtain ⟨l, vs, z, hq, _⟩ := bF rd; subst z
  have z : u = Value.ref l := ru; subst z
  obtain ⟨its, _, ⟨o, h1, h2, _⟩, _⟩ := I.tuple hq
  exact kia_one PySem.W.kitx_tuple I.kIn ⟨o, h1, h2⟩ e (fun z => nomatch z) fin
 | lst x =>
  obtain ⟨l, vs, z, hq, _⟩ := bG.mp rd; subst z
  have z : u = Value.ref l := ru; subst z
  obtain ⟨its, _, ⟨o, n, h1, h2, _⟩, _⟩ := I.list hq
  exact kia_one PySem.W.kitx_list I.kIn ⟨o, h1, h2⟩ e (fun z => nomatch z) fin
 | dct t ks x =>
  obtain ⟨l, vs, z, hq, _⟩ := aAo.mp rd; subst z
  have z : u = Value.ref l := ru; subst z
  have hd : ∃ o, s.heap.get? l = some o /\ o.ExactDict := by
   rcases hq with ⟨_, kvs, hq, _⟩ | ⟨_, kvs, hq, _⟩
   ·obtain ⟨_, _, vs', _, m⟩ : kvs.length <= sizeLine /\ (l == sysModules) = false /\ ∃ vs, KV kvs vs /\ s.heap.DictOf (jM X.prog X.w) l vs := I.hok l _ hq
    obtain ⟨o, es, n, h1, h2, _⟩ := m
    exact ⟨o, h1, h2⟩
   ·obtain ⟨_, _, xs, _, o, es, ep, h1, h2, _⟩ := I.hok l _ hq
    exact ⟨o, h1, h2⟩
  obtain ⟨o, h1, h2⟩ := hd
  exact kia_one PySem.W.kitx_dict I.kIn ⟨o, h1, h2.1⟩ e (fun z => nomatch z) fin
 | ins _ _ _ => exact nomatch hbl
 | exn _ _ _ => exact nomatch hbl
 | fn _ => exact nomatch hbl
theorem tK {T : Str} {S : String} {p : D -> Bool}  (hT : IsT S p) (hm : X.mg "isinstance" = none) (hmT : X.mg T = none) (ha : PE X a (tP X.K B f)) (hST : bootBuiltins T = some (.type S) := by first | rfl | exact hT.boot) (hg : Gl X "isinstance" := by rfl) (hgT : Gl X T := by rfl) (hnT : T ≠ "__name__" := by decide) (hdT : (T == ("__debug__" : Str)) = false := by decide)
  (hs : starEach [a, .Name T p1] X.env = (false, eval a X.env) :: starEach [.Name T p1] X.env := by rfl) (hs2 : starEach [.Name T p1] X.env = (false, eval (.Name T p1) X.env) :: starEach [] X.env := by rfl) :
  PE X (.Call (.Name "isinstance" p0) [a, .Name T p1] [] pos) (tI X.K B (eB p f)) := by
 have hTy : PE X (.Name T p1) (tC (.ty S)) := aP4 hgT hmT hST rfl hnT hdT
 refine cW (pU (aNw hT) hg hm boot_isinstance (dC ha (dC hTy gG hs2) hs) (he := hs)) ?_
 rintro σ H Q ⟨A, st, d, rs, hd, q⟩
 obtain ⟨x, hx, h2⟩ := R.ok_of hd
 obtain ⟨hbl, h2⟩ := aJ h2
 cases h2
 exact ⟨A, st, x, rs, hx, fun v H1 s1 r1 => ⟨v, x, rfl, hbl, r1.rep, q _ H1 s1 (bK.mpr rfl)⟩⟩
theorem ty_str : IsT "str" aK5 := ⟨rfl, fun K d hb => by cases d <;> first | (cases hb; done) | kernel_rfl⟩
theorem ty_bool : IsT "bool" aK6 := ⟨rfl, fun K d hb => by cases d <;> first | (cases hb; done) | kernel_rfl⟩
theorem ty_int : IsT "int" isIn := ⟨rfl, fun K d hb => by cases d <;> first | (cases hb; done) | kernel_rfl⟩
theorem ty_list : IsT "list" aE1 := ⟨rfl, fun K d hb => by cases d <;> first | (cases hb; done) | kernel_rfl⟩
theorem aBw (z : List Nat) : ∀ (n : Nat) (acc : List Nat), (List.replicate n z.toArray).foldl (· ++ ·) acc.toArray = (acc ++ rep n z).toArray
 | 0, acc => by simp [rep]
 | n + 1, acc => by
  rw [List.replicate_succ, List.foldl_cons]
  have e : acc.toArray ++ z.toArray = (acc ++ z).toArray := by simp
  rw [e, aBw z n (acc ++ z)]
  unfold rep
  rw [List.replicate_succ, flatten_cons, List.append_assoc]
theorem aQo (z : List Nat) (n : Nat) : (rep n z).length = n * z.length := by
 unfold rep
 induction n with
 | zero => simp
 | succ n ih => rw [List.replicate_succ, flatten_cons, length_append, ih, Nat.succ_mul, Nat.add_comm]
theorem aNx (n : Nat) : rep n ([] : List α) = [] := by
 unfold rep
 induction n with
 | zero => rfl
 | succ n ih => rw [List.replicate_succ, flatten_cons, ih]; rfl
def aX1 : R2 := fun x y H Q => ∃ (z : List Nat) (k : Int), x = .str ⟨z.toArray⟩ /\ y = .int k /\ z.length * k.toNat <= big /\ -4611686018427387904 <= k /\ k < 4611686018427387904 /\ Q (.str ⟨(rep k.toNat z).toArray⟩) H
theorem aQp : OpR X (binaryOp .Mult) aX1 := by
 intro pins s σ H x y v u Q I rx ry h
 obtain ⟨z, k, rfl, rfl, hz, h1, h2, q⟩ := h
 obtain ⟨t, rfl⟩ := rx
 obtain ⟨t', rfl⟩ := ry
 have fin : ∀ tk t2, EP X pins σ Q (.str ⟨(rep k.toNat z).toArray⟩ t2) { s with toks := tk } := fun tk t2 => ⟨.str ⟨(rep k.toNat z).toArray⟩, H, I.tok tk, ⟨t2, rfl⟩, q⟩
 refine PySem.P.mul_str ?_ (fun h0 hne => ?_) (fun h0 hne => ?_) ?_
 ·have e1 : ¬ k < -(2 ^ 63 : Int) := by omega
  have e2 : ¬ k ≥ 2 ^ 63 := by omega
  rw [decide_eq_false e1, decide_eq_false e2]; rfl
 ·rw [str_len]
  have hk : 0 < k := by omega
  have hm : (z.length : Int) * k <= 10000000 := by
   have : ((z.length * k.toNat : Nat) : Int) <= 10000000 := by rw [jO] at hz; omega
   rw [Int.natCast_mul, toNat_of_nonneg (by omega)] at this
   exact this
  intro hgt
  have : (z.length : Int) <= (2 ^ 63 - 1) / k := by
   rw [Int.le_ediv_iff_mul_le hk]
   omega
  omega
 ·rw [str_len]
  unfold Builtin.Str.tooLong
  exact decide_eq_false (by have : sizeLine = 16777216 := by decide
                            have hbg := jO
                            omega)
 ·by_cases h0 : k < 1
  ·rw [if_pos h0]
   have e : rep k.toNat z = [] := by rw [show k.toNat = 0 by omega]; rfl
   have := fin (s.toks + 1) s.toks
   rw [e] at this
   exact ⟨by decide, this⟩
  ·rw [if_neg h0]
   by_cases h3 : (k == 1 || (⟨z.toArray⟩ : Str).length == 0) = true
   ·rw [if_pos h3]
    have e : rep k.toNat z = z := by
     simp only [or_eq_true, beq_iff_eq, str_len] at h3
     rcases h3 with h3 | h3
     ·subst h3
      show rep 1 z = z
      unfold rep
      simp
     ·rw [List.length_eq_zero_iff.mp h3, aNx]
    have := fin s.toks t
    rw [e] at this
    exact this
   ·rw [if_neg h3]
    have e : (List.replicate k.toNat (⟨z.toArray⟩ : Str).cps).foldl (· ++ ·) #[] = (rep k.toNat z).toArray := by
     have := aBw z k.toNat []
     rw [nil_append] at this
     exact this
    have := fin (s.toks + 1) s.toks
    rw [e]
    refine ⟨?_, this⟩
    rw [str_len, aQo, Nat.mul_comm]
    exact lim hz
theorem aQq {i j : Int} (c : (-18446744073709551616 < i /\ i < 18446744073709551616) \/ (-18446744073709551616 < j /\ j < 18446744073709551616)) : aGx i j := by
 unfold aGx
 omega
theorem aX2 (ha : PE X a (tP X.K B f)) (hb : PE X b (tP X.K B g)) : PE X (.BinOp a .Mult b pos) (tI X.K B (e2 aM7 f g)) := by
 refine aHs (aLv.or aQp) ?_ ha hb
 intro A H x y d v u Q w rx ry e q
 cases x <;> cases y <;> first | (cases e; done) | skip
 ·obtain ⟨c, e⟩ := aJ e
  cases e
  exact .inl ⟨_, _, rx.int, ry.int, aQq c, q _ H (aM.refl _) (aW.mpr rfl)⟩
 ·obtain ⟨c, e⟩ := aJ e
  cases e
  exact .inr ⟨_, _, rx.str, ry.int, c.1, c.2.1, c.2.2, q _ H (aM.refl _) (aO.mpr rfl)⟩
end
end Pu
namespace Pu
open PySem PySem.Spec PyProof.Rows L2 PySem.SeqAt PySem.StrLaws
theorem rE (x y : List Nat) (i : Nat) : Builtin.Str.subAt ⟨x.toArray⟩ ⟨y.toArray⟩ i = ((x.drop i).take y.length == y) := by
 rw [subAt_eq]
 simp [Str.length]
theorem aG6 (s sub : Str) (hi : Nat) : ∀ (l : List Nat) (st : Array Nat × Nat), 1 <= st.1.size -> (forIn l st (occBody s sub hi 1)).run.fst = st.1
 | [], st, h => rfl
 | a :: l, st, h => by
  rw [forIn_cons]
  unfold occBody
  rw [if_neg (fun z => by have := z.1.1.1; omega)]
  exact aG6 s sub hi l (st.1, st.2) h
theorem aG7 (s sub : Str) (hi : Nat) : ∀ (l : List Nat) (free : Nat), (∀ i ∈ l, free <= i) ->
  (forIn l ((#[] : Array Nat), free) (occBody s sub hi 1)).run.fst.toList = (l.find? fun i => decide (i + sub.length <= hi) && Builtin.Str.subAt s sub i).toList
 | [], free, _ => rfl
 | a :: l, free, hf => by
  rw [forIn_cons]
  have ha : free <= a := hf a mem_cons_self
  by_cases hc : a + sub.length <= hi /\ Builtin.Str.subAt s sub a = true
  ·have e : (decide (a + sub.length <= hi) && Builtin.Str.subAt s sub a) = true := by rw [hc.2, decide_eq_true hc.1]; rfl
   rw [List.find?_cons_of_pos (p := fun i => decide (i + sub.length <= hi) && Builtin.Str.subAt s sub i) e]
   have e2 : occBody s sub hi 1 a ((#[] : Array Nat), free) = pure (ForInStep.yield ((#[] : Array Nat).push a, a + sub.length)) := by
    unfold occBody
    exact if_pos ⟨⟨⟨by simp, ha⟩, hc.1⟩, hc.2⟩
   rw [e2]
   show (forIn l (((#[] : Array Nat).push a), a + sub.length) (occBody s sub hi 1)).run.fst.toList = _
   rw [aG6 s sub hi l _ (by simp)]
   rfl
  ·have e : ¬ (decide (a + sub.length <= hi) && Builtin.Str.subAt s sub a) = true := fun z => hc (by simpa using z)
   rw [List.find?_cons_of_neg (p := fun i => decide (i + sub.length <= hi) && Builtin.Str.subAt s sub i) e]
   have e2 : occBody s sub hi 1 a ((#[] : Array Nat), free) = pure (ForInStep.yield ((#[] : Array Nat), free)) := by
    unfold occBody
    exact if_neg fun h => hc ⟨h.1.2, h.2⟩
   rw [e2]
   exact aG7 s sub hi l free fun i hi' => hf i (mem_cons_of_mem _ hi')
theorem aKz (x y : List Nat) (lo : Nat) : Builtin.Str.occurrences ⟨x.toArray⟩ ⟨y.toArray⟩ lo (⟨x.toArray⟩ : Str).length 1 = (kO x y lo).toList := by
 rw [occ_eq, aG7 _ _ _ _ _ (fun i hi => by simp [List.mem_range'] at hi; omega)]
 unfold kO
 simp only [rE, str_len]
theorem jU {α : Type} (p : α -> Bool) : ∀ x : List α, x.drop (x.takeWhile p).length = x.dropWhile p
 | [] => rfl
 | a :: x => by
  cases h : p a with
  | true => rw [List.takeWhile_cons_of_pos h, List.dropWhile_cons_of_pos h, length_cons, List.drop_succ_cons, jU p x]
  | false => rw [List.takeWhile_cons_of_neg (by simp [h]), List.dropWhile_cons_of_neg (by simp [h])]; rfl
theorem uZ (p : α -> Bool) (x : List α) : (x.takeWhile p).length + (x.dropWhile p).length = x.length := by
 rw [<- length_append, List.takeWhile_append_dropWhile]
theorem aNy (x y : List Nat) : Txt.stripChars ⟨x.toArray⟩ ⟨y.toArray⟩ = ⟨(kY x y).toArray⟩ := by
 have hp : (y.toArray.contains : Nat -> Bool) = fun c => y.contains c := by funext c; simp
 have key : Builtin.Str.strSub ⟨x.toArray⟩ (stripLo y.toArray.contains true ⟨x.toArray⟩) (stripHi y.toArray.contains true ⟨x.toArray⟩ (stripLo y.toArray.contains true ⟨x.toArray⟩)) = ⟨(kY x y).toArray⟩ := by
  unfold stripLo stripHi
  rw [hp]
  simp only [if_true]
  rw [jU]
  unfold kY
  generalize hq : (fun c => y.contains c) = q
  have l1 := uZ q x
  have l2 := uZ q (x.dropWhile q).reverse
  rw [List.length_reverse] at l2
  unfold Builtin.Str.strSub
  simp only [str_len]
  congr 1
  apply ext'
  rw [toList_extract]
  simp only [List.toList_toArray, List.extract_eq_take_drop]
  rw [jU]
  have e3 : ((x.dropWhile q).reverse.dropWhile q).reverse = (x.dropWhile q).take ((x.dropWhile q).length - ((x.dropWhile q).reverse.takeWhile q).length) := by
   have : (x.dropWhile q).reverse.dropWhile q = (x.dropWhile q).reverse.drop ((x.dropWhile q).reverse.takeWhile q).length := (jU q _).symm
   rw [this, List.drop_reverse, List.reverse_reverse]
  rw [e3]
  congr 1
  omega
 unfold Txt.stripChars Txt.stripBy
 by_cases h : stripSame y.toArray.contains true true ⟨x.toArray⟩ = true
 ·rw [if_pos h]
  unfold stripSame at h
  rw [and_eq_true, beq_iff_eq, beq_iff_eq] at h
  rw [h.2, h.1] at key
  rw [<- key]
  unfold Builtin.Str.strSub
  simp [str_len]
 ·rw [if_neg h]
  exact key
section
theorem aNz {id : String} {m : Mop}    {q : V -> List V -> Hp -> VK -> Prop} (slot : Slot "str" name id) (hty : typeOf (.builtin id) = pure (.type "method_descriptor")) (hm : MtR X id q)
  (hk : ∀ x xs d, m x xs = .ok d -> ∃ s, x = .str s) (sem : ∀ (A : List Addr) (H : Hp) (x d : D) (xs : List D) (v : V) (vs : List V) (Q : VK), Own A H -> nG X.K A H x v -> bA X.K (hide A H) xs vs -> m x xs = .ok d -> (∀ w H', aM H H' -> Rep X.K (hide A H') d w -> Q w H') -> q v vs H Q)
  (ho : PE X o (tP X.K B f)) (ha : PA X (e :: es) (tA X.K B r))
  (hbase : attributeBase o name X.env (eval o X.env) = eval o X.env := by rfl)
  (hfew : ((backTo cpos (starEach (e :: es) X.env)).all (fun x => !x.1) && (backToKw cpos (keywordEach [] X.env)).all (fun x => x.1.isSome)
   && decide ((e :: es).length + ([] : List Keyword).length + (if ([] : List Keyword).isEmpty then 0 else 1) < 30)) = true := by rfl)
  (hline : (apos.endLine == cpos.line) = true := by rfl) (hs : starEach (e :: es) X.env = (false, eval e X.env) :: starEach es X.env := by rfl) (hplain : (backTo cpos (starEach es X.env)).any (·.1) = false := by rfl) :
  PE X (.Call (.Attribute o name apos) (e :: es) [] cpos) (tI X.K B (eMt m f r)) := by
 refine cW (aM2 PySem.F.plainAttrs_str slot hty hm ho ha hbase hfew hline hs hplain) ?_
 rintro σ H Q ⟨A, st, d, rs, hd, k⟩
 obtain ⟨x, hx, h2⟩ := R.ok_of hd
 obtain ⟨xs, hxs, h3⟩ := R.ok_of h2
 obtain ⟨s, rfl⟩ := hk x xs d h3
 refine ⟨A, st, _, rs, hx, fun v H1 s1 r1 => ⟨?_, A, st, xs, rs.mono s1, hxs, fun vs H2 s2 r2 => ?_⟩⟩
 ·rw [r1.str]; rfl
 ·exact sem (A ++ B) H2 _ d xs v vs Q (rs.own.mono (s1.trans s2)) (r1.mono s2) r2 h3 fun w H' s' r' => k w H' (s1.trans (s2.trans s')) r'
theorem aG8 {K : Frag}    (h : bA K H [d] vs) : ∃ v, vs = [v] /\ Rep K H d v := by
 obtain ⟨v, r, rfl, h1, h2⟩ := cF.mp h
 rw [dM.mp h2]
 exact ⟨v, rfl, h1⟩
theorem aO0 : MtR X "str.strip" (fun x vs H Q => ∃ (s y : List Nat), x = .str ⟨s.toArray⟩ /\ vs = [.str ⟨y.toArray⟩] /\ s.length <= sizeLine /\ Q (.str ⟨(kY s y).toArray⟩) H) := by
 intro pins s σ H x vs v us Q I rx rv h
 obtain ⟨z, y, rfl, rfl, hz, q⟩ := h
 obtain ⟨t, rfl⟩ := rx
 obtain ⟨u, rfl, t2, rfl⟩ := rv.one
 exact SC.stripChars (fun t' k => ⟨.str ⟨(kY z y).toArray⟩, H, I.tok _, ⟨_, by rw [aNy]⟩, q⟩) (by rw [str_len]; exact hz)
end
end Pu
namespace Pu
open PySem PySem.Spec PyProof.Rows L2 PySem.SeqAt
section
theorem aQr (ho : PE X o (tP X.K B f)) (ha : PA X (e :: es) (tA X.K B r)) (hbase : attributeBase o "strip" X.env (eval o X.env) = eval o X.env := by rfl)
  (hfew : ((backTo cpos (starEach (e :: es) X.env)).all (fun x => !x.1) && (backToKw cpos (keywordEach [] X.env)).all (fun x => x.1.isSome)
   && decide ((e :: es).length + ([] : List Keyword).length + (if ([] : List Keyword).isEmpty then 0 else 1) < 30)) = true := by rfl)
  (hline : (apos.endLine == cpos.line) = true := by rfl) (hs : starEach (e :: es) X.env = (false, eval e X.env) :: starEach es X.env := by rfl) (hplain : (backTo cpos (starEach es X.env)).any (·.1) = false := by rfl) :
  PE X (.Call (.Attribute o "strip" apos) (e :: es) [] cpos) (tI X.K B (eMt vB f r)) := by
 refine aNz (m := vB) PySem.F.slot_str_strip PySem.F.type_str_strip aO0 (fun x xs d h => ?_) (fun A H x d xs v vs Q w rx rxs h k => ?_) ho ha hbase hfew hline hs hplain
 ·cases x <;> first | exact ⟨_, rfl⟩ | exact nomatch h
 ·unfold vB at h
  split at h
  ·obtain ⟨c, h⟩ := aJ h
   cases h
   obtain ⟨u, rfl, ru⟩ := aG8 rxs
   exact ⟨_, _, rx.str, by rw [aO.mp ru], lim c, k _ H (aM.refl _) (aO.mpr rfl)⟩
  ·cases h
theorem aTr (hm : X.mg "max" = none) (hc : X.calm = true) (ha : PE X a (tP X.K B f)) (hb : PE X b (tP X.K B g)) (hg : Gl X "max" := by rfl) (hs : starEach [a, b] X.env = (false, eval a X.env) :: starEach [b] X.env := by rfl)
  (hs2 : starEach [b] X.env = (false, eval b X.env) :: starEach [] X.env := by rfl) (hpl : (backTo pos (starEach [b] X.env)).any (·.1) = false := by rfl) : PE X (.Call (.Name "max" p0) [a, b] [] pos) (tI X.K B (e2 aCw f g)) := by
 refine cW (pU (aJv hc) hg hm (by rfl) (dC ha (dC hb gG hs2) hs) (he := hs) (hpl := hpl)) ?_
 rintro σ H Q ⟨A, st, d, rs, hd, q⟩
 obtain ⟨x, hx, h2⟩ := R.ok_of hd
 obtain ⟨y, hy, h3⟩ := R.ok_of h2
 refine ⟨A, st, x, rs, hx, fun v H1 s1 r1 => ⟨A, st, y, rs.mono s1, hy, fun u H2 s2 r2 => ?_⟩⟩
 unfold aCw at h3
 split at h3
 case h_2 => cases h3
 cases h3
 exact ⟨_, _, by rw [r1.int, r2.int], q _ H2 (s1.trans s2) (aW.mpr rfl)⟩
theorem aTs (hm : X.mg "min" = none) (hc : X.calm = true) (ha : PE X a (tP X.K B f)) (hb : PE X b (tP X.K B g)) (hg : Gl X "min" := by rfl) (hs : starEach [a, b] X.env = (false, eval a X.env) :: starEach [b] X.env := by rfl)
  (hs2 : starEach [b] X.env = (false, eval b X.env) :: starEach [] X.env := by rfl) (hpl : (backTo pos (starEach [b] X.env)).any (·.1) = false := by rfl) : PE X (.Call (.Name "min" p0) [a, b] [] pos) (tI X.K B (e2 aCx f g)) := by
 refine cW (pU (aJw hc) hg hm (by rfl) (dC ha (dC hb gG hs2) hs) (he := hs) (hpl := hpl)) ?_
 rintro σ H Q ⟨A, st, d, rs, hd, q⟩
 obtain ⟨x, hx, h2⟩ := R.ok_of hd
 obtain ⟨y, hy, h3⟩ := R.ok_of h2
 refine ⟨A, st, x, rs, hx, fun v H1 s1 r1 => ⟨A, st, y, rs.mono s1, hy, fun u H2 s2 r2 => ?_⟩⟩
 unfold aCx at h3
 split at h3
 case h_2 => cases h3
 cases h3
 exact ⟨_, _, by rw [r1.int, r2.int], q _ H2 (s1.trans s2) (aW.mpr rfl)⟩
open Classical in
noncomputable def aZg (K : Frag) (H : Hp) (x : D) (u : Value) : Bool := if ∃ d z, Rep K H d z /\ RelV z u /\ plain d = true /\ eqD d x = true then true else false
end
end Pu
namespace Pu
open PySem PySem.Spec PyProof.Rows L2
section
theorem aRy (i : Nat) {x : Str}  (he : PE X e (tI X.K B f)) (hN : X.N[i]? = some x := by rfl) (hv : Vis X.env.scope x := by first | exact Or.inl rfl | exact Or.inr (Or.inl rfl) | exact Or.inr (Or.inr rfl)) (hd : (x == ("__debug__" : Str)) = false := by decide)
  (hcd : (x == ("__classdict__" : Str)) = false := by decide) (hbase : attributeBase (.Name x p1) "append" X.env (eval (.Name x p1) X.env) = eval (.Name x p1) X.env := by rfl)
  (hfew : ((backTo cpos (starEach [e] X.env)).all (fun x => !x.1) && (backToKw cpos (keywordEach [] X.env)).all (fun x => x.1.isSome)
   && decide (([e] : List Expr).length + ([] : List Keyword).length + (if ([] : List Keyword).isEmpty then 0 else 1) < 30)) = true := by rfl)
  (hline : (apos.endLine == cpos.line) = true := by rfl) (hs : starEach [e] X.env = (false, eval e X.env) :: starEach [] X.env := by rfl)
  (hsw : swapsWith (.Call (.Attribute (.Name x p1) "append" apos) [e] [] cpos) none pos.line X.env = pure false := by rfl) :
  PS X (.Expr (.Call (.Attribute (.Name x p1) "append" apos) [e] [] cpos) pos) (tS X.K B (aH9 i f)) := by
 refine fZ (aI9 (aM2 PySem.F.plainAttrs_list PySem.F.slot_list_append PySem.F.type_list_append aCu (yC hN hv hd hcd) (dC he gG hs) hbase hfew hline hs rfl) hsw) ?_
 rintro Dn σ H ⟨A, st, r, rs, hr, p⟩
 obtain ⟨d, hd, h3⟩ := R.ok_of hr
 split at h3
 ·rename_i xs e1
  obtain ⟨c, h4⟩ := aJ h3
  cases h4
  obtain ⟨l, o, vs, e2, m, h1, ko, q, u⟩ := rs.lst i _ xs e1
  have eo : o = .lst vs := ko
  subst eo
  refine ⟨.ref l, e2, .inl ⟨rfl, vs, SqL.of h1⟩, A, st, d, rs, hd, fun v H' s rv => ?_⟩
  have ql := q.length
  refine ⟨l, vs, v, rfl, rfl, s _ _ h1, by rw [ql]; rw [jO] at c; exact Nat.lt_of_lt_of_le c (by decide), ?_⟩
  obtain ⟨w1, w2⟩ := (rs.mono s).write e1 e2 (k1 := .l) (ds := xs ++ [d]) (vs' := vs ++ [v]) rfl ((q.mono (aM.hide s)).append (.cons rv .nil))
  exact p A _ _ ((Le.of s).trans w2) w1
 ·cases h3
end
end Pu
namespace Pu
open PySem PySem.Spec PyProof.Rows L2
section
open PySem.SeqAt
open PySem.AutoSeq1 (wpAny_loadPart')
open PySem.MeetsSeq PySem.MeetsSeq2 PySem.MeetsSeq3
inductive LexV (A : Around) (s : Shared) : List Value -> List Value -> Bool -> Prop where
 | nn : LexV A s [] [] false
 | nc {w : Value} {ws : List Value} : LexV A s [] (w :: ws) true
 | cn {v : Value} {vs : List Value} : LexV A s (v :: vs) [] false
 | eq {v w : Value} {vs ws : List Value} {b : Bool} : EqAt A s v w true -> LexV A s vs ws b -> LexV A s (v :: vs) (w :: ws) b
 | lt {v w : Value} {vs ws : List Value} {b : Bool} : EqAt A s v w false -> (∀ (prog : Program) (wd : World) (E Q : Value -> Shared -> Prop), Q (.bool b) s -> wpAny (model prog wd) A (richCompare .Lt v w) Q E s) -> LexV A s (v :: vs) (w :: ws) b
end
section
end
end Pu
namespace Pu
open PySem PySem.Spec PyProof.Rows L2
structure ClsAt (K : Frag) (c : String) (C : Addr) : Prop where
 ns : nsIn K mainGlobals (Str.ofString c) = some (some (.ref C))
 cl : Cls K C
theorem xG {a b : String} (h : Str.ofString a = Str.ofString b) : a = b := by
 have h1 : (Str.ofString a).cps = (Str.ofString b).cps := by rw [h]
 rw [Str.ofString_eq_toList, Str.ofString_eq_toList] at h1
 have h2 : a.toList.map Char.toNat = b.toList.map Char.toNat := by
  have := congrArg Array.toList h1
  simpa using this
 have inj : ∀ (x y : List Char), x.map Char.toNat = y.map Char.toNat -> x = y := by
  intro x
  induction x with
  | nil => intro y h; cases y with | nil => rfl | cons _ _ => simp at h
  | cons a x ih =>
   intro y h
   cases y with
   | nil => simp at h
   | cons b y =>
    rw [map_cons, map_cons] at h
    injection h with h3 h4
    rw [ih y h4]
    congr 1
    exact Char.ext (UInt32.toNat_inj.mp h3)
 exact String.toList_inj.mp (inj _ _ h2)
section
variable {K : Frag} 
theorem aBx {f : String} : ∀ {ns : List String} {ds : List D} {fs : List (Str × V)} {d : D}, fs.map (·.1) = ns.map Str.ofString -> bA K H ds (fs.map (·.2)) -> (ns.zip ds).lookup f = some d -> ∃ v, fs.lookup (Str.ofString f) = some v /\ Rep K H d v
 | [], ds, fs, d, _, _, h => by simp at h
 | n :: ns, [], fs, d, _, _, h => by simp at h
 | n :: ns, d0 :: ds, [], d, e, _, h => by simp at e
 | n :: ns, d0 :: ds, (g, w) :: fs, d, e, r, h => by
  rw [map_cons, map_cons] at e
  injection e with e1 e2
  obtain ⟨v, r', e3, h1, h2⟩ := cF.mp r
  rw [map_cons] at e3
  injection e3 with e4 e5
  subst e4 e5
  have e1' : g = Str.ofString n := e1
  subst e1'
  rw [List.zip_cons_cons, lookup_cons] at h
  rw [lookup_cons]
  by_cases hf : f = n
  ·subst hf
   simp only [beq_self_eq_true] at h ⊢
   cases h
   exact ⟨_, rfl, h1⟩
  ·have hb : (f == n) = false := beq_eq_false_iff_ne.mpr hf
   have hb2 : (Str.ofString f == Str.ofString n) = false := beq_eq_false_iff_ne.mpr fun z => hf (xG z)
   rw [hb] at h
   rw [hb2]
   exact aBx e2 h2 h
theorem aG9 {f : String} {v : V} : ∀ {ns : List String} {fs : List (Str × V)}, fs.map (·.1) = ns.map Str.ofString -> f ∉ ns -> rQ (Str.ofString f) v fs = fs ++ [(Str.ofString f, v)]
 | [], fs, e, _ => by cases fs with | nil => rfl | cons _ _ => simp at e
 | n :: ns, [], e, _ => by simp at e
 | n :: ns, (g, w) :: fs, e, h => by
  rw [map_cons, map_cons] at e
  injection e with e1 e2
  have e1' : g = Str.ofString n := e1
  subst e1'
  unfold rQ
  rw [if_neg (fun z => h (by rw [xG z]; exact mem_cons_self)), aG9 e2 fun z => h (mem_cons_of_mem _ z)]
  rfl
end
section
variable {X : Cx} {B : List Addr} {a b e o : Expr} {f g : Ex} {pos : Pos}
theorem nG.ins {K : Frag} {A : List Addr} {H : Hp} {c : String} {ns : List String} {ds : List D} {v : V} (h : nG K A H (.ins c ns ds) v) : ∃ p C dx fs, v = .ref p /\ H p = some (.ins C dx fs) /\ nsIn K mainGlobals (Str.ofString c) = some (some (.ref C)) /\ fs.map (·.1) = ns.map Str.ofString /\ bA K (hide A H) ds (fs.map (·.2)) := by
 rcases h with h | ⟨p, kk, o, ds', vs, e, e2, h, ko, r⟩
 ·obtain ⟨p, C, dx, fs, vs, e, q1, q2, q3, q4, r⟩ := aEg.mp h
  subst q4
  exact ⟨p, C, dx, fs, e, aY _ _ _ _ q1, q2, q3, r⟩
 ·cases kk <;> cases e
  obtain ⟨_, C, dx, fs, rfl, q2, q3, rfl⟩ := ko
  exact ⟨p, C, dx, fs, e2, h, q2, q3, r⟩
theorem aDi {f' : String}  (hc : ClsAt X.K c C) (hn : iI X.K C (Str.ofString f')) (ho : PE X o (tP X.K B f)) (hb : attributeBase o (Str.ofString f') X.env (eval o X.env) = eval o X.env := by rfl) :
  PE X (.Attribute o (Str.ofString f') pos) (tI X.K B (e1 (yI c f') f)) := by
 refine cW (aSo ho hb) ?_
 rintro σ H Q ⟨A, st, d, rs, hd, q⟩
 obtain ⟨x, hx, h2⟩ := R.ok_of hd
 refine ⟨A, st, x, rs, hx, fun v H1 s1 r1 => ?_⟩
 cases x <;> first | (cases h2; done) | skip
 obtain ⟨e1, h3⟩ := aJ h2
 subst e1
 obtain ⟨p, C', dx, fs, e2, h4, h5, h6, h7⟩ := r1.ins
 have : C' = C := by have z := h5.symm.trans hc.ns; injection z with z; injection z with z; injection z
 subst this
 obtain ⟨w, h8, h9⟩ := aBx h6 h7 (sZ h3)
 exact ⟨p, C', dx, fs, w, e2, h4, hc.cl, hn, h8, q w H1 s1 h9⟩
def spM (K : Frag) (c : String) (np : Nat) (p : List D -> R D) : Sp := fun vs H Q _ => ∃ x ws A C dx ds d, vs = .ref x :: ws /\ H x = some (.ins C dx []) /\ nsIn K mainGlobals (Str.ofString c) = some (some (.ref C)) /\ Own A H /\ x ∉ A /\ bA K (hide (x :: A) H) ds ws /\ ds.length = np /\ p ds = .ok d /\
 ∀ H', aM (hide [x] H) H' -> Rep K (hide A H') d (.ref x) -> Q .non H'
structure MakeOk (P : Program) (w : World) (K : Frag) (mg : Str -> Option Value) (base : Heap) (c : String) (k np : Nat) (p : List D -> R D) : Prop where
 ex : ∃ (C fa : Addr) (fd : FuncData) (ps : List Str), ClsAt K c C /\ Mk K C fa /\ FnOk P w K mg base CX0 k fa fd ps (spM K c np p) /\ Binds K fd ps [] /\ mg (Str.ofString c) = some (.ref C)
 len : ∀ ds d, p ds = .ok d -> ds.length = np
theorem aTt {k : Nat}     (h : MakeOk X.prog X.w X.K X.mg X.base c k np p) (hr : Room j X.A) (hk : k + 1 <= j) (ha : PA X (e :: es) (tA X.K B r)) (hg : Gl X (Str.ofString c) := by rfl) (hdb : (Str.ofString c == ("__debug__" : Str)) = false := by decide)
  (he : starEach (e :: es) X.env = (false, eval e X.env) :: starEach es X.env := by rfl) (hpl : (backTo pos (starEach es X.env)).any (·.1) = false := by rfl) : PE X (.Call (.Name (Str.ofString c) p0) (e :: es) [] pos) (tI X.K B (bM p r)) := by
 obtain ⟨C, fa, fd, ps, hc, M, F, bd, hm⟩ := h.ex
 refine cW (aPf M F (hr.mono hk) hg hm bd .nil aRg ha hdb he hpl) ?_
 rintro σ H Q ⟨A, st, d, rs, hd, q⟩
 obtain ⟨xs, hx, h2⟩ := R.ok_of hd
 refine ⟨A, st, xs, rs, hx, fun vs H1 s1 r1 x dx hx0 hdx hne => ?_⟩
 have w1 := rs.own.mono s1
 have hxA : x ∉ A ++ B := w1.free hx0
 have e0 : ∀ b u, H1 b = some u -> upd (upd H1 dx (.own x)) x (.ins C dx []) b = some u := fun b u z => by
  rw [aU (aK z hx0), aU (aK z hdx)]; exact z
 refine ⟨x, vs ++ [], A ++ B, C, dx, xs, d, rfl, bY, hc.ns, fun b hb => ?_, hxA, ?_, h.len _ _ h2, h2, fun H' sm rd => ⟨rfl, q _ H' (fun b u z => ?_) rd⟩⟩
 ·obtain ⟨u, z⟩ := Option.isSome_iff_exists.mp (w1 b hb)
  rw [e0 b u z]; rfl
 ·rw [append_nil]
  refine r1.mono fun b u z => ?_
  have z1 := aY _ _ _ _ z
  have hb : b ∉ A ++ B := fun y => by rw [eG y] at z; cases z
  rw [bI (fun y => (List.mem_cons.mp y).elim (aK z1 hx0) hb)]
  exact e0 b u z1
 ·have z1 := s1 _ _ z
  exact sm b u (by rw [bI (by simpa using aK z1 hx0)]; exact e0 b u z1)
theorem aL0 {K : Frag}      {x dx : Addr}  (w : Own A H) (hxA : x ∉ A) (hx : H x = some (.ins C dx [])) (hns : nsIn K mainGlobals (Str.ofString c) = some (some (.ref C))) (r : bA K (hide (x :: A) H) ds ws) :
  RS K A [x] H (some (Sl.o (.i x c []) []) :: (ds.map (fun d => some (Sl.v d)) ++ List.replicate (N.length - ds.length - 1) none)) (L2.start N (.ref x :: ws)) := by
 have hl := r.length
 have sh : L2.start N (.ref x :: ws) = some (.ref x) :: (ws.map some ++ List.replicate (N.length - ds.length - 1) none) := by
  unfold L2.start
  rw [map_cons, cons_append, length_cons, hl]
  congr 2
 rw [sh]
 have nov : ∀ (i : Nat) (s : Sl), (ds.map (fun d => some (Sl.v d)) ++ List.replicate (N.length - ds.length - 1) none)[i]? = some (some s) -> ∃ d, ds[i]? = some d /\ s = .v d := fun i s e => by
  by_cases hi : i < ds.length
  ·rw [List.getElem?_append_left (by simpa using hi), List.getElem?_map, List.getElem?_eq_getElem hi] at e
   simp at e
   exact ⟨ds[i], List.getElem?_eq_getElem hi, e.symm⟩
  ·rw [List.getElem?_append_right (by simpa using hi), List.getElem?_replicate] at e
   split at e <;> simp at e
 refine ⟨by simp [hl], fun b hb => ?_, fun b hb => by rw [List.mem_singleton.mp hb]; exact hxA, fun i d e => ?_, fun i k xs e => ?_⟩
 ·rcases List.mem_append.mp hb with hb | hb
  ·rw [List.mem_singleton.mp hb, hx]; rfl
  ·exact w b hb
 ·cases i with
  | zero => simp at e
  | succ i =>
   rw [getElem?_cons_succ] at e
   obtain ⟨d', e1, e2⟩ := nov i _ e
   cases e2
   obtain ⟨v, hv, rv⟩ := r.get e1
   refine ⟨v, ?_, rv⟩
   have hi : i < ws.length := (List.getElem?_eq_some_iff.mp hv).1
   rw [getElem?_cons_succ, List.getElem?_append_left (by simpa using hi), List.getElem?_map, hv]
   rfl
 ·cases i with
  | zero =>
   simp at e
   obtain ⟨rfl, rfl⟩ := e
   refine ⟨x, _, [], rfl, List.mem_singleton.mpr rfl, hx, ⟨rfl, C, dx, [], rfl, hns, rfl, rfl⟩, .nil, fun j k' ys ej _ => ?_⟩
   cases j with
   | zero => rfl
   | succ j =>
    rw [getElem?_cons_succ] at ej
    obtain ⟨_, _, e2⟩ := nov j _ ej
    cases e2
  | succ i =>
   rw [getElem?_cons_succ] at e
   obtain ⟨_, _, e2⟩ := nov i _ e
   cases e2
end
end Pu
namespace Pu
open PySem PySem.Spec PyProof.Rows L2
section
variable    {iter c : Expr}  {t : Tg}  {u : Ex}
theorem zK {H3 H5 : Hp} {s3 s5 : Shared} {fp : List Addr} {p : Addr} {m5 : Str -> Option Value}     (hN : X.N.Nodup) (hi : X.N[i]? = some x) (hx : Loc X.env.scope x)
  (hf : X.fn x = true \/ X.env.scope.names.lookup x = some .local) (hC : s3.heap.objs.size <= C) (I3 : Inv X pins σ H3 s3) (hfp : ∀ b ∈ fp, qP X pins H3 b) (I5 : Inv (bR X scope C s3 H3 fp) [] τ H5 s5) (hn5 : s5.heap.Ns C m5)
  (hQ : ∀ s', Inv X pins (σ.set i (some (.ref p))) H5 s' -> Qf .none s') : compPost (model X.prog X.w) X.A X.xe (some (assign (.Name x px) X.env)) Qf (.ref p) C (.ok .next) s5 := by
 have I5' : Inv X pins σ H5 { s5 with heap := s5.heap } := uJ I3 hfp hC I5 (.refl ..)
 have lt : ∀ b o, s3.heap.get? b = some o -> C ≠ b := fun b o e z => Nat.lt_irrefl _ (Nat.lt_of_lt_of_le (Heap.lt_size (z ▸ e)) hC)
 have hL : C ≠ X.env.locals := fun z => Nat.lt_irrefl _ (Nat.lt_of_lt_of_le (z ▸ I3.lt) hC)
 have hc : ∀ y c, X.env.cells.lookup y = some c -> c ≠ C := fun y c e => by
  obtain ⟨v, o, ho, _⟩ := I3.cell y c e
  exact (lt c o ho).symm
 have hp : ∀ q ∈ X.pn ++ pins, q.1 ≠ C := fun q hq => (lt q.1 q.2 (I3.pin q hq).1).symm
 show wpAny _ X.A (assign (.Name x px) X.env (.ref p)) _ _ _
 refine wpAny_assign_Name (aCp (v := .ref p) I5' hN hi hx rfl (fun s6 I6 ⟨a, hs, ha⟩ => ?_) hf)
 have hCa : C ≠ a := by
  rcases ha with z | z
  ·rw [z]; exact hL
  ·exact (hc x a z).symm
 refine ⟨m5, hn5.sameBut hs hCa, fun h' hs' => hQ _ ?_⟩
 exact I6.turned (t' := s6.toks) (fun b o hb e => (hs'.2 b hb).trans e) (show H5 C = none from I5.free) hL (.inr (Nat.le_trans I3.sz hC)) hc hp
theorem aHx (i : Nat) {x : Str}  (is : List Nat) (hsub : aG4 is t) (S : CScope X scope is) (hi : L2.PI X tg iter (tIt X.K B it)) (hg : ∀ (B : List Addr) (C : Addr) (s₀ : Shared) (H₀ : Hp) (fp : List Addr), PG (bR X scope C s₀ H₀ fp) tg (tG X.K B t))
  (he : ∀ (B : List Addr) (C : Addr) (s₀ : Shared) (H₀ : Hp) (fp : List Addr), PE (bR X scope C s₀ H₀ fp) elt (tI X.K B f)) (hc : X.calm = true) (hN : X.N.Nodup) (hi' : X.N[i]? = some x := by rfl) (hx : Loc X.env.scope x := by first | exact Or.inl rfl | exact Or.inr rfl)
  (hsw : swapsWith (.ListComp elt [⟨tg, iter, [], 0⟩] scope pos) (some (.Name x px)) spos.line X.env = pure true := by rfl)
  (hf : X.fn x = true \/ X.env.scope.names.lookup x = some .local := by first | exact .inl rfl | exact .inr rfl | assumption) (hs : ∀ x, foldedSetIterable iter X.env x = pure x := by intro _; rfl) :
  PS X (.Assign [.Name x px] (.ListComp elt [⟨tg, iter, [], 0⟩] scope pos) spos) (tS X.K B (eF i (cT is t it aZ f))) := by
 intro pins s σ H Dn I h
 obtain ⟨A, st, r, rs, hr, q⟩ := h
 obtain ⟨d, hd, h3⟩ := R.ok_of hr
 cases h3
 obtain ⟨xs, hx', h2⟩ := R.ok_of hd
 obtain ⟨hl, h3⟩ := aJ h2
 obtain ⟨ys, hy, h4⟩ := R.ok_of h3
 cases h4
 rw [exec_Assign_Name_used _ _ _ _ hsw]
 refine wpAny_bind (wpAny_standAt (wpAny_bind ?_))
 show wpAny _ X.A (do let _ <- comprehension (.ListComp elt [⟨tg, iter, [], 0⟩] scope pos) scope X.env _ (newList []) false (eval iter X.env) (some (assign (.Name x px) X.env))) _ _ s
 refine wpAny_bind (wpAny_mono (Q := fun _ s' => SP X pins Dn .next s') ?_ (fun _ s' hq => wpAny_pure (wpAny_pure hq)) fun _ _ e => e)
 refine uK (use := some (assign (.Name x px) X.env)) (Qf := fun _ s' => SP X pins Dn .next s') (Q := fun v H' => Dn.nx (σ.set i (some v)) H') (tt := rD) (te := tIx X.K f) (rest := fun env it p => eval elt env >>= fun x => call (.builtin "list.append") [p, x] >>= fun _ => again (.compLoop (.ListComp elt [⟨tg, iter, [], 0⟩] scope pos) 0 it p env)) S hc hi (fun C s₀ H₀ fp => aQm fun B => hg B C s₀ H₀ fp) (fun _ _ _ => nY)
  (fun C s₀ H₀ fp it p s Q h => aQj (Y := bR X scope C s₀ H₀ fp) h) (fun C s₀ H₀ fp it p τ H s pins vs N Q I h q => aJ6 (Y := bR X scope C s₀ H₀ fp) rfl (aX0 fun B => he B C s₀ H₀ fp) τ H s pins vs N Q I h (fun Q Q' m h => aG5 Q Q' m h) q) hs I
  (aRx hsub (fun τ H Q ⟨B, A, st, k, rs, hk, q⟩ => ?_) rs hx' hl hy fun p vs H1 H' s1 hp s2 hv r => aEq (Q := fun v H' => Dn.nx (σ.set i (some v)) H') rs (fun v H' sm rv => q A _ H' (Le.of sm) ((rs.mono sm).set i rv)) s1 hp s2 hv r) fun C p H5 s5 m5 s3 H3 fp τ hC I3 hfp I5 hn5 q5 => zK hN hi' hx hf hC I3 hfp I5 hn5 fun s' I' => ⟨_, _, I', q5⟩
 cases hk
 exact q H (aM.refl _)
end
end Pu
namespace Pu
open PySem PySem.Spec PyProof.Rows L2
structure FunD (K : Frag) (x qual : Str) (st : Stmt) (dV : Value) (f : Addr) (fd : FuncData) : Prop where
 ex : ∃ (oc : Value) (od : Option Addr) (kV doc pm : Value) (an : Option Addr) (cdv ct : Value) (osl : Array (Option Value)),
  fd = fnOf x qual (nA st) (gK st) (aL st) dV kV doc pm an cdv ct /\ K.lookup f = some ⟨oc, od, .func fd, osl⟩ /\ codeIn K cdv qual = true
 kp : keepIn K (.ref f) = true
section
variable   {K : Frag}    {st : Stmt}  {f : Addr}   {k : Nat}
theorem aEr {od an : Option Addr}  {kV doc pm cdv ct : Value} (l : K.lookup f = some ⟨oc, od, .func (fnOf x qual (nA st) (gK st) (aL st) dV kV doc pm an cdv ct), osl⟩)
  (c : codeIn K cdv qual = true) (k : keepIn K (.ref f) = true) : FunD K x qual st dV f (fnOf x qual (nA st) (gK st) (aL st) dV kV doc pm an cdv ct) := ⟨⟨oc, od, kV, doc, pm, an, cdv, ct, osl, rfl, l, c⟩, k⟩
theorem FunD.binds0 (F : FunD K x qual st .none f fd)
  (h : ∀ (kV doc pm : Value) (an : Option Addr) (cdv ct : Value) (us : List Value), us.length = ps.length -> bindArgs (fnOf x qual (nA st) (gK st) (aL st) .none kV doc pm an cdv ct) ⟨us, []⟩ = pure (ps.zip us)) : Binds K fd ps [] := by
 obtain ⟨oc, od, kV, doc, pm, an, cdv, ct, osl, rfl, lk, hcd⟩ := F.ex
 exact .all (h kV doc pm an cdv ct)
theorem FunD.okX (F : FunD K x qual st dV f fd) (S : FnScope N ps (aL st)) (len : ∀ vs H Q E, sp vs H Q E -> vs.length = ps.length)
  (hbody : ∀ (cdv : Value) (A : Around) (outer : List Env) (s : Shared) (H : Hp) (vs : List V) (Q : VK) (E : XK), Room k (A.deeper (envOfC qual (aL st) s.heap.objs.size f cdv)) -> sp vs H Q E ->
   ∃ t, PSs (uM CX0 P w K mg base N qual (aL st) f cdv A outer s H E).nox (gK st) t /\ t { nx := fun _ H' => Q .non H', rt := Q } (L2.start N vs) H) : FnOk P w K mg base CX0 (k + 1) f fd ps sp := by
 obtain ⟨oc, od, kV, doc, pm, an, cdv, ct, osl, rfl, lk, hcd⟩ := F.ex
 refine aIf lk hcd S len fun A outer s H vs Q E hr hsp => ?_
 obtain ⟨t, h, q⟩ := hbody cdv A outer s H vs Q E hr hsp
 exact ⟨t, h.nox, q⟩
theorem jL (F : FunD K x qual st dV f fd) (S : FnScope N ps (aL st)) (np n : Nat) (bd : Bd) (hnp : ps.length = np) (hn : N.length = n)
  (hb : ∀ (cdv : Value) (A : Around) (outer : List Env) (s : Shared) (H : Hp) (E : XK) (B : List Addr), Room k (A.deeper (envOfC qual (aL st) s.heap.objs.size f cdv)) ->
   PSs (uM CX0 P w K mg base N qual (aL st) f cdv A outer s H E).nox (gK st) (tS K B bd)) : FnOk P w K mg base CX0 (k + 1) f fd ps (spI K np (fV np n bd)) := by
 refine F.okX S (fun vs H Q E h => ?_) (fun cdv A outer s H vs Q E hr h => ?_)
 ·obtain ⟨A, ds, d, own, r, hl, _⟩ := h
  rw [r.length, hl, hnp]
 ·obtain ⟨B, ds, d, own, r, hl, hp, q⟩ := h
  refine ⟨tS K B bd, hb cdv A outer s H E B hr, ?_⟩
  obtain ⟨_, h2⟩ := aJ hp
  obtain ⟨fl, hfl, h3⟩ := R.ok_of h2
  have rs := aBq (N := N) own r
  rw [hl, hn] at rs
  refine ⟨[], _, fl, rs, hfl, ?_⟩
  have fin : ∀ {A' : List Addr} {H' : Hp}, Le [] H A' H' -> aM H H' := fun {A' H'} l => by
   unfold Le at l
   rw [wW] at l
   exact l.trans (aY _ _)
  cases fl with
  | nx s1 =>
   cases h3
   exact fun A' σ' H' l rs' => q _ H' (fin l) (bV.mpr rfl)
  | rt d' =>
   cases h3
   exact fun A' v H' l rv => q v H' (fin l) (rv.mono (dR fun a ha => List.mem_append_right _ ha))
  | bk s1 => exact nomatch h3
  | ct s1 => exact nomatch h3
end
end Pu
namespace Pu
open PySem PySem.Spec PyProof.Rows L2 PySem.SeqAt
section
theorem vR : mC X (.type "list") (fun vs H Q => ∃ l xs, vs = [.ref l] /\ (SqL X.K H l xs \/ SqT X.K H l xs) /\ ∀ n, H n = none -> Q (.ref n) (upd H n (.lst xs))) := by
 intro pins s σ H vs us Q I r h
 obtain ⟨l, xs, rfl, hl, q⟩ := h
 obtain ⟨u, rfl, ru⟩ := r.one
 obtain rfl : u = Value.ref l := ru
 rcases hl with hl | hl
 ·obtain ⟨its, rv, ⟨ob, n, e, hc, _, hd⟩, hz⟩ := I.list hl
  refine call_list_seq l (T := "list") (.inl rfl) e hc hd (fun h' c' k hn => ?_) (by rw [rv.length] at hz; simpa using hz)
  exact ⟨.ref s.heap.objs.size, _, I.laid (o := .lst xs) (t' := s.toks) k (Nat.le_refl _) ⟨hz, its, c', rv, hn⟩, rfl, q _ (I.hok.fresh (Nat.le_refl _))⟩
 ·obtain ⟨its, rv, ⟨ob, e, hc, n, hd⟩, hz⟩ := I.tuple hl
  refine call_list_seq l (T := "tuple") (.inr rfl) e hc hd (fun h' c' k hn => ?_) (by rw [rv.length] at hz; simpa using hz)
  exact ⟨.ref s.heap.objs.size, _, I.laid (o := .lst xs) (t' := s.toks) k (Nat.le_refl _) ⟨hz, its, c', rv, hn⟩, rfl, q _ (I.hok.fresh (Nat.le_refl _))⟩
theorem aHy (hm : X.mg "list" = none) (ha : PE X a (tP X.K B f)) (hg : Gl X "list" := by rfl) (hs : starEach [a] X.env = (false, eval a X.env) :: starEach [] X.env := by rfl) : PE X (.Call (.Name "list" p0) [a] [] pos) (tI X.K B (e1 aCy f)) := by
 refine cW (pW vR hg hm (by rfl) (dC ha gG hs) (he := hs)) ?_
 rintro σ H Q ⟨A, st, d, rs, hd, q⟩
 obtain ⟨x, hx, h2⟩ := R.ok_of hd
 refine ⟨A, st, x, rs, hx, fun v H1 s1 r1 => ?_⟩
 cases x <;> first | (cases h2; done) | skip
 ·cases h2
  obtain ⟨l, vs, e, h3, r3⟩ := r1.tup
  exact ⟨l, vs, by rw [e], .inr h3, fun n hn => q _ _ (s1.trans (dB hn)) (gY (rs.own.mono s1) hn r3)⟩
 ·cases h2
  obtain ⟨l, vs, e, h3, r3⟩ := r1.lst
  exact ⟨l, vs, by rw [e], .inl h3, fun n hn => q _ _ (s1.trans (dB hn)) (gY (rs.own.mono s1) hn r3)⟩
theorem aJ8 : ∀ {l : List Bool} {us : List Value}, Vals (l.map V.bl) us -> us = l.map Value.bool
 | [], _, .nil => rfl
 | b :: l, _, .cons r t => by
  rw [aJ8 t]
  cases r
  rfl
theorem aL1 (hc : X.calm = true) : mC X (.builtin "all") (fun vs H Q => ∃ (l : Addr) (bs : List Bool), vs = [.ref l] /\ SqL X.K H l (bs.map V.bl) /\ Q (.bl (bs.all id)) H) := by
 intro pins s σ H vs us Q I r h
 obtain ⟨l, bs, rfl, hl, q⟩ := h
 obtain ⟨u, rfl, ru⟩ := r.one
 obtain rfl : u = Value.ref l := ru
 obtain ⟨its, rv, ⟨ob, n, e, hcl, _, hd⟩, hz⟩ := I.list hl
 have ei := aJ8 rv
 have isl : s.heap.IsList l its.toArray := ⟨ob, e, hcl, n, hd⟩
 have hlt : l < s.heap.objs.size := Heap.lt_size e
 refine call_all_walk (wpAny_pyIter_list isl ⟨s.heap.objs.size, _, _, _, _, _, fun i => bs[i]?.getD false, rfl, Walks.list (A := X.A.in1) (I.ok.hd hc) _ l (Nat.ne_of_lt hlt) its.toArray, ⟨⟨_, Heap.get?_push_size _ rfl, rfl, rfl⟩, isl.push _⟩, ?_, fun h' tk k => ?_⟩)
 ·intro i v s' Q' E' hv hq
  rw [ei] at hv
  simp only [List.getElem?_toArray, List.getElem?_map, Option.map_eq_some_iff] at hv
  obtain ⟨b, hb, rfl⟩ := hv
  have hq' : Q' (bs[i]?.getD false) s' := hq
  rw [hb] at hq'
  exact wpAny_pure hq'
 ·refine ⟨.bl (bs.all id), H, I.kept (fun b u z => k b u (fun hb => ?_) (Heap.get?_push_of_some _ z)), ?_, q⟩
  ·have := List.mem_singleton.mp hb
   exact Nat.lt_irrefl _ (this ▸ Heap.lt_size z)
  ·show Value.bool _ = Value.bool _
   congr 1
   rw [Bool.eq_iff_iff, List.all_eq_true, List.all_eq_true]
   have hsz : its.toArray.size = bs.length := by rw [ei]; simp
   rw [hsz]
   constructor
   ·intro h x hx
    obtain ⟨i, hi, rfl⟩ := List.mem_iff_getElem.mp hx
    have := h i (List.mem_range.mpr hi)
    rw [List.getElem?_eq_getElem hi] at this
    exact this
   ·intro h i hi
    have hi' := List.mem_range.mp hi
    rw [List.getElem?_eq_getElem hi']
    exact h _ (List.getElem_mem hi')
theorem aJ9 {K : Frag} {H : Hp} : ∀ {l : List Bool} {vs : List V}, bA K H (l.map D.bl) vs -> vs = l.map V.bl
 | [], vs, h => dM.mp h
 | b :: l, vs, h => by
  obtain ⟨v, r, rfl, h1, h2⟩ := cF.mp h
  rw [aJ9 h2, bK.mp h1]; rfl
theorem aJa (hm : X.mg "all" = none) (hc : X.calm = true) (ha : PE X a (tP X.K B f)) (hg : Gl X "all" := by rfl) (hs : starEach [a] X.env = (false, eval a X.env) :: starEach [] X.env := by rfl) : PE X (.Call (.Name "all" p0) [a] [] pos) (tI X.K B (e1 rW f)) := by
 refine cW (pU (aL1 hc) hg hm (by rfl) (dC ha gG hs) (he := hs)) ?_
 rintro σ H Q ⟨A, st, d, rs, hd, q⟩
 obtain ⟨x, hx, h2⟩ := R.ok_of hd
 refine ⟨A, st, x, rs, hx, fun v H1 s1 r1 => ?_⟩
 cases x <;> first | (cases h2; done) | skip
 obtain ⟨bs, h3, h4⟩ := R.ok_of h2
 cases h4
 obtain ⟨l, vs, e, h5, r5⟩ := r1.lst
 rw [aMd h3] at r5
 rw [aJ9 r5] at h5
 exact ⟨l, bs, by rw [e], h5, q _ H1 s1 (bK.mpr rfl)⟩
theorem aGa : ∀ {l : List (List Nat)} {us : List Value}, Vals (l.map fun t => V.str ⟨t.toArray⟩) us -> ∃ ps : List (Str × Tok), us = strValues ps /\ ps.map (·.1) = l.map fun t => (⟨t.toArray⟩ : Str)
 | [], _, .nil => ⟨[], rfl, rfl⟩
 | b :: l, _, .cons r t => by
  obtain ⟨ps, e, e2⟩ := aGa t
  obtain ⟨t, rfl⟩ := r
  exact ⟨(⟨b.toArray⟩, t) :: ps, by rw [e]; rfl, by rw [map_cons, e2]; rfl⟩
theorem aJb (x : List Nat) : ∀ (l : List (List Nat)), Str.join ⟨x.toArray⟩ (l.map fun t => (⟨t.toArray⟩ : Str)) = ⟨(cJ x l).toArray⟩
 | [] => rfl
 | [a] => rfl
 | a :: b :: l => by
  show (⟨a.toArray⟩ : Str) ++ ⟨x.toArray⟩ ++ Str.join ⟨x.toArray⟩ ((b :: l).map fun t => (⟨t.toArray⟩ : Str)) = _
  rw [aJb x (b :: l)]
  show (⟨a.toArray ++ x.toArray ++ (cJ x (b :: l)).toArray⟩ : Str) = ⟨(a ++ x ++ cJ x (b :: l)).toArray⟩
  simp
theorem aQs : MtR X "str.join" (fun x vs H Q => ∃ (z : List Nat) (l : Addr) (ts : List (List Nat)), x = .str ⟨z.toArray⟩ /\ vs = [.ref l] /\ SqL X.K H l (ts.map fun t => V.str ⟨t.toArray⟩) /\ (ts.map List.length).sum + ts.length * z.length <= sizeLine /\ Q (.str ⟨(cJ z ts).toArray⟩) H) := by
 intro pins s σ H x vs v us Q I rx rv h
 obtain ⟨z, l, ts, rfl, rfl, hl, hz, q⟩ := h
 obtain ⟨t, rfl⟩ := rx
 obtain ⟨u, rfl, ru⟩ := rv.one
 obtain rfl : u = Value.ref l := ru
 obtain ⟨its, rv, ⟨ob, n, e, hcl, _, hd⟩, _⟩ := I.list hl
 obtain ⟨ps, ei, e2⟩ := aGa rv
 refine SC.join (l := ps) ⟨ob, e, hcl, n, by rw [hd, ei]⟩ e2 ?_ fun t' k => ⟨.str ⟨(cJ z ts).toArray⟩, H, I.tok _, ⟨t', ?_⟩, q⟩
 ·unfold JoinOk
  rw [not_eq_true']
  show Builtin.Str.tooLong _ = false
  rw [StrLaws.joinTotal]
  unfold Builtin.Str.tooLong
  refine decide_eq_false (Nat.not_lt.mpr ?_)
  rw [List.map_map, length_map, str_len]
  have : (ts.map ((fun x : Str => x.length) ∘ fun t => (⟨t.toArray⟩ : Str))) = ts.map List.length := List.map_congr_left fun t _ => str_len t
  rw [this]
  exact hz
 ·rw [<- aJb, <- StrLaws.glued_eq_join]; rfl
theorem aGb {K : Frag} {H : Hp} : ∀ {l : List (List Nat)} {vs : List V}, bA K H (l.map D.str) vs -> vs = l.map fun t => V.str ⟨t.toArray⟩
 | [], vs, h => dM.mp h
 | b :: l, vs, h => by
  obtain ⟨v, r, rfl, h1, h2⟩ := cF.mp h
  rw [aGb h2, aO.mp h1]; rfl
theorem zL (ho : PE X o (tP X.K B f)) (ha : PA X (e :: es) (tA X.K B r)) (hbase : attributeBase o "join" X.env (eval o X.env) = eval o X.env := by rfl)
  (hfew : ((backTo cpos (starEach (e :: es) X.env)).all (fun x => !x.1) && (backToKw cpos (keywordEach [] X.env)).all (fun x => x.1.isSome)
   && decide ((e :: es).length + ([] : List Keyword).length + (if ([] : List Keyword).isEmpty then 0 else 1) < 30)) = true := by rfl)
  (hline : (apos.endLine == cpos.line) = true := by rfl) (hs : starEach (e :: es) X.env = (false, eval e X.env) :: starEach es X.env := by rfl) (hplain : (backTo cpos (starEach es X.env)).any (·.1) = false := by rfl) :
  PE X (.Call (.Attribute o "join" apos) (e :: es) [] cpos) (tI X.K B (eMt uN f r)) := by
 refine aNz (m := uN) PySem.F.slot_str_join PySem.F.type_str_join aQs (fun x xs d h => ?_) (fun A H x d xs v vs Q w rx rxs h k => ?_) ho ha hbase hfew hline hs hplain
 ·cases x <;> first | exact ⟨_, rfl⟩ | exact nomatch h
 ·unfold uN at h
  split at h
  ·obtain ⟨ts, h1, h2⟩ := R.ok_of h
   obtain ⟨c, h2⟩ := aJ h2
   cases h2
   obtain ⟨u, rfl, ru⟩ := aG8 rxs
   obtain ⟨l, ws, e, h5, r5⟩ := nG.lst (.inl ru)
   rw [aFa h1] at r5
   rw [aGb r5] at h5
   exact ⟨_, l, ts, rx.str, by rw [e], h5, lim c, k _ H (aM.refl _) (aO.mpr rfl)⟩
  ·cases h
end
end Pu
namespace Pu
open PySem PySem.Spec PyProof.Rows L2
def kJ : List Addr -> Heap -> Heap
 | [], h => h
 | a :: l, h => (kJ l h).update a fun _ => { cls := .none, data := .freed }
theorem aL2 (h : Heap) (a : Addr) : (h.update a fun _ => { cls := .none, data := .freed }).get? a = none := by
 cases h with
 | mk objs =>
  simp only [Heap.update, Heap.get?, Array.getElem?_modify, if_true]
  cases objs[a]? <;> rfl
theorem fQ {b : Addr} {h : Heap} : ∀ {l : List Addr}, b ∈ l -> (kJ l h).get? b = none
 | a :: l, hb => by
  by_cases e : b = a
  ·rw [e]; exact aL2 _ _
  ·unfold kJ
   rw [Heap.get?_update_ne _ _ _ _ e]
   exact fQ ((List.mem_cons.mp hb).resolve_left e)
theorem xH {b : Addr} {h : Heap} : ∀ {l : List Addr}, b ∉ l -> (kJ l h).get? b = h.get? b
 | [], _ => rfl
 | a :: l, hb => by
  unfold kJ
  rw [Heap.get?_update_ne _ _ _ _ fun e => hb (by rw [e]; exact mem_cons_self)]
  exact xH fun z => hb (mem_cons_of_mem _ z)
theorem oV (l : List Addr) (h : Heap) : (kJ l h).StaysIn h := fun b o e => by
 by_cases hb : b ∈ l
 ·rw [fQ hb] at e; cases e
 ·rwa [xH hb] at e
theorem mO {h b0 base : Heap} : ∀ {l : List Env}, h.FunFrames b0 l -> (∀ L ∈ frs l, base.get? L = none) -> h.FunFrames base l
 | [], _, _ => trivial
 | env :: l, ⟨k, ⟨L, o, e1, _, e3, e4⟩, r⟩, hb => by
  have hL : L ∈ frs (env :: l) := by unfold frs; rw [List.filterMap_cons_some e1]; exact mem_cons_self
  exact ⟨k, ⟨L, o, e1, hb L hL, e3, e4⟩, mO r fun M hM => hb M (by unfold frs; rw [List.filterMap_cons_some e1]; exact mem_cons_of_mem _ hM)⟩
structure Fly (C : Addr) (h0 : Heap) (H : Hp) (e : Addr) (h : Heap) : Prop where
 n0 : h0.get? e = none
 nH : H e = none
 ex : ∃ oe vs a0, h.get? e = some oe /\ oe.cls = .ref C /\ oe.data = .fields vs /\ vs[0]? = some a0 /\
  (vs[1]? = some .none \/ ∃ T oT ts, vs[1]? = some (.ref T) /\ T ≠ e /\ h.get? T = some oT /\ oT.data = .fields ts /\ ts[3]? = some .none /\ h0.get? T = none /\ H T = none)
structure FlyT (C : Addr) (h0 : Heap) (H : Hp) (e : Addr) (h : Heap) : Prop where
 n0 : h0.get? e = none
 nH : H e = none
 ex : ∃ oe vs a0 T oT ts, h.get? e = some oe /\ oe.cls = .ref C /\ oe.data = .fields vs /\ vs[0]? = some a0 /\ vs[1]? = some (.ref T) /\ T ≠ e /\ h.get? T = some oT /\ oT.data = .fields ts /\ ts[3]? = some .none /\ h0.get? T = none /\ H T = none
theorem FlyT.fly {e : Addr}   (F : FlyT C h0 H e h) : Fly C h0 H e h := by
 obtain ⟨n0, nH, oe, vs, a0, T, oT, ts, he, hc, hd, hz, r⟩ := F
 exact ⟨n0, nH, oe, vs, a0, he, hc, hd, hz, .inr ⟨T, oT, ts, r⟩⟩
def aA8 (h0 : Heap) (H : Hp) (fs : List Addr) (h h' : Heap) : Prop :=
 ∀ b o, h.get? b = some o -> ((∃ o0, h0.get? b = some o0) \/ ∃ u, H b = some u) -> (b ∉ fs -> h'.get? b = some o) /\ ∃ sl, h'.get? b = some { o with slots := sl }
section
variable  {A : Around}   {e L : Addr} {b0 : Heap}    
theorem nZ {l : List Addr}   (hth : ∀ b o, h0.get? b = some o -> ∃ o', h.get? b = some o') (hH : ∀ b u, H b = some u -> ∃ o, h.get? b = some o) (n0 : h0.get? e = none) (nH : H e = none)
  (hl : ∀ b ∈ l, b = e \/ (h0.get? b = none /\ H b = none) \/ b ∈ frs fl) (f : h'.FunFrames (kJ l h) fl) (t : h'.TracedW (kJ l h) e (.ref C) a0) : FlyT C h0 H e h' := by
 obtain ⟨oe, vs, T, oT, ts, he, ⟨hc, hz⟩, hd, h1, hT0, hTe, hT, hdT, h3⟩ := t
 have : h0.get? T = none /\ H T = none := by
  by_cases hb : T ∈ l
  ·rcases hl T hb with z | z | z
   ·exact (hTe z).elim
   ·exact z
   ·obtain ⟨_, o, ho, hnf⟩ := f.mem z
    rw [hT] at ho
    cases ho
    exact (hnf ts hdT).elim
  ·rw [xH hb] at hT0
   refine ⟨?_, ?_⟩
   ·cases q : h0.get? T with
    | none => rfl
    | some o => obtain ⟨o', z⟩ := hth T o q; rw [hT0] at z; cases z
   ·cases q : H T with
    | none => rfl
    | some u => obtain ⟨o', z⟩ := hH T u q; rw [hT0] at z; cases z
 exact ⟨n0, nH, oe, vs, a0, T, oT, ts, he, hc, hd, hz, h1, hTe, hT, hdT, h3, this⟩
theorem qL {l : List Addr}  {bb : Heap} (hl : ∀ b ∈ l, (h0.get? b = none /\ H b = none) \/ b ∈ frs fl) (f : h.FunFrames bb fl) (k1 : (kJ l h).StaysIn h')
  (k4 : ∀ b o, h.get? b = some o -> (∀ vs, o.data ≠ .fields vs) -> ∃ sl, h'.get? b = some { o with slots := sl }) : aA8 h0 H (frs fl) h h' := fun b o e hb => by
 have hk : b ∉ frs fl -> h'.get? b = some o := fun hn => k1 b o (by
  rw [xH fun z => ?_]; exact e
  rcases hl b z with ⟨q1, q2⟩ | q
  ·rcases hb with ⟨o0, z⟩ | ⟨u, z⟩
   ·rw [q1] at z; cases z
   ·rw [q2] at z; cases z
  ·exact hn q)
 refine ⟨hk, ?_⟩
 by_cases hn : b ∈ frs fl
 ·obtain ⟨_, o', ho, hnf⟩ := f.mem hn
  rw [e] at ho
  cases ho
  exact k4 b o e hnf
 ·exact ⟨o.slots, hk hn⟩
theorem aL3 (hfr : A.frames = some (env :: outer)) (hl : s.heap.FunFrames b0 (env :: outer)) (hf : env.frame = some L) (hth : ∀ b o, h0.get? b = some o -> ∃ o', s.heap.get? b = some o') (hH : ∀ b u, H b = some u -> ∃ o, s.heap.get? b = some o)
  (F : Fly C h0 H e s.heap) (hQ : ∀ h', Fly C h0 H e h' -> aA8 h0 H (frs (env :: outer)) s.heap h' -> Q () { s with heap := h' }) : wpAny M A (leaving env (.ref e)) Q E s := by
 obtain ⟨n0, nH, oe, vs, a0, he, hc, hd, hz, ht⟩ := F
 rcases ht with ht | ⟨T, oT, ts, h1, hTe, hT, hdT, h3, nT, nHT⟩
 ·have hcut : ∀ L ∈ frs (env :: outer), (kJ (e :: frs (env :: outer)) s.heap).get? L = none := fun L hL => fQ (mem_cons_of_mem _ hL)
  refine wpAny_leaving_firstW (base := kJ (e :: frs (env :: outer)) s.heap) hfr (mO hl hcut) hf he (oV _ _) (fQ mem_cons_self) hd ht hz fun h' ⟨k1, k2, k3, k4⟩ => ?_
  rw [hc] at k3
  refine hQ h' (nZ (h := s.heap) hth hH n0 nH (fun b hb => ?_) k2 k3).fly (qL (fun b hb => ?_) hl k1 k4)
  ·exact (List.mem_cons.mp hb).elim .inl fun z => .inr (.inr z)
  ·exact (List.mem_cons.mp hb).elim (fun z => .inl (by rw [z]; exact ⟨n0, nH⟩)) .inr
 ·have hcut : ∀ L ∈ frs (env :: outer), (kJ (e :: T :: frs (env :: outer)) s.heap).get? L = none := fun L hL => fQ (mem_cons_of_mem _ (mem_cons_of_mem _ hL))
  refine wpAny_leaving_nextW (base := kJ (e :: T :: frs (env :: outer)) s.heap) (cls := .ref C) (a0 := a0) hfr (mO hl hcut) hf ⟨oe, vs, T, oT, ts, he, ⟨hc, hz⟩, hd, h1, fQ (mem_cons_of_mem _ mem_cons_self), hTe, hT, hdT, h3⟩ (oV _ _) (fQ mem_cons_self) fun h' ⟨k1, k2, k3, k4⟩ => ?_
  refine hQ h' (nZ (h := s.heap) hth hH n0 nH (fun b hb => ?_) k2 k3).fly (qL (fun b hb => ?_) hl k1 k4)
  ·rcases List.mem_cons.mp hb with z | hb
   ·exact .inl z
   ·exact (List.mem_cons.mp hb).elim (fun z => .inr (.inl (by rw [z]; exact ⟨nT, nHT⟩))) fun z => .inr (.inr z)
  ·rcases List.mem_cons.mp hb with z | hb
   ·exact .inl (by rw [z]; exact ⟨n0, nH⟩)
   ·exact (List.mem_cons.mp hb).elim (fun z => .inl (by rw [z]; exact ⟨nT, nHT⟩)) .inr
theorem aO1 (hfr : A.frames = some (env :: outer)) (hl : s.heap.FunFrames b0 (env :: outer)) (hf : env.frame = some L) (hth : ∀ b o, h0.get? b = some o -> ∃ o', s.heap.get? b = some o') (hH : ∀ b u, H b = some u -> ∃ o, s.heap.get? b = some o)
  (F : Fly C h0 H e s.heap) (hQ : ∀ h', FlyT C h0 H e h' -> aA8 h0 H (frs (env :: outer)) s.heap h' -> Q () { s with heap := h' }) : wpAny M A (noteFrame (.ref e) env) (fun _ s2 => wpAny M A (setFlight (.ref e) none) Q E s2) E s := by
 obtain ⟨n0, nH, oe, vs, a0, he, hc, hd, hz, ht⟩ := F
 have fin : ∀ (l : List Addr), (∀ b ∈ l, b = e \/ (h0.get? b = none /\ H b = none) \/ b ∈ frs (env :: outer)) -> ∀ h', Heap.NotedW (kJ l s.heap) (env :: outer) e (.ref C) a0 (rawInt L) s.heap h' -> wpAny M A (setFlight (.ref e) none) Q E { s with heap := h' } := by
  intro l hll h' ⟨k1, k2, k3, k4⟩
  refine wpAny_setFlight_noneW (s := { s with heap := h' }) k1 k2 k3 fun h2 m1 m2 m3 m4 => hQ h2 (nZ (h := s.heap) hth hH n0 nH hll m2 m3) (qL (fun b hb => ?_) hl m1 fun b o hb hnf => ?_)
  ·rcases hll b hb with z | z | z
   ·exact .inl (by rw [z]; exact ⟨n0, nH⟩)
   ·exact .inl z
   ·exact .inr z
  ·obtain ⟨sl, z⟩ := k4 b o hb hnf
   exact ⟨sl, m4 b _ z hnf⟩
 rcases ht with ht | ⟨T, oT, ts, h1, hTe, hT, hdT, h3, nT, nHT⟩
 ·have hcut : ∀ L ∈ frs (env :: outer), (kJ (e :: frs (env :: outer)) s.heap).get? L = none := fun L hL => fQ (mem_cons_of_mem _ hL)
  unfold noteFrame
  simp only [hf]
  refine wpAny_bind (wpAny_field he hd ht ?_)
  rw [if_neg (by decide)]
  refine wpAny_entryW (base := kJ (e :: frs (env :: outer)) s.heap) hfr (mO hl hcut) hf he (oV _ _) (fQ mem_cons_self) hd (Array.getElem?_eq_some_iff.mp ht).1 hz fun h' N => ?_
  rw [hc] at N
  exact fin _ (fun b hb => (List.mem_cons.mp hb).elim .inl fun z => .inr (.inr z)) h' N
 ·have hcut : ∀ L ∈ frs (env :: outer), (kJ (e :: T :: frs (env :: outer)) s.heap).get? L = none := fun L hL => fQ (mem_cons_of_mem _ (mem_cons_of_mem _ hL))
  refine wpAny_noteFrame_onW (base := kJ (e :: T :: frs (env :: outer)) s.heap) (cls := .ref C) (a0 := a0) hfr (mO hl hcut) hf ⟨oe, vs, T, oT, ts, he, ⟨hc, hz⟩, hd, h1, fQ (mem_cons_of_mem _ mem_cons_self), hTe, hT, hdT, h3⟩ (oV _ _) (fQ mem_cons_self) fun h' N => ?_
  refine fin _ (fun b hb => ?_) h' N
  rcases List.mem_cons.mp hb with z | hb
  ·exact .inl z
  ·exact (List.mem_cons.mp hb).elim (fun z => .inr (.inl (by rw [z]; exact ⟨nT, nHT⟩))) fun z => .inr (.inr z)
theorem aQt (hth : ∀ b o, h0.get? b = some o -> ∃ o', s.heap.get? b = some o') (hH : ∀ b u, H b = some u -> ∃ o, s.heap.get? b = some o) (F : FlyT C h0 H e s.heap)
  (hQ : ∀ h', FlyT C h0 H e h' -> aA8 h0 H [] s.heap h' -> Q () { s with heap := h' }) : wpAny M A (setFlight (.ref e) none) Q E s := by
 obtain ⟨n0, nH, oe, vs, a0, T, oT, ts, he, hc, hd, hz, h1, hTe, hT, hdT, h3, nT, nHT⟩ := F
 refine wpAny_setFlight_noneW (base := kJ [e, T] s.heap) (l := []) (cls := .ref C) (a0 := a0) (fl := .none) (oV _ _) trivial ⟨oe, vs, T, oT, ts, he, ⟨hc, hz⟩, hd, h1, fQ (by simp), hTe, hT, hdT, h3⟩ fun h2 m1 m2 m3 m4 => hQ h2 (nZ (h := s.heap) (fl := []) hth hH n0 nH (fun b hb => ?_) m2 m3) (qL (fl := []) (bb := s.heap) (fun b hb => ?_) trivial m1 fun b o hb hnf => ⟨o.slots, m4 b o hb hnf⟩)
 ·rcases List.mem_cons.mp hb with z | z
  ·exact .inl z
  ·exact .inr (.inl (by rw [List.mem_singleton.mp z]; exact ⟨nT, nHT⟩))
 ·rcases List.mem_cons.mp hb with z | z
  ·exact .inl (by rw [z]; exact ⟨n0, nH⟩)
  ·exact .inl (by rw [List.mem_singleton.mp z]; exact ⟨nT, nHT⟩)
end
end Pu
namespace Pu
open PySem PySem.Spec PyProof.Rows L2
theorem aGc {a : Addr} {o : HO} (x : jN P w H h a o) : ∃ ob, h.get? a = some ob := by
 cases o with
 | lst xs => obtain ⟨_, _, _, _, e⟩ := x; exact ⟨_, e⟩
 | tup xs => obtain ⟨_, _, _, ob, e, _⟩ := x; exact ⟨_, e⟩
 | dK kvs => obtain ⟨_, _, _, _, o, _, _, e, _⟩ := x; exact ⟨_, e⟩
 | dT kvs => obtain ⟨_, _, _, _, o, _, _, e, _⟩ := x; exact ⟨_, e⟩
 | set S n => obtain ⟨o, _, _, _, e, _⟩ := x; exact ⟨_, e⟩
 | ins C dx fs => obtain ⟨_, _, _, e, _⟩ := x; exact ⟨_, e⟩
 | own y => obtain ⟨_, e⟩ := x; exact ⟨_, e⟩
 | xd fs => obtain ⟨_, ⟨_, _, _, e, _⟩, _⟩ := x; exact ⟨_, e⟩
 | rng lo hi => obtain ⟨_, _, _, e⟩ := x; exact ⟨_, e⟩
 | frz ob u => obtain ⟨e, _⟩ := x; exact ⟨_, e⟩
 | tbl ps => exact ⟨_, (show h.get? a = some _ from x)⟩
 | met f y => exact ⟨_, (show h.get? a = some _ from x)⟩
 | ext φ => obtain ⟨_, ⟨_, e⟩, _⟩ := x; exact ⟨_, e⟩
theorem nO (x : HOk P w H h) : ∀ b u, H b = some u -> ∃ o, h.get? b = some o := fun b u e => aGc (x b u e)
theorem qM {fs : List Addr} (x : HOk P w H h) (m : aA8 h0 H fs h h') (hf : ∀ b ∈ fs, H b = none) : HOk P w H h' := fun b u e => by
 refine (x b u e).stay (fun c v hc q => ?_) (fun _ q => q) fun _ _ q => q
 have ht : ∃ u, H c = some u := by
  rcases hc with z | z
  ·exact ⟨u, by rw [z]; exact e⟩
  ·exact ⟨_, z⟩
 obtain ⟨u', hu⟩ := ht
 exact (m c v q (.inr ⟨u', hu⟩)).1 fun hb => by rw [hf c hb] at hu; cases hu
theorem Fly.back {e : Addr} {h1 : Heap}  (F : Fly C h1 H e h) (k : ∀ b o, h0.get? b = some o -> ∃ o', h1.get? b = some o') : Fly C h0 H e h := by
 have z : ∀ b, h1.get? b = none -> h0.get? b = none := fun b hb => by
  cases q : h0.get? b with
  | none => rfl
  | some o => obtain ⟨o', q'⟩ := k b o q; rw [hb] at q'; cases q'
 obtain ⟨n0, nH, oe, vs, a0, he, hc, hd, hz, ht⟩ := F
 refine ⟨z _ n0, nH, oe, vs, a0, he, hc, hd, hz, ?_⟩
 rcases ht with ht | ⟨T, oT, ts, h1', hTe, hT, hdT, h3, nT, nHT⟩
 ·exact .inl ht
 ·exact .inr ⟨T, oT, ts, h1', hTe, hT, hdT, h3, z _ nT, nHT⟩
def CX1 (P : Program) (w : World) : CXT := fun outer H s E e s' => ∃ ea C H', e = .ref ea /\ s'.os = s.os /\ AllBare s'.gens /\ Un (frs outer) [] H H' s.heap s'.heap /\ HOk P w H' s'.heap /\ Fly C s.heap H' ea s'.heap /\ E (.ref C) none H'
def aO2 (X : Cx) (W : Addr -> L2.St -> Hp -> Prop) : Prop := ∀ (pins : List (Addr × Obj)) (σ : L2.St) (H : Hp) (s : Shared) (ea C : Addr) (H' : Hp) (s' : Shared), Inv X pins σ H s -> s'.os = s.os -> AllBare s'.gens -> Un (frs X.stack) [] H H' s.heap s'.heap ->
 HOk X.prog X.w H' s'.heap -> Fly C s.heap H' ea s'.heap -> W C σ H' -> X.xe (.ref ea) s'
theorem aBy {K : Frag}      {f : Addr}  {A : Around}    {E : XK} :
  aO2 (uM (CX1 P w) P w K mg base N qual scope f cd A outer s0 H0 E) (fun C _ H' => E (.ref C) none H') := by
 intro pins σ H s ea C H' s' I hos hb un hok F hE
 have J : Inv _ pins σ H' s' := I.call' (ch := []) hos un hok hb fun _ z => nomatch z
 have th0 : ∀ b o, s0.heap.get? b = some o -> ∃ o', s.heap.get? b = some o' := fun b o e => I.base.there b o e (by intro z; cases z)
 have th1 : ∀ b o, s0.heap.get? b = some o -> ∃ o', s'.heap.get? b = some o' := fun b o e => J.base.there b o e (by intro z; cases z)
 refine aL3 (h0 := s0.heap) (L := s0.heap.objs.size) J.ok.frames J.stack rfl th1 (nO hok) (F.back th0) fun h' F' m => ?_
 refine ⟨ea, C, H', rfl, J.os, hb, ?_, qM hok m J.stkFree, F', hE⟩
 have nl : ∀ b o, s0.heap.get? b = some o -> b ≠ s0.heap.objs.size := fun b o e => Nat.ne_of_lt (Heap.lt_size e)
 have nf : ∀ b o, s0.heap.get? b = some o -> b ∉ frs outer -> b ∉ frs (envOfC qual scope s0.heap.objs.size f cd :: outer) := fun b o e hn z => by
  rcases List.mem_cons.mp (show b ∈ s0.heap.objs.size :: frs outer from z) with z | z
  ·exact nl b o e z
  ·exact hn z
 refine ⟨fun b o e n hb hx => ?_, fun b o e n hb hx => ?_, fun b o e n hx => J.base.free b o e n (by intro z; cases z), fun b o e hx => ?_, J.base.tups, J.base.frzs, J.base.tbls⟩
 ·exact (m b o (J.base.keep b o e n hb (by intro z; cases z)) (.inl ⟨o, e⟩)).1 (nf b o e hb)
 ·obtain ⟨sl, e1⟩ := J.base.slot b o e n hb (by intro z; cases z)
  obtain ⟨sl2, e2⟩ := (m b _ e1 (.inl ⟨o, e⟩)).2
  exact ⟨sl2, e2⟩
 ·obtain ⟨o', e1⟩ := th1 b o e
  obtain ⟨sl2, e2⟩ := (m b _ e1 (.inl ⟨o, e⟩)).2
  exact ⟨_, e2⟩
theorem aO3 {e : Addr} {vs : List Value}   (x : Heap.MadeExcOf h h' e (.ref C) vs) (hok : HOk P w H h) : Fly C h H e h' := by
 obtain ⟨t, he, ht, _⟩ := x.there
 refine ⟨x.new, ?_, _, _, _, he, rfl, rfl, rfl, .inl rfl⟩
 cases q : H e with
 | none => rfl
 | some u => obtain ⟨o, z⟩ := nO hok e u q; rw [x.new] at z; cases z
section
variable    {t : TA} {W : Addr -> L2.St -> Hp -> Prop}
theorem aGd {np : Pos} (hL : aO2 X W) (hc : ExcAt X.K c C tl) (hm : X.mg (Str.ofString c) = some (.ref C)) (hcalm : X.calm = true) (ha : PA X (e :: es) t) (hg : Gl X (Str.ofString c) := by rfl) (hdb : (Str.ofString c == ("__debug__" : Str)) = false := by decide)
  (he : starEach (e :: es) X.env = (false, eval e X.env) :: starEach es X.env := by rfl) (hpl : (backTo cpos (starEach es X.env)).any (·.1) = false := by rfl) (hlen : (e :: es).length <= 100 := by decide) :
  PS X (.Raise (some (.Call (.Name (Str.ofString c) np) (e :: es) [] cpos)) none pos) (fun _ σ H => t σ H fun vs H' => vs.length <= 100 /\ W C σ H') := by
 intro pins s σ H Dn I h
 obtain ⟨B, newId, initId, bmB, FB, hob⟩ := hc.ob
 obtain ⟨N, nm, q, bs, hdct, sn, sub, ab, col, dd, k0, k1, k2, k3, k5, mN, hC, hN, hni, T⟩ := hob X.base I.ok.mod.kin
 refine wpAny_Raise_call_subT (C := C) (nm := nm) (q := q) (N := N) (bs := bs) (bm := tl) (hdct := hdct) (sn := sn) (sub := sub) (ab := ab) (col := col) (dd := dd) (k0 := k0) (k1 := k1) (k2 := k2) (k3 := k3) (k5 := k5)
  FB (mN := mN) (T.hasType FB.hasBase) (I.ok.hd hcalm) (by rw [he]; show (false || (backTo cpos (starEach es X.env)).any (·.1)) = false; rw [hpl]; rfl) hni (qO I hg hm ⟨rfl, ?_⟩ hdb)
 have hh := ha cpos pins s σ H _ I h
 rw [he] at hh ⊢
 refine Calls.evalArgs_plain (thn hh fun us s2 ⟨vs, H2, I2, r2, hv, hw⟩ => ⟨rfl, ?_, I2.bk _ _ hC, hN.keeps I2.bk, T.keeps I2.bk, fun h' ea hx => ?_⟩)
 ·show us.length <= sizeLine
  rw [<- r2.length]
  exact Nat.le_trans hv (by decide)
 ·exact hL pins σ H2 s2 ea C H2 { s2 with heap := h' } I2 rfl I2.bare (Un.kept hx.keeps) (I2.hok.kept hx.keeps) (aO3 hx I2.hok) hw
end
end Pu
namespace Pu
open PySem PySem.Spec PyProof.Rows L2
theorem aBz {fs gs : List Addr}   (u : Un fs [] H0 H h0 h) (m : aA8 h0 H gs h h') (hg : ∀ b ∈ gs, b ∈ fs) : Un fs [] H0 H h0 h' := by
 have nx : ∀ b : Addr, b ∉ ([] : List Addr) := fun b z => by cases z
 refine ⟨fun b o e n hb hx => ?_, fun b o e n hb hx => ?_, fun b o e n hx => u.free b o e n hx, fun b o e hx => ?_, u.tups, u.frzs, u.tbls⟩
 ·exact (m b o (u.keep b o e n hb hx) (.inl ⟨o, e⟩)).1 fun z => hb (hg b z)
 ·obtain ⟨sl, e1⟩ := u.slot b o e n hb hx
  obtain ⟨sl2, e2⟩ := (m b _ e1 (.inl ⟨o, e⟩)).2
  exact ⟨sl2, e2⟩
 ·obtain ⟨o', e1⟩ := u.there b o e hx
  obtain ⟨sl2, e2⟩ := (m b _ e1 (.inl ⟨o, e⟩)).2
  exact ⟨_, e2⟩
structure FS (X : Cx) (pins : List (Addr × Obj)) (σ : L2.St) (H : Hp) (ea C : Addr) (s : Shared) : Prop where
 ex : ∃ Hc sc, Inv X pins σ Hc sc /\ s.os = sc.os /\ AllBare s.gens /\ Un (frs X.stack) [] Hc H sc.heap s.heap /\ HOk X.prog X.w H s.heap /\ FlyT C sc.heap H ea s.heap
section
variable {X : Cx} {pins : List (Addr × Obj)} {σ : L2.St} {H : Hp} {ea C : Addr} {s : Shared}
theorem FS.inv (F : FS X pins σ H ea C s) : Inv X pins σ H s := by
 obtain ⟨Hc, sc, I, os, bare, un, hok, f⟩ := F.ex
 exact I.call' (ch := []) os un hok bare fun _ z => nomatch z
theorem FS.there (F : FS X pins σ H ea C s) : ∃ oe, s.heap.get? ea = some oe /\ oe.cls = .ref C := by
 obtain ⟨Hc, sc, I, os, bare, un, hok, f⟩ := F.ex
 obtain ⟨_, _, oe, _, _, _, _, _, he, hc, _⟩ := f
 exact ⟨oe, he, hc⟩
abbrev held (X : Cx) (ea : Addr) : Cx := { X with A := X.A.mark (some (.ref ea)), calm := false, xe := fun _ _ => False }
theorem aQu (ok : X.Ok) (ea : Addr) : (held X ea).Ok :=
 ⟨ok.mod, ok.kind, ok.glob, ok.blt, ok.above, ok.inj, ok.has, ok.cab, (fun z => nomatch z), ok.frames, ok.stk, ok.exf, ok.bs, ok.bsz, ok.noex, ok.exfs, ok.funs, ok.frf⟩
theorem aGe (I : Inv X pins σ H s) (ea : Addr) : Inv (held X ea) pins σ H s := ⟨aQu I.ok ea, I.os, I.bare, I.base, I.loc, I.cell, I.free, I.freeC, I.pin, I.hok, I.len⟩
theorem rF (ok : X.Ok) (I : Inv (held X ea) pins σ H s) : Inv X pins σ H s := ⟨ok, I.os, I.bare, I.base, I.loc, I.cell, I.free, I.freeC, I.pin, I.hok, I.len⟩
theorem aL4 {D : Ends} {f : Flow}  (ok : X.Ok) (h : SP (held X ea) pins D f s') : SP X pins D f s' := by
 cases f with
 | next => obtain ⟨σ', H', I, q⟩ := h; exact ⟨σ', H', rF ok I, q⟩
 | brk => obtain ⟨σ', H', I, q⟩ := h; exact ⟨σ', H', rF ok I, q⟩
 | cont => obtain ⟨σ', H', I, q⟩ := h; exact ⟨σ', H', rF ok I, q⟩
 | ret u => obtain ⟨v, σ', H', I, r, q⟩ := h; exact ⟨v, σ', H', rF ok I, r, q⟩
theorem FS.set {A : Around}   (F : FS X pins σ H ea C s) (h : ∀ s', FS X pins σ H ea C s' -> Q () s') : wpAny M A (setFlight (.ref ea) none) Q E s := by
 obtain ⟨Hc, sc, I, os, bare, un, hok, f⟩ := F.ex
 refine aQt (fun b o e => un.there b o e (by intro z; cases z)) (nO hok) f fun h' f' m => h _ ⟨Hc, sc, I, os, bare, aBz un m (by intro b z; cases z), qM hok m (by intro b z; cases z), f'⟩
end
section
variable  {A : Around}  {nm q : Str} {N : Addr} {bs bm : List Value} {hdct : Bool} {sn : List Str} {sub : List Value} {ab : Bool} {col : Option Bool} {dd : Option Addr} {k0 k1 k2 k3 k5 : Option Value} 
variable {nm' q' : Str} {N' : Addr} {bs' bm' : List Value} {hdct' : Bool} {sn' : List Str} {sub' : List Value} {ab' : Bool} {col' : Option Bool} {dd' : Option Addr} {j0 j1 j2 j3 j5 : Option Value} {newId' : String}
theorem aC0 {g : Array GenState} {d : Drawn} {t : Nat} {os : OsState} {e : Addr} {oe : Obj} {Q : Bool -> Shared -> Prop}
  (hC : h.get? C = some (excClassObj nm q C N bs bm hdct sn sub ab col dd k0 k1 k2 k3 k5 newId)) (hD : h.get? D' = some (excClassObj nm' q' D' N' bs' bm' hdct' sn' sub' ab' col' dd' j0 j1 j2 j3 j5 newId')) (he : h.get? e = some oe) (hcls : oe.cls = .ref C) (hbase : bm'.contains (.type "BaseException") = true)
  (hq : Q ((Value.ref C :: bm).contains (.ref D')) ⟨h, g, d, t, os⟩) : wpAny M A (excMatches (.ref e) (.ref D')) Q E ⟨h, g, d, t, os⟩ := by
 have hcB : (Value.ref D' :: bm').contains (.type "BaseException") = true := by rw [List.contains_cons, hbase, Bool.or_true]
 have f := tc_notTuple
 unfold excMatches
 cases hb : (Value.ref C :: bm).contains (.ref D') <;> rw [hb] at hq <;>
  repeat (first | (with_reducible refine wpAny_loadPart_at he ?_; rw [hcls]) | with_reducible refine wpAny_loadPart_at hD ?_ | (with_reducible refine wpAny_isSubtype_exc hD ?_; rw [hcB]) | (with_reducible refine wpAny_isSubtype_exc hC ?_; rw [hb]) | wp_step)
 ·exact hq
 ·exact hq
end
def PH (X : Cx) (hs : List ExceptHandler) (t : Addr -> TS) : Prop := ∀ (pins : List (Addr × Obj)) (s : Shared) (σ : L2.St) (H : Hp) (Dn : Ends) (ea C : Addr), FS X pins σ H ea C s -> t C Dn σ H -> wpAny (model X.prog X.w) X.A (handleBy (.ref ea) X.env hs) (SP X pins Dn) X.xe s
section
variable {X : Cx}
def onExc (X : Cx) (hs : List ExceptHandler) (pins : List (Addr × Obj)) (Dn : Ends) (e : Value) (s1 : Shared) : Prop :=
 wpAny (model X.prog X.w) X.A (noteFrame e X.env) (fun _ s2 => wpAny (model X.prog X.w) X.A (setFlight e none) (fun _ s3 => wpAny (model X.prog X.w) X.A (handleBy e X.env hs) (SP X pins Dn) X.xe s3) X.xe s2) X.xe s1
abbrev pN (X : Cx) (pn : List (Addr × Obj)) (E : Value -> Shared -> Prop) : Cx := { X with pn := pn, xe := E }
theorem aQv {pn : List (Addr × Obj)}  (ok : X.Ok) : (pN X pn E).Ok :=
 ⟨ok.mod, ok.kind, ok.glob, ok.blt, ok.above, ok.inj, ok.has, ok.cab, ok.hd, ok.frames, ok.stk, ok.exf, ok.bs, ok.bsz, ok.noex, ok.exfs, ok.funs, ok.frf⟩
theorem aGf {σ : L2.St}   (I : Inv X pins σ H s) : Inv (pN X (X.pn ++ pins) E) [] σ H s :=
 ⟨aQv I.ok, I.os, I.bare, I.base, I.loc, I.cell, I.free, I.freeC, fun p hp => I.pin p (by rw [append_nil] at hp; exact hp), I.hok, I.len⟩
theorem jF {pins' : List (Addr × Obj)}  {σ : L2.St}   (ok : X.Ok) (I : Inv (pN X (X.pn ++ pins) E) pins' σ H s) : Inv X pins σ H s :=
 ⟨ok, I.os, I.bare, I.base, I.loc, I.cell, I.free, I.freeC, fun p hp => I.pin p (List.mem_append_left _ hp), I.hok, I.len⟩
theorem aL5 {D : Ends} {f : Flow}  (ok : X.Ok) (h : SP (pN X (X.pn ++ pins) E) [] D f s') : SP X pins D f s' := by
 cases f with
 | next => obtain ⟨σ', H', I, q⟩ := h; exact ⟨σ', H', jF ok I, q⟩
 | brk => obtain ⟨σ', H', I, q⟩ := h; exact ⟨σ', H', jF ok I, q⟩
 | cont => obtain ⟨σ', H', I, q⟩ := h; exact ⟨σ', H', jF ok I, q⟩
 | ret u => obtain ⟨v, σ', H', I, r, q⟩ := h; exact ⟨v, σ', H', jF ok I, r, q⟩
end
end Pu
namespace Pu
open PySem PySem.Spec PyProof.Rows L2
abbrev XW := D -> L2.St -> Hp -> Prop
def Exc (K : Frag) (B A : List Addr) (H : Hp) (sm : Bool) (st : PSt) (x : D) (W : XW) : Prop := ∀ A' st' σ' H', Le A H A' H' -> RS K B A' H' st' σ' -> (sm = true -> st' = st) -> W x σ' H'
theorem Exc.mono {K : Frag}   {sm : Bool} {st : PSt} {x : D} {W : XW} (l : Le A H A1 H1) (h : Exc K B A H sm st x W) : Exc K B A1 H1 sm st x W := fun A' st' σ' H' l' => h A' st' σ' H' (l.trans l')
theorem Exc.any {K : Frag}   {sm : Bool} {st st2 : PSt} {x : D} {W : XW} (h : Exc K B A H false st2 x W) : Exc K B A H sm st x W := fun A' st' σ' H' l r _ => h A' st' σ' H' l r fun z => nomatch z
def Out (K : Frag) (B A : List Addr) (H : Hp) (sm : Bool) (st : PSt) (W : XW) (Dn : Ends) (r : R Fl) : Prop := match r with
 | .ok r => aBk K B A H r Dn
 | .exc x => Exc K B A H sm st x W
 | .bad => False
theorem Out.mono {K : Frag} {B A A1 : List Addr} {H H1 : Hp} {sm : Bool} {st : PSt} {W : XW} {Dn : Ends} {r : R Fl} (l : Le A H A1 H1) (h : Out K B A H sm st W Dn r) : Out K B A1 H1 sm st W Dn r := by
 cases r with
 | ok r => exact aBk.mono l h
 | exc x => exact Exc.mono l h
 | bad => exact h
theorem Out.any {K : Frag} {B A : List Addr} {H : Hp} {sm : Bool} {st st2 : PSt} {W : XW} {Dn : Ends} {r : R Fl} (h : Out K B A H false st2 W Dn r) : Out K B A H sm st W Dn r := by
 cases r with
 | ok r => exact h
 | exc x => exact Exc.any h
 | bad => exact h
def tSX (K : Frag) (B : List Addr) (sm : Bool) (W : XW) (b : Bd) : TS := fun Dn σ H => ∃ A st, RS K B A H st σ /\ Out K B A H sm st W Dn (b st)
def tIX (K : Frag) (B : List Addr) (W : XW) (f : Ex) : TE := fun σ H Q => ∃ A st, RS K B A H st σ /\ (match f st with
 | .ok d => ∀ v H', aM H H' -> Rep K (hide (A ++ B) H') d v -> Q v H'
 | .exc x => ∀ H', aM H H' -> W x σ H'
 | .bad => False)
def qN (X : Cx) (W : XW) : Prop := aO2 X fun C σ H' => ∃ c bm, ExcAt X.K c C bm /\ W (.exn c [] []) σ H'
section
variable       {rest : List Stmt}  {W : XW} {s1 s2 : Bool}
theorem xJ (h : PS X sm (tSX X.K B s1 W bd)) : PS X sm (tSX X.K B false W bd) := fZ h fun Dn σ H ⟨A, st, rs, q⟩ => ⟨A, st, rs, q.any⟩
theorem aO4 (h : PS X sm (tS X.K B bd)) : PS X sm (tSX X.K B s1 W (sNX bd)) := fZ h (by
 rintro Dn σ H ⟨A, st, rs, q⟩
 unfold sNX at q
 cases hb : bd st with
 | ok r => rw [hb] at q; exact ⟨A, st, r, rs, hb, q⟩
 | exc x => rw [hb] at q; exact q.elim
 | bad => rw [hb] at q; exact q.elim)
theorem aO5 : PSs X [] (tSX X.K B s1 W eN) := oU aDw (by
 rintro Dn σ H ⟨A, st, rs, q⟩
 exact q A σ H Le.refl rs)
theorem aC1 (h1 : PS X sm (tSX X.K B s1 W bd)) : PSs X [sm] (tSX X.K B s1 W bd) := aAg h1
theorem aC2 (h1 : PS X sm (tSX X.K B s1 W bd)) (h2 : PSs X rest (tSX X.K B s2 W bd')) : PSs X (sm :: rest) (tSX X.K B false W (cQ bd bd')) := by
 refine oU (pR h1 h2) ?_
 rintro Dn σ H ⟨A, st, rs, q⟩
 refine ⟨A, st, rs, ?_⟩
 unfold cQ aAe at q
 cases hb : bd st with
 | ok r =>
  rw [hb] at q
  cases r with
  | nx s1 => exact fun A' σ' H' l rs' => ⟨A', s1, rs', (q.mono l).any⟩
  | rt d => exact q
  | bk s1 => exact q
  | ct s1 => exact q
 | exc x => rw [hb] at q; exact Exc.any q
 | bad => rw [hb] at q; exact q
theorem aTu {c : Expr} {t : Ex} {x : List Stmt} (hc : PT X c (tT X.K B t)) (ha : PSs X x (tSX X.K B s1 W bd)) (hb : PSs X y (tSX X.K B s1 W bd')) : PS X (.If c x y pos) (tSX X.K B s1 W (sIf (eNX t) bd bd')) := fZ (aIa hc ha hb) (by
 rintro Dn σ H ⟨A, st, rs, q⟩
 unfold sIf eNX at q
 cases ht : t st with
 | exc x => rw [ht] at q; exact q.elim
 | bad => rw [ht] at q; exact q.elim
 | ok d =>
  rw [ht] at q
  cases d <;> first | exact q.elim | skip
  rename_i k
  refine ⟨A, st, k, rs, ht, fun H1 s1 => ?_⟩
  cases k with
  | true => exact ⟨A, st, rs.mono s1, Out.mono (Le.of s1) q⟩
  | false => exact ⟨A, st, rs.mono s1, Out.mono (Le.of s1) q⟩)
theorem aRz (h : PE X e (tIX X.K B W f)) : PS X (.Return (some e) pos) (tSX X.K B true W (eV f)) := fZ (aLs h) (by
 rintro Dn σ H ⟨A, st, rs, q⟩
 refine ⟨A, st, rs, ?_⟩
 unfold eV at q
 cases hf : f st with
 | ok d => rw [hf] at q; exact fun v H' s r => q A v H' (Le.of s) r
 | exc x => rw [hf] at q; exact fun H' s => q A st σ H' (Le.of s) (rs.mono s) fun _ => rfl
 | bad => rw [hf] at q; exact q)
theorem aX3 (i : Nat)   (he : PE X e (tIX X.K B W f)) (hN : X.N.Nodup) (hi : X.N[i]? = some x := by rfl) (hx : Loc X.env.scope x := by first | exact Or.inl rfl | exact Or.inr rfl) (hs : swapsWith e (some (.Name x pos')) pos.line X.env = pure false := by rfl)
  (hf : X.fn x = true \/ X.env.scope.names.lookup x = some .local := by first | exact .inl rfl | exact .inr rfl | assumption) : PS X (.Assign [.Name x pos'] e pos) (tSX X.K B true W (eF i f)) := fZ (yE hN hi hx he hs hf) (by
 rintro Dn σ H ⟨A, st, rs, q⟩
 refine ⟨A, st, rs, ?_⟩
 unfold eF at q
 cases hf : f st with
 | ok d => rw [hf] at q; exact fun v H' s r => q A _ H' (Le.of s) ((rs.mono s).set i r)
 | exc x => rw [hf] at q; exact fun H' s => q A st σ H' (Le.of s) (rs.mono s) fun _ => rfl
 | bad => rw [hf] at q; exact q)
theorem x_raise {np : Pos} (hL : qN X W) (hc : ExcAt X.K c C tl) (hm : X.mg (Str.ofString c) = some (.ref C)) (hcalm : X.calm = true) (ha : PA X (e :: es) (tA X.K B r)) (hg : Gl X (Str.ofString c) := by rfl) (hdb : (Str.ofString c == ("__debug__" : Str)) = false := by decide)
  (he : starEach (e :: es) X.env = (false, eval e X.env) :: starEach es X.env := by rfl) (hpl : (backTo cpos (starEach es X.env)).any (·.1) = false := by rfl) (hlen : (e :: es).length <= 100 := by decide) :
  PS X (.Raise (some (.Call (.Name (Str.ofString c) np) (e :: es) [] cpos)) none pos) (tSX X.K B true W (mQ c r)) := by
 refine fZ (aGd hL hc hm hcalm ha hg hdb he hpl hlen) ?_
 rintro Dn σ H ⟨A, st, rs, q⟩
 unfold mQ at q
 cases hr : r st with
 | exc x => rw [hr] at q; exact q.elim
 | bad => rw [hr] at q; exact q.elim
 | ok ds =>
  rw [hr] at q
  by_cases hl : ds.length <= 100
  ·refine ⟨A, st, ds, rs, hr, fun vs H1 s1 r1 => ⟨by rw [r1.length]; exact hl, c, tl, hc, ?_⟩⟩
   have q' : Out X.K B A H true st W Dn (aH (ds.length <= 100) (.exc (.exn c [] []))) := q
   rw [aG hl] at q'
   exact q' A st σ H1 (Le.of s1) (rs.mono s1) fun _ => rfl
  ·have q' : Out X.K B A H true st W Dn (aH (ds.length <= 100) (.exc (.exn c [] []))) := q
   rw [show aH (ds.length <= 100) (R.exc (α := Fl) (.exn c [] [])) = .bad from if_neg hl] at q'
   exact q'.elim
end
end Pu
variable {W W' : Pu.XW}
namespace Pu
open PySem PySem.Spec PyProof.Rows L2
def spE (K : Frag) (np : Nat) (p : List D -> R D) : Sp := fun vs H Q E => ∃ A ds, Own A H /\ bA K (hide A H) ds vs /\ ds.length = np /\ (match p ds with
 | .ok d => ∀ v H', aM H H' -> Rep K (hide A H') d v -> Q v H'
 | .exc x => ∀ C c bm H', x = .exn c [] [] -> ExcAt K c C bm -> aM H H' -> E (.ref C) none H'
 | .bad => False)
theorem aZ9 {K : Frag}    {st : Stmt} {f : Addr}   {k : Nat} {sm : Bool}  (F : FunD K x qual st dV f fd) (S : FnScope N ps (aL st)) (np n : Nat) (bd : Bd) (hnp : ps.length = np) (hn : N.length = n)
  (hb : ∀ (cdv : Value) (A : Around) (outer : List Env) (s : Shared) (H : Hp) (E : XK) (B : List Addr) (W : XW), Room k (A.deeper (envOfC qual (aL st) s.heap.objs.size f cdv)) ->
   qN (uM (CX1 P w) P w K mg base N qual (aL st) f cdv A outer s H E) W -> PSs (uM (CX1 P w) P w K mg base N qual (aL st) f cdv A outer s H E) (gK st) (tSX K B sm W bd)) : FnOk P w K mg base (CX1 P w) (k + 1) f fd ps (spE K np (fV np n bd)) := by
 obtain ⟨oc, od, kV, doc, pm, an, cdv, ct, osl, rfl, lk, hcd⟩ := F.ex
 refine aIf lk hcd S (fun vs H Q E h => ?_) fun A outer s H vs Q E hr h => ?_
 ·obtain ⟨A, ds, own, r, hl, _⟩ := h
  rw [r.length, hl, hnp]
 ·obtain ⟨B, ds, own, r, hl, q⟩ := h
  let W : XW := fun x _ H' => ∀ C c bm, x = .exn c [] [] -> ExcAt K c C bm -> E (.ref C) none H'
  refine ⟨tSX K B sm W bd, hb cdv A outer s H E B W hr ?_, ?_⟩
  ·intro pins σ H1 s1 ea C H' s' I h1 h2 h3 h4 h5 ⟨c, bm, hc, hw⟩
   exact aBy pins σ H1 s1 ea C H' s' I h1 h2 h3 h4 h5 (hw C c bm rfl hc)
  ·have rs := aBq (N := N) own r
   rw [hl, hn] at rs
   refine ⟨[], _, rs, ?_⟩
   have fin : ∀ {A' : List Addr} {H' : Hp}, Le [] H A' H' -> aM H H' := fun {A' H'} l => by
    unfold Le at l
    rw [wW] at l
    exact l.trans (aY _ _)
   unfold fV at q
   rw [aG hl] at q
   cases hfl : bd (ds.map (fun d => some (Sl.v d)) ++ List.replicate (n - np) none) with
   | ok fl =>
    rw [hfl] at q
    cases fl with
    | nx s1 => exact fun A' σ' H' l rs' => q _ H' (fin l) (bV.mpr rfl)
    | rt d' => exact fun A' v H' l rv => q v H' (fin l) (rv.mono (dR fun a ha => List.mem_append_right _ ha))
    | bk s1 => exact q.elim
    | ct s1 => exact q.elim
   | exc x =>
    rw [hfl] at q
    exact fun A' st' σ' H' l rs' _ C c bm e hc => q C c bm H' e hc (fin l)
   | bad => rw [hfl] at q; exact q
structure DefOkX (P : Program) (w : World) (K : Frag) (mg : Str -> Option Value) (base : Heap) (x : Str) (k np : Nat) (p : List D -> R D) : Prop where
 ex : ∃ (fa : Addr) (fd : FuncData) (ps : List Str), FnOk P w K mg base (CX1 P w) k fa fd ps (spE K np p) /\ mg x = some (.ref fa) /\ keepIn K (.ref fa) = true /\ Binds K fd ps []
 len : ∀ ds, p ds ≠ .bad -> ds.length = np
theorem aL6 (ds : List D) (h : fV np n bd ds ≠ .bad) : ds.length = np := by
 by_cases hl : ds.length = np
 ·exact hl
 ·exact (h (if_neg hl)).elim
theorem DefOkX.of {K : Frag}    {k : Nat}     (h : FnOk P w K mg base (CX1 P w) k fa fd ps (spE K np (fV np n bd))) (m : mg x = some (.ref fa))
  (kp : keepIn K (.ref fa) = true) (b : Binds K fd ps []) : DefOkX P w K mg base x k np (fV np n bd) := ⟨⟨fa, fd, ps, h, m, kp, b⟩, aL6⟩
section
variable {X : Cx} {B : List Addr} {a b e o : Expr} {f g : Ex} {pos : Pos} {W : XW}
theorem aQw {k : Nat}     {dvs : List V} {ds : List Value} {E : XK}  {σ : L2.St}   {Q : VK}   (F : FnOk X.prog X.w X.K X.mg X.base CX k fa fd ps sp) (hr : Room k X.A) (hb : Binds X.K fd ps ds) (hd : Vals dvs ds)
  (I : Inv X pins σ H s) (r : Vals vs us) (hx : ∀ e s', CX X.stack H s E e s' -> X.xe e s') (h : sp (vs ++ dvs) H Q E) : wpAny (model X.prog X.w) X.A (call (.ref fa) us) (EP X pins σ Q) X.xe s := by
 have r2 : Vals (vs ++ dvs) (us ++ ds) := r.append hd
 have hl : (us ++ ds).length = ps.length := by rw [<- r2.length]; exact F.len _ _ _ _ h
 refine wpAny_call (codeAny_mono (F.run X.A X.stack s H ⟨us, []⟩ (us ++ ds) (vs ++ dvs) Q E hr I.env0 (hb s us I.kIn hl) r2 h) fun r s' hq => ?_)
 cases r with
 | error e => exact hx e s' hq
 | ok fl =>
  cases fl with
  | ret u => exact I.after hq
  | next => exact False.elim hq
  | brk => exact False.elim hq
  | cont => exact False.elim hq
def EW (X : Cx) (W : XW) (σ : L2.St) : XK := fun cv _ H' => ∃ C c bm, cv = .ref C /\ ExcAt X.K c C bm /\ W (.exn c [] []) σ H'
theorem aX4 {σ : L2.St}   (hL : qN X W) (I : Inv X pins σ H s) (e : Value) (s' : Shared) (h : CX1 X.prog X.w X.stack H s (EW X W σ) e s') : X.xe e s' := by
 obtain ⟨ea, C, H', rfl, os, bare, un, hok, F, C', c, bm, e1, hc, hw⟩ := h
 cases e1
 exact hL pins σ H s ea C H' s' I os bare un hok F ⟨c, bm, hc, hw⟩
theorem aAp {k : Nat}     (h : DefOkX X.prog X.w X.K X.mg X.base x k np p) (hL : qN X W) (hr : Room j X.A) (hk : k <= j) (ha : PA X (e :: es) (tA X.K B r)) (hg : Gl X x := by rfl) (hdb : (x == ("__debug__" : Str)) = false := by decide)
  (he : starEach (e :: es) X.env = (false, eval e X.env) :: starEach es X.env := by rfl) (hpl : (backTo pos (starEach es X.env)).any (·.1) = false := by rfl) : PE X (.Call (.Name x p0) (e :: es) [] pos) (tIX X.K B W (gP p r)) := by
 obtain ⟨fa, fd, ps, F, m, kp, bd⟩ := h.ex
 intro pins s σ H Q I ⟨A, st, rs, q⟩
 unfold gP at q
 cases hr' : r st with
 | exc x => rw [hr'] at q; exact q.elim
 | bad => rw [hr'] at q; exact q.elim
 | ok xs =>
  rw [hr'] at q
  refine wpAny_Call_Name_kw (qO I hg m ?_ hdb)
  refine callWith_K (h₀ := X.base) I.ok.mod.kin kp (thn (ha pos pins s σ H (fun vs H1 => aM H H1 /\ bA X.K (hide (A ++ B) H1) xs vs) I ⟨A, st, xs, rs, hr', fun vs H1 s1 r1 => ⟨s1, r1⟩⟩) fun us s1 ⟨vs, H1, I1, rv, sm, rp⟩ => ⟨I1.kIn, ?_⟩) he hpl
  refine aQw (dvs := []) (E := EW X W σ) F (hr.mono hk) bd .nil I1 rv (aX4 hL I1) ?_
  rw [append_nil]
  have q' : (match p xs with
   | .ok d => ∀ v H', aM H H' -> Rep X.K (hide (A ++ B) H') d v -> Q v H'
   | .exc x => ∀ H', aM H H' -> W x σ H'
   | .bad => False) := q
  refine ⟨A ++ B, xs, rs.own.mono sm, rp, h.len xs fun z => ?_, ?_⟩
  ·rw [z] at q'; exact q'
  ·cases hp : p xs with
   | ok d => rw [hp] at q'; exact fun v H' s' r' => q' v H' (sm.trans s') r'
   | exc x => rw [hp] at q'; exact fun C c bm H' e1 hc s' => ⟨C, c, bm, rfl, hc, by rw [<- e1]; exact q' H' (sm.trans s')⟩
   | bad => rw [hp] at q'; exact q'
def IsA (K : Frag) (D' : Addr) (b : Bool) (c : String) : Prop := ∀ C bm, ExcAt K c C bm -> (Value.ref C :: bm).contains (.ref D') = b
def PHD (X : Cx) (B : List Addr) (hs : List ExceptHandler) (hl : List (List String × List String × (String -> Bd))) : Prop :=
 PH X hs fun C Dn σ H => ∃ c bm A st r, ExcAt X.K c C bm /\ RS X.K B A H st σ /\ aCh hl c st = .ok r /\ aBk X.K B A H r Dn
theorem aQx : PHD X B [] [] := fun _ _ _ _ _ _ _ _ ⟨_, _, _, _, _, _, _, h, _⟩ => nomatch h
end
end Pu
namespace Pu
open PySem PySem.Spec PyProof.Rows L2
section
end
end Pu
namespace Pu
open PySem PySem.Spec PyProof.Rows L2 PySem.Calls Builtin Builtin.ObjectAttr Builtin.Getset_descriptor
section
variable   {A : Around}   {K : Frag} {x : Addr}
theorem aC3 (p : qJ x C h) : Looks M h (typeOf (.ref x)) (.ref C) := by
 obtain ⟨o, h1, h2, _⟩ := p
 exact h2 ▸ (PySem.W.Looks.ld h1).andThen .now
theorem aO6 {R : Result -> Shared -> Prop} {tp : Value} (kin : K.In s.heap) (p : qJ x C s.heap) (c : ExcCl K C) (hr : R (.ok (.ret (.ref C))) s) :
  codeAny (model prog w) A (.call (.builtin "getset_descriptor.__get__") ⟨[.builtin "object.__class__", .ref x, tp], []⟩) R s := by
 obtain ⟨hp, ge, dr, tk, os⟩ := s
 have k0 := aC3 (M := model prog w) p
 have k1 := looks_mroIn (M := model prog w) kin c.mr
 refine codeAny_call_builtin PySem.W.KF.slot_gs.plain PySem.W.KF.entry_gs (PySem.W.KF.slot_gs.check _ _ _ _ _ _ _ _ PySem.W.KF.type_class (PySem.W.KF.args_gs _ _ _) ?_)
 unfold Builtin.«getset_descriptor.__get__»; unfold descrGet
 rw [PySem.W.dga_obj]; refine wpAny_bind (wpAny_pure ?_)
 unfold descrGetter descrCheckInstance; unfold descrNameAndClass isInstance
 simp only [PySem.W.KF.owner_class]
 repeat lk
 refine And.intro (Code.quiet_builtin _ (by decide +kernel)) (codeAny_builtin PySem.W.KF.entry_class ?_)
 unfold Builtin.«object.__class__»; unfold shownTypeOf
 repeat lk
 exact hr
theorem aL7 {nameV : Value}  (kin : K.In s.heap) (p : qJ x C s.heap) (c : ExcCl K C) (hq : Q () s) : wpAny M A (checkBuiltinCall "BaseException.__getattribute__" ⟨[.ref x, nameV], []⟩) Q E s := by
 obtain ⟨hp, ge, dr, tk, os⟩ := s
 have z1 : builtinKind "BaseException.__getattribute__" = some .slot := by decide +kernel
 have z2 : splitId "BaseException.__getattribute__" = some ("BaseException", "__getattribute__") := by decide +kernel
 have z3 := PySem.F.args_bexc_ga (.ref x) nameV
 have k0 := aC3 (M := M) p
 have k1 := looks_mroIn (M := M) kin c.mb
 have k2 : Looks M hp (isInstance (.ref x) (.type "BaseException")) true := k0.andThen k1
 simp only [checkBuiltinCall, z2, z1]
 refine wpAny_bind (k2.at ?_)
 repeat (first | assumption | wp_step)
theorem aL8 {nm : Tok} {Q : Fin -> Shared -> Prop} (kin : K.In s.heap) (p : qJ x C s.heap) (c : ExcCl K C) (hq : Q (.done (.ret (.ref C))) s) : wpAny (model prog w) A (Builtin.«object.__getattribute__» ⟨[.ref x, .str "__class__" nm], []⟩) Q E s := by
 obtain ⟨hp, ge, dr, tk, os⟩ := s
 have k0 := aC3 (M := model prog w) p
 have k3 : Looks (model prog w) hp (find (.ref x) (.ref C) "__class__") (.bind (.builtin "getset_descriptor.__get__") (.builtin "object.__class__")) :=
  (looks_findIn kin c.fd).andThen ((PySem.W.looks_specialIn kin c.sp).andThen ((show Looks (model prog w) hp (dataDescriptor? (some (.builtin "object.__class__")) (some (.builtin "getset_descriptor.__get__"))) (some (_, _)) from (PySem.W.looks_takesIn kin c.tk).andThen .now).andThen (PySem.W.Looks.tag .now)))
 refine wpAny_bind (wpAny_pure (wpAny_bind (wpAny_pure (wpAny_bind (k0.at (wpAny_bind (k3.at ?_)))))))
 show wpAny _ _ (holding [Value.builtin "object.__class__"] (call (.builtin "getset_descriptor.__get__") [.builtin "object.__class__", .ref x, .ref C]) >>= ret) _ _ _
 refine wpAny_bind (wpAny_holding (wpAny_call (aO6 (s := ⟨hp, ge, dr, tk, os⟩) kin p c (wpAny_pure hq))))
theorem aL9 {Q : Option Value -> Shared -> Prop} (kin : K.In s.heap) (p : qJ x C s.heap) (c : ExcCl K C) (hq : Q (some (.ref C)) { s with toks := s.toks + 1 }) : wpAny (model prog w) A (getAttr? (.ref x) "__class__") Q E s := by
 obtain ⟨hp, ge, dr, tk, os⟩ := s
 have k0 := aC3 (M := model prog w) p
 have k1 := looks_findIn (M := model prog w) kin c.ga
 have k2 := looks_findIn (M := model prog w) kin c.gn
 have f3 := PySem.F.attr_ValueError.ga.bind (.ref x)
 have x2 : (Value.builtin "BaseException.__getattribute__" == Value.builtin "object.__getattribute__") = false := by decide +kernel
 have x1 : (onTheHeap (Value.ref C) && Value.builtin "BaseException.__getattribute__" == Value.builtin "object.__getattribute__") = false := by rw [x2]; rfl
 unfold getAttr?; unfold getAttrBy? getAttrBy
 refine wpAny_bind (wpAny_mkText (wpAny_bind (wpAny_attempt (wpAny_holding (wpAny_bind (k0.at (wpAny_bind (k1.at ?_))))))))
 dsimp only
 rw [x1, if_neg Bool.false_ne_true]
 unfold getAttrByItsOwn
 refine wpAny_bind (k2.at ?_)
 refine wpAny_bind (wpAny_attempt (wpAny_holding ?_))
 show wpAny _ _ (boundAndCalled (.builtin "BaseException.__getattribute__") (.ref x) _) _ _ _
 unfold boundAndCalled
 rw [f3]
 refine wpAny_bind (wpAny_pure ?_)
 show wpAny _ _ (call (.builtin "BaseException.__getattribute__") [.ref x, .str "__class__" tk]) _ _ _
 refine wpAny_call (codeAny_call_builtin PySem.F.attr_ValueError.ga.plain PySem.F.entry_bexc_ga (aL7 (s := ⟨hp, ge, dr, tk + 1, os⟩) kin p c (aL8 (s := ⟨hp, ge, dr, tk + 1, os⟩) kin p c ?_)))
 exact PySem.W.handed_on rfl (wpAny_pure hq)
theorem aO7 (c : ExcCl K C) : PySem.W.KitX K (.ref x) (.ref C) (qJ x C) where
 ty := fun _ _ _ p => aC3 p
 it := fun _ _ kin _ => by
  obtain ⟨cd, hc⟩ := Option.isSome_iff_exists.mp c.cl
  unfold clsIn at hc
  split at hc
  ·rename_i ho
   intro A' Q' E' s' k q
   unfold isType loadHead
   exact wpAny_bind (wpAny_loadPart (k _ _ (kin _ _ ho)) (wpAny_pure q))
  ·cases hc
 ne := fun h tp dd its n sl kin htp => by
  obtain ⟨cd, hc⟩ := Option.isSome_iff_exists.mp c.cl
  refine Bool.eq_false_iff.mpr fun q => ?_
  have e : C = tp := Value.ref.inj (beq_iff_eq.mp q)
  unfold clsIn at hc
  split at hc
  ·rename_i ho
   have z := (kin _ _ ho).symm.trans (e ▸ htp)
   cases z
  ·cases hc
 ca := fun kin p k => aL9 kin p c k
end
def IsK (K : Frag) (u : Value) (b : Bool) (c : String) : Prop := ∀ C, ExcIs K c C -> kitOne K (.ref C) u = some b
section
theorem aO8 (hu : ∀ u', RelV v2 u' -> u' = u) : mC X (.builtin "isinstance") (fun xs H Q => ∃ l φ C b, xs = [.ref l, v2] /\ H l = some (.ext φ) /\ (∀ h, φ h -> qJ l C h) /\ ExcCl X.K C /\ kitOne X.K (.ref C) u = some b /\ Q (.bl b) H) := by
 intro pins s σ H xs us Q I r q
 obtain ⟨l, φ, C, b, rfl, hl, hφ, hc, e, q⟩ := q
 obtain ⟨u1, u2, rfl, r1, r2⟩ := r.two
 have e1 : u1 = Value.ref l := r1
 subst e1
 rw [hu u2 r2]
 have hob := I.hok l _ hl
 exact kia_one (aO7 hc) I.kIn (hφ _ hob.1) e (fun z => nomatch z) fun tk => ⟨.bl b, H, I.tok tk, rfl, q⟩
theorem aQy {no : List String} {x y : D} (h : aFb yes no x = .ok y) : ∃ c n d, x = .exn c n d /\ ((c ∈ yes /\ y = .bl true) \/ (c ∈ no /\ y = .bl false)) := by
 cases x <;> first | (cases h; done) | skip
 rename_i c n d
 refine ⟨c, n, d, rfl, ?_⟩
 have h' : (if c ∈ yes then R.ok (.bl true) else if c ∈ no then .ok (.bl false) else .bad) = .ok y := h
 by_cases h1 : c ∈ yes
 ·rw [if_pos h1] at h'; cases h'; exact .inl ⟨h1, rfl⟩
 ·rw [if_neg h1] at h'
  by_cases h2 : c ∈ no
  ·rw [if_pos h2] at h'; cases h'; exact .inr ⟨h2, rfl⟩
  ·rw [if_neg h2] at h'; cases h'
theorem aX5 {n : Str}   {yes no : List String}  (hu : ∀ u', RelV v2 u' -> u' = u) (h2 : PE X (.Name n p1) (tC v2)) (hm : X.mg "isinstance" = none) (hy : ∀ c ∈ yes, IsK X.K u true c) (hn : ∀ c ∈ no, IsK X.K u false c) (ha : PE X a (tP X.K B f)) (hg : Gl X "isinstance" := by rfl)
  (hs : starEach [a, .Name n p1] X.env = (false, eval a X.env) :: starEach [.Name n p1] X.env := by rfl) (hs2 : starEach [.Name n p1] X.env = (false, eval (.Name n p1) X.env) :: starEach [] X.env := by rfl) :
  PE X (.Call (.Name "isinstance" p0) [a, .Name n p1] [] pos) (tI X.K B (e1 (aFb yes no) f)) := by
 refine cW (pU (aO8 hu) hg hm boot_isinstance (dC ha (dC h2 gG hs2) hs) (he := hs)) ?_
 rintro σ H Q ⟨A, st, d, rs, hd, q⟩
 obtain ⟨x, hx, h3⟩ := R.ok_of hd
 refine ⟨A, st, x, rs, hx, fun v H1 s1 r1 => ?_⟩
 obtain ⟨c, n', d', rfl, h4⟩ := aQy h3
 obtain ⟨l, φ, C, rfl, hl, hφ, hC, _⟩ := aJ2.mp r1.rep
 rcases h4 with ⟨hc, rfl⟩ | ⟨hc, rfl⟩
 ·exact ⟨l, φ, C, true, rfl, hl, hφ, hC.ic, hy c hc C hC, q _ H1 s1 (bK.mpr rfl)⟩
 ·exact ⟨l, φ, C, false, rfl, hl, hφ, hC.ic, hn c hc C hC, q _ H1 s1 (bK.mpr rfl)⟩
theorem aEs {d : String}  {yes no : List String}  (hD : X.mg (Str.ofString d) = some (.ref D')) (hm : X.mg "isinstance" = none) (hy : ∀ c ∈ yes, IsK X.K (.ref D') true c) (hn : ∀ c ∈ no, IsK X.K (.ref D') false c) (ha : PE X a (tP X.K B f)) (hg : Gl X "isinstance" := by rfl) (hg2 : Gl X (Str.ofString d) := by rfl) (hdb : (Str.ofString d == ("__debug__" : Str)) = false := by decide)
  (hs : starEach [a, .Name (Str.ofString d) p1] X.env = (false, eval a X.env) :: starEach [.Name (Str.ofString d) p1] X.env := by rfl) (hs2 : starEach [.Name (Str.ofString d) p1] X.env = (false, eval (.Name (Str.ofString d) p1) X.env) :: starEach [] X.env := by rfl) :
  PE X (.Call (.Name "isinstance" p0) [a, .Name (Str.ofString d) p1] [] pos) (tI X.K B (e1 (aFb yes no) f)) :=
 aX5 (v2 := .ref D') (fun _ h => h) (aDv hg2 hD rfl hdb) hm hy hn ha hg hs hs2
end
section
variable {X : Cx} {B : List Addr} {pins : List (Addr × Obj)} {σ : L2.St} {H : Hp} {s : Shared} {ea C : Addr}
theorem aQz {σc : L2.St} {Hc : Hp} {sc : Shared} {u : HO} (I : Inv X pins σ H s) (Ic : Inv X pins σc Hc sc) (n0 : sc.heap.get? ea = none) (nH : H ea = none) (new : jN X.prog X.w (upd H ea u) s.heap ea u) : Inv X pins σ (upd H ea u) s := by
 have ne : ∀ b o, sc.heap.get? b = some o -> b ≠ ea := fun b o e z => by rw [z, n0] at e; cases e
 refine ⟨I.ok, I.os, I.bare, ⟨I.base.keep, I.base.slot, fun b o e n hx => ?_, I.base.there, fun b xs e => ?_, fun b o u e => ?_, fun b ps e => ?_⟩, I.loc, I.cell, ?_, fun x c e => ?_, fun p hp => ?_, fun b u' e => ?_, I.len⟩
 ·obtain ⟨o', e'⟩ := Ic.base.there b o e hx
  rw [aU (ne b o' e')]
  exact I.base.free b o e n hx
 ·have z := I.base.tups b xs e
  rw [aU (aK z nH)]; exact z
 ·have z := I.base.frzs b o u e
  rw [aU (aK z nH)]; exact z
 ·obtain ⟨more, z⟩ := I.base.tbls b ps e
  exact ⟨more, by rw [aU (aK z nH)]; exact z⟩
 ·obtain ⟨m, ⟨o, es, ep, ho, _⟩, _⟩ := Ic.loc
  rw [aU (ne _ _ ho)]; exact I.free
 ·obtain ⟨v, o, ho, _⟩ := Ic.cell x c e
  rw [aU (ne _ _ ho)]; exact I.freeC x c e
 ·obtain ⟨h1, h2, h3⟩ := I.pin p hp
  exact ⟨h1, by rw [aU (ne _ _ (Ic.pin p hp).1)]; exact h2, h3⟩
 ·by_cases hb : b = ea
  ·subst hb
   rw [bY] at e
   cases e
   exact new
  ·rw [aU hb] at e
   exact (I.hok b u' e).stay (fun c v _ q => q) (fun c q => by rw [aU (aK q nH)]; exact q) fun c xs q => by rw [aU (aK q nH)]; exact q
theorem aAq {A : Around}   {n : Str}   (I : Inv X pins σ H s) (hN : X.N.Nodup) (hi : X.N[i]? = some n) (hx : X.env.scope.names.lookup n = some .local) (h : ∀ s', Inv X pins (σ.set i none) H s' -> Q () s') :
  wpAny M A (do bindName X.env n .none; unbindBehindTheSuite X.env n pos) Q E s := by
 obtain ⟨m, hn, hl⟩ := id I.loc
 have lo : ∀ b o, X.s₀.heap.get? b = some o -> b ≠ X.env.locals := fun b o e => Nat.ne_of_lt (Nat.lt_of_lt_of_le (Heap.lt_size e) I.ok.above)
 refine wpAny_nameGoes_keeps hx hn (by rw [I.ok.kind]; rfl) fun h' v hn' hs => h _ ⟨I.ok, I.os, I.bare, ⟨fun b o e k hb hx => (hs.2 b (lo b o e)).trans (I.base.keep b o e k hb hx), fun b o e k hb hx => ?_, I.base.free, fun b o e hx => ?_, I.base.tups, I.base.frzs, I.base.tbls⟩, ⟨_, hn', fun j y v' e1 e2 e3 => ?_⟩, fun y c e => ?_, I.free, I.freeC, fun p hp => ?_, fun b ob e => ?_, by simpa using I.len⟩
 ·obtain ⟨sl, e1⟩ := I.base.slot b o e k hb hx
  exact ⟨sl, (hs.2 b (lo b o e)).trans e1⟩
 ·obtain ⟨o', e1⟩ := I.base.there b o e hx
  exact ⟨o', (hs.2 b (lo b o e)).trans e1⟩
 ·by_cases hj : j = i
  ·subst hj
   rw [List.getElem?_set] at e2
   rw [if_pos rfl] at e2
   split at e2 <;> cases e2
  ·rw [List.getElem?_set_ne (Ne.symm hj)] at e2
   obtain ⟨u', r', q⟩ := hl j y v' e1 e2 e3
   refine ⟨u', r', ?_⟩
   rcases q with ⟨k, e⟩ | ⟨k, c, e, z⟩
   ·have hne : y ≠ n := fun e => hj (aAu hN e1 (e ▸ hi))
    exact .inl ⟨k, (if_neg hne).trans e⟩
   ·exact .inr ⟨k, c, e, z.sameBut hs (I.cne y c e)⟩
 ·obtain ⟨w', z⟩ := I.cell y c e
  exact ⟨w', z.sameBut hs (I.cne y c e)⟩
 ·obtain ⟨e, k, ne, nf, d⟩ := I.pin p hp
  exact ⟨(hs.2 p.1 ne).trans e, k, ne, nf, d⟩
 ·refine (I.hok b ob e).stay (fun c w' hc q => (hs.2 c ?_).trans q) (fun _ q => q) fun _ _ q => q
  intro z
  subst z
  rcases hc with z | z
  ·rw [<- z, I.free] at e; cases e
  ·rw [I.free] at z; cases z
theorem RS.gone {K : Frag}  {st : PSt} (r : RS K B A H st σ) (i : Nat) : RS K B A H (st.set i none) (σ.set i none) := by
 have ne : ∀ (j : Nat) (x : Sl), (st.set i none)[j]? = some (some x) -> j ≠ i /\ st[j]? = some (some x) := fun j x e => by
  rw [List.getElem?_set] at e
  by_cases h : i = j
  ·rw [if_pos h] at e; split at e <;> cases e
  ·rw [if_neg h] at e; exact ⟨Ne.symm h, e⟩
 refine ⟨by rw [length_set, length_set, r.len], r.own, r.dis, fun j d e => ?_, fun j k xs e => ?_⟩
 ·obtain ⟨h1, h2⟩ := ne j _ e
  rw [List.getElem?_set_ne (Ne.symm h1)]
  exact r.val j d h2
 ·obtain ⟨h1, h2⟩ := ne j _ e
  rw [List.getElem?_set_ne (Ne.symm h1)]
  obtain ⟨l, o, vs, e1, e2, e3, e4, e5, e6⟩ := r.lst j k xs h2
  refine ⟨l, o, vs, e1, e2, e3, e4, e5, fun j' k' ys e7 e8 => ?_⟩
  obtain ⟨h3, h4⟩ := ne j' _ e7
  rw [List.getElem?_set_ne (Ne.symm h3)] at e8
  exact e6 j' k' ys h4 e8
def aS0 (i : Nat) (Dn : Ends) : Ends := { Dn with nx := fun σ H => Dn.nx (σ.set i none) H, bk := fun σ H => Dn.bk (σ.set i none) H, ct := fun σ H => Dn.ct (σ.set i none) H }
theorem aLa {K : Frag}   {fl : Fl}  (q : aBk K B A H (yL i fl) Dn) : aBk K B A H fl (aS0 i Dn) := by
 cases fl with
 | nx st => exact fun A' σ' H' l rs => q A' _ H' l (rs.gone i)
 | bk st => exact fun A' σ' H' l rs => q A' _ H' l (rs.gone i)
 | ct st => exact fun A' σ' H' l rs => q A' _ H' l (rs.gone i)
 | rt d => exact q
theorem aO9 {d : String}  {bm' : List Value} {np hpos : Pos} {n : Str} (i : Nat) {b₀ : Stmt} {suite : List Stmt} {rest : List ExceptHandler} {yes no : List String} {bh : Bd}  (hD : ExcAt X.K d D' bm') (hm : X.mg (Str.ofString d) = some (.ref D')) (hy : ∀ c ∈ yes, IsA X.K D' true c) (hn : ∀ c ∈ no, IsA X.K D' false c)
  (hN : X.N.Nodup) (hs : ∀ ea, PSs (held X ea) (b₀ :: suite) (tS X.K B bh)) (hr : PHD X B rest hl) (hi : X.N[i]? = some n := by rfl) (hx : X.env.scope.names.lookup n = some .local := by rfl) (hg : Gl X (Str.ofString d) := by rfl) (hdb : (Str.ofString d == ("__debug__" : Str)) = false := by decide) :
  PHD X B (.ExceptHandler (some (.Name (Str.ofString d) np)) (some n) (b₀ :: suite) hpos :: rest) ((yes, no, hAs i bh) :: hl) := by
 intro pins s σ H Dn ea C F ⟨c, bm, A, st, r, hC, rs, h, q⟩
 have I := F.inv
 obtain ⟨oe, he, hcls⟩ := F.there
 obtain ⟨B1, newId, initId, bmB, FB, hob⟩ := hC.ob
 obtain ⟨B', newId', initId', bmB', FB', hob'⟩ := hD.ob
 obtain ⟨N, nm, qn, bs, hdct, sn, sub, ab, col, dd, k0, k1, k2, k3, k5, mN, oC, _⟩ := hob s.heap I.kIn
 obtain ⟨N', nm', q', bs', hdct', sn', sub', ab', col', dd', j0, j1, j2, j3, j5, mN', oD, _, _, T'⟩ := hob' s.heap I.kIn
 refine wpAny_handleBy_cons (codeAny_handlers_test (qO (aGe I ea) hg hm ?_ hdb)) (by intro q; cases q)
 obtain ⟨hp, g, dr, tk, os⟩ := s
 refine aC0 oC oD he hcls (T'.hasType FB'.hasBase) ?_
 have h' : (if c ∈ yes then (hAs i bh c st).nox else if c ∈ no then aCh hl c st else .bad) = .ok r := h
 by_cases h1 : c ∈ yes
 ·rw [if_pos h1] at h'
  rw [hy c h1 C bm hC]
  obtain ⟨fl, hfl, e⟩ := R.ok_of (R.nox_ok h')
  cases e
  refine codeAny_handlers_suite_as (F.set fun s' F' => ?_)
  have I1 := F'.inv
  obtain ⟨Hc, sc, Ic, _, _, _, _, fly⟩ := F'.ex
  obtain ⟨n0, nH, oe1, vs1, _, _, _, _, he1, hc1, hd1, _⟩ := fly
  have hob1 : qJ ea C s'.heap := ⟨oe1, he1, hc1, by unfold notCls; rw [hd1]⟩
  have J : Inv X pins σ (upd H ea (.ext (qJ ea C))) s' := aQz I1 Ic n0 nH ⟨hob1, ⟨_, he1⟩, fun h1 h2 z k => by
   obtain ⟨o, z1, z2⟩ := z
   exact ⟨o, k o z1, z2⟩⟩
  have sm : aM H (upd H ea (.ext (qJ ea C))) := dB nH
  have rs1 : RS X.K B A (upd H ea (.ext (qJ ea C))) (st.set i (some (.v (.exn c [] [])))) (σ.set i (some (.ref ea))) := (rs.mono sm).set i (aJ2.mpr ⟨ea, _, C, rfl, by rw [bI (rs.own.free nH)]; exact bY, fun _ z => z, hC.is, ea, [], [], .inl ⟨rfl, rfl⟩, .nil⟩)
  refine aAv J hN hi (.inl hx) (v := .ref ea) (u := .ref ea) rfl (fun s2 I2 => ?_) (.inr hx)
  refine wpAny_mono (hs ea pins s2 _ _ (aS0 i Dn) (aGe I2 ea) ⟨A, _, fl, rs1, hfl, aLa (aBk.mono (Le.of sm) q)⟩) (fun f s3 z => ?_) fun _ _ z => z.elim
  have z' := aL4 I.ok z
  cases f with
  | next => obtain ⟨σ', H', I', q'⟩ := z'; exact aAq I' hN hi hx fun s5 I5 => ⟨_, H', I5, q'⟩
  | brk => obtain ⟨σ', H', I', q'⟩ := z'; exact aAq I' hN hi hx fun s5 I5 => ⟨_, H', I5, q'⟩
  | cont => obtain ⟨σ', H', I', q'⟩ := z'; exact aAq I' hN hi hx fun s5 I5 => ⟨_, H', I5, q'⟩
  | ret u => obtain ⟨v, σ', H', I', r', q'⟩ := z'; exact aAq I' hN hi hx fun s5 I5 => ⟨v, _, H', I5, r', q'⟩
 ·rw [if_neg h1] at h'
  by_cases h2 : c ∈ no
  ·rw [if_pos h2] at h'
   rw [hn c h2 C bm hC]
   exact hr pins _ σ H Dn ea C F ⟨c, bm, A, st, r, hC, rs, h', q⟩
  ·rw [if_neg h2] at h'
   cases h'
end
end Pu
namespace Pu
open PySem PySem.Spec PyProof.Rows L2
section
variable {K : Frag}     {B initId : String}
theorem aOa (F : ExcBaseFacts B newId initId bmB) (a : nsIn K mainGlobals (Str.ofString c) = some (some (.ref C))) (q : excIn K C bmB newId = true) (g1 : findIn K (.ref C) "__getattribute__" = some (some (.builtin "BaseException.__getattribute__"))) (g6 : findIn K (.ref C) "__getattr__" = some none) (g7 : mroIn K C (.type "BaseException") = some true) (g2 : findIn K (.ref C) "__class__" = some (some (.builtin "object.__class__")))
  (g3 : specialIn K (.builtin "object.__class__") "__get__" = some (some (.builtin "getset_descriptor.__get__"))) (g4 : takesIn K (.builtin "object.__class__") = some true) (g5 : mroIn K C (.type "object") = some true) : ∃ bm, ExcAt K c C bm := by
 have cl : (clsIn K C).isSome = true := by
  unfold mroIn at g5
  cases e : clsIn K C with
  | none => rw [e] at g5; cases g5
  | some cd => rfl
 have ic : ExcCl K C := ⟨g1, g6, g7, cl, g2, g3, g4, g5⟩
 unfold excIn at q
 split at q
 ·rename_i dd cd sl ho
  split at q
  ·rename_i C' bm k0 k1 k2 k3 n k5 hm hsl
   simp only [not_eq_true', beq_iff_eq, and_eq_true] at q
   obtain ⟨⟨⟨⟨⟨e1, e2⟩, e3⟩, e4⟩, e5⟩, e6⟩ := q
   refine ⟨bm, a, ⟨B, newId, initId, bmB, F, fun h kin => ?_⟩, ic⟩
   obtain ⟨nm, bs, mro, ns, qn, hd, sn, sub, ab, col, del⟩ := cd
   dsimp only at hm e3 e5 e6
   have hsl' : sl = #[k0, k1, k2, k3, some (.builtin n), k5] := by rw [<- Array.toArray_toList (xs := sl), hsl]
   subst hsl'
   subst e1 e2 e3 hm
   exact ⟨ns, nm, qn, bs, hd, sn, sub, ab, col, dd, k0, k1, k2, k3, k5, h.nsMap ns, kin _ _ ho, .of_isNs (PySem.W.isNs_of_in kin e5), PySem.W.nsMap_none_of_in kin e5 e6, PySem.W.tail_of_in kin e4⟩
  ·cases q
 ·cases q
theorem aOb {a b : Addr} (e : nsIn K mainGlobals x = some (some (.ref a))) (e' : nsIn K mainGlobals x = some (some (.ref b))) : a = b := by
 have z := e.symm.trans e'
 injection z with z
 injection z with z
 injection z
theorem aEt {b : Bool} (kin : K.In h) (a : nsIn K mainGlobals (Str.ofString c) = some (some (.ref C))) (m : mroIn K C (.ref D') = some b) : IsA K D' b c := fun C1 bm hE => by
 have := aOb hE.ns a
 subst this
 obtain ⟨_, _, _, _, _, hob⟩ := hE.ob
 obtain ⟨N, nm, q, bs, hdct, sn, sub, ab, col, dd, k0, k1, k2, k3, k5, mN, oC, _⟩ := hob h kin
 unfold mroIn at m
 cases e : clsIn K C1 with
 | none => rw [e] at m; cases m
 | some cd =>
  rw [e, Option.bind_some] at m
  unfold clsIn at e
  split at e
  ·rename_i ho
   cases e
   have z := (kin _ _ ho).symm.trans oC
   have z1 : cd.mro = .ref C1 :: bm := by
    injection z with z
    unfold excClassObj at z
    injection z with _ _ z _
    injection z with z
    rw [z]
   split at m
   ·cases m
   ·injection m with m
    rw [z1] at m
    exact m
  ·cases e
theorem zM {b : Bool} (a : nsIn K mainGlobals (Str.ofString c) = some (some (.ref C))) (e : kitOne K (.ref C) u = some b) : IsK K u b c := fun C1 hE => by
 have := aOb hE.ns a
 subst this
 exact e
end
section
variable   {K : Frag}   {f : Addr}   {k : Nat}
end
section
variable  {P : List α -> Prop}
theorem aR0 (h : P []) (us : List α) (hl : us.length = 0) : P us := by rw [List.length_eq_zero_iff.mp hl]; exact h
theorem aEu (h : ∀ a us, us.length = n -> P (a :: us)) (us : List α) (hl : us.length = n + 1) : P us := by
 cases us with
 | nil => cases hl
 | cons a us => exact h a us (Nat.succ.inj hl)
theorem jV (h : ∀ a, P [a]) (us : List α) (hl : us.length = 1) : P us := aEu (fun a => aR0 (h a)) us hl
theorem jW (h : ∀ a b, P [a, b]) (us : List α) (hl : us.length = 2) : P us := aEu (fun a => jV (P := fun us => P (a :: us)) (h a)) us hl
theorem aAr (h : ∀ a b c, P [a, b, c]) (us : List α) (hl : us.length = 3) : P us := aEu (fun a => jW (P := fun us => P (a :: us)) (h a)) us hl
end
end Pu
namespace Pu
open PySem PySem.Spec PyProof.Rows L2
section
variable {X : Cx} {B : List Addr} {a b e o : Expr} {es : List Expr} {f g : Ex} {r : Exs} {pos cpos apos : Pos}
theorem aOc (x : List Nat) (i : Nat) (h : i <= x.length) : Builtin.Str.strSub ⟨x.toArray⟩ 0 i = ⟨(x.take i).toArray⟩ := by
 unfold Builtin.Str.strSub
 congr 1
 apply ext'
 rw [toList_extract]
 simp [List.extract_eq_take_drop]
theorem aOd (x : List Nat) (i : Nat) : Builtin.Str.strSub ⟨x.toArray⟩ i (⟨x.toArray⟩ : Str).length = ⟨(x.drop i).toArray⟩ := by
 unfold Builtin.Str.strSub
 congr 1
 apply ext'
 rw [toList_extract, str_len]
 simp only [List.toList_toArray, List.extract_eq_take_drop]
 exact take_of_length_le (by rw [length_drop]; exact Nat.le_refl _)
theorem aOe {x y : List Nat} {lo : Nat} (h : kO x y lo = some i) : i + y.length <= x.length := by
 unfold kO at h
 have := List.find?_some h
 simp only [and_eq_true, decide_eq_true_eq] at this
 exact this.1
theorem aR1 : MtR X "str.partition" (fun x vs H Q => ∃ (s y : List Nat), x = .str ⟨s.toArray⟩ /\ vs = [.str ⟨y.toArray⟩] /\ y ≠ [] /\ s.length <= sizeLine /\ ∀ p, H p = none -> Q (.ref p) (upd H p (.tup (match kO s y 0 with
  | some i => [.str ⟨(s.take i).toArray⟩, .str ⟨y.toArray⟩, .str ⟨(s.drop (i + y.length)).toArray⟩]
  | none => [.str ⟨s.toArray⟩, .str ⟨([] : List Nat).toArray⟩, .str ⟨([] : List Nat).toArray⟩])))) := by
 intro pins s σ H x vs v us Q I rx rv h
 obtain ⟨z, y, rfl, rfl, hy, hz, q⟩ := h
 obtain ⟨t, rfl⟩ := rx
 obtain ⟨u, rfl, t2, rfl⟩ := rv.one
 have hf : H s.heap.objs.size = none := I.hok.fresh (Nat.le_refl _)
 have q' := q s.heap.objs.size hf
 refine call_meets PySem.F.slot_str_partition (typeIs_str _ _ _) PySem.F.entry_str_partition (PySem.F.args_str_partition_2 _ _) (meets_str_partition _ _ t t2 (by rw [str_len]; cases y <;> first | exact (hy rfl).elim | rfl) (by rw [str_len]; exact hz)) ?_
 rw [aKz]
 cases hfi : kO z y 0 with
 | none =>
  rw [hfi] at q'
  exact ⟨.ref s.heap.objs.size, _, I.laid (o := .tup [.str ⟨z.toArray⟩, .str ⟨([] : List Nat).toArray⟩, .str ⟨([] : List Nat).toArray⟩]) (t' := s.toks + 1) (fun b u e => Heap.get?_push_of_some _ e) (Nat.le_refl _) ⟨show 3 <= sizeLine by decide, [.str ⟨z.toArray⟩ t, .str Str.empty s.toks, .str Str.empty s.toks], .cons ⟨_, rfl⟩ (.cons ⟨_, rfl⟩ (.cons ⟨_, rfl⟩ .nil)), _, Heap.get?_push_size _ rfl, rfl, _, rfl⟩, rfl, q'⟩
 | some i =>
  rw [hfi] at q'
  have hle := aOe hfi
  show EP X pins σ Q _ { s with toks := s.toks + 1 + 1, heap := s.heap.push _ }
  rw [aOc z i (by omega), aOd, str_len]
  exact ⟨.ref s.heap.objs.size, _, I.laid (o := .tup [.str ⟨(z.take i).toArray⟩, .str ⟨y.toArray⟩, .str ⟨(z.drop (i + y.length)).toArray⟩]) (t' := s.toks + 1 + 1) (fun b u e => Heap.get?_push_of_some _ e) (Nat.le_refl _) ⟨show 3 <= sizeLine by decide, _, .cons ⟨_, rfl⟩ (.cons ⟨_, rfl⟩ (.cons ⟨_, rfl⟩ .nil)), _, Heap.get?_push_size _ rfl, rfl, _, rfl⟩, rfl, q'⟩
theorem aGg (ho : PE X o (tP X.K B f)) (ha : PA X (e :: es) (tA X.K B r)) (hbase : attributeBase o "partition" X.env (eval o X.env) = eval o X.env := by rfl)
  (hfew : ((backTo cpos (starEach (e :: es) X.env)).all (fun x => !x.1) && (backToKw cpos (keywordEach [] X.env)).all (fun x => x.1.isSome)
   && decide ((e :: es).length + ([] : List Keyword).length + (if ([] : List Keyword).isEmpty then 0 else 1) < 30)) = true := by rfl)
  (hline : (apos.endLine == cpos.line) = true := by rfl) (hs : starEach (e :: es) X.env = (false, eval e X.env) :: starEach es X.env := by rfl) (hplain : (backTo cpos (starEach es X.env)).any (·.1) = false := by rfl) :
  PE X (.Call (.Attribute o "partition" apos) (e :: es) [] cpos) (tI X.K B (eMt aCz f r)) := by
 refine aNz (m := aCz) PySem.F.slot_str_partition PySem.F.type_str_partition aR1 (fun x xs d h => ?_) (fun A H x d xs v vs Q w rx rxs h k => ?_) ho ha hbase hfew hline hs hplain
 ·cases x <;> first | exact ⟨_, rfl⟩ | exact nomatch h
 ·unfold aCz at h
  split at h
  ·rename_i x y
   obtain ⟨⟨c1, c2⟩, h2⟩ := aJ h
   obtain ⟨u, rfl, ru⟩ := aG8 rxs
   refine ⟨x, y, rx.str, by rw [aO.mp ru], c1, lim c2, fun p hp => k _ _ (dB hp) ?_⟩
   cases hfi : kO x y 0 with
   | none => rw [hfi] at h2; cases h2; exact mK w hp (.cons (aO.mpr rfl) (.cons (aO.mpr rfl) (.cons (aO.mpr rfl) .nil)))
   | some i => rw [hfi] at h2; cases h2; exact mK w hp (.cons (aO.mpr rfl) (.cons (aO.mpr rfl) (.cons (aO.mpr rfl) .nil)))
  ·cases h
def PJ (X : Cx) (B : List Addr) (es : List Expr) (r : Exs) : Prop := ∀ (pins : List (Addr × Obj)) (s : Shared) (σ : L2.St) (H : Hp) (acc : List Nat) (A : List Addr) (st : PSt) (xs : List D) (l : List (List Nat)) (Q : List Nat -> Hp -> Prop), Inv X pins σ H s -> RS X.K B A H st σ -> r st = .ok xs -> oJ xs = .ok l -> (acc ++ l.flatten).length <= big ->
 (∀ H', aM H H' -> Q (acc ++ l.flatten) H') -> Joins (model X.prog X.w) X.A X.xe (evalEach es X.env) ⟨acc.toArray⟩ (fun out s1 => ∃ z H', out = ⟨z.toArray⟩ /\ Inv X pins σ H' s1 /\ z.length <= big /\ Q z H') s
theorem aTv : PJ X B [] aV := fun pins s σ H acc A st xs l Q I rs hr hl hz q => by
 cases hr
 cases hl
 rw [List.flatten_nil, append_nil] at hz q
 exact ⟨acc, H, rfl, I, hz, q H (aM.refl _)⟩
theorem aEv (h : PE X e (tI X.K B f)) (t : PJ X B es r) : PJ X B (e :: es) (aB f r) := fun pins s σ H acc A st xs l Q I rs hr hl hz q => by
 obtain ⟨x, hx, h2⟩ := R.ok_of hr
 obtain ⟨ys, hys, h3⟩ := R.ok_of h2
 cases h3
 cases x <;> first | (cases hl; done) | skip
 rename_i x
 obtain ⟨l', h4, h5⟩ := R.ok_of (show (oJ ys).bind _ = _ from hl)
 cases h5
 rw [flatten_cons, <- List.append_assoc] at hz q
 show wpAny _ _ (eval e X.env) _ _ s
 refine thn (h pins s σ H (fun v H1 => aM H H1 /\ Rep X.K (hide (A ++ B) H1) (.str x) v) I ⟨A, st, _, rs, hx, fun v H1 s1 r1 => ⟨s1, r1⟩⟩) fun u s1 ⟨y, H1, I1, rx, sm, rp⟩ => ?_
 have e1 := aO.mp rp
 subst e1
 obtain ⟨tk, rfl⟩ := rx
 have hl2 : (acc ++ x).length <= big := Nat.le_trans (by rw [length_append (as := acc ++ x)]; exact le_add_right _ _) hz
 refine ⟨_, tk, rfl, by rw [aEj, str_len]; exact lim hl2, ?_⟩
 rw [aEj]
 exact t pins s1 σ H1 (acc ++ x) A st ys l' Q I1 (rs.mono sm) hys h4 hz fun H' s' => q H' (sm.trans s')
theorem aTw {v1 v2 : Expr} {rest : List Expr} (h : PJ X B (v1 :: v2 :: rest) r) : PE X (.JoinedStr (v1 :: v2 :: rest) pos) (tI X.K B (aHc r)) := by
 intro pins s σ H Q I ⟨A, st, d, rs, hd, q⟩
 obtain ⟨xs, hxs, h2⟩ := R.ok_of hd
 obtain ⟨l, hl, h3⟩ := R.ok_of h2
 obtain ⟨c, h4⟩ := aJ h3
 cases h4
 refine wpAny_JoinedStr ?_
 have z := h pins s σ H [] A st xs l (fun x H' => aM H H' /\ x = l.flatten) I rs hxs hl (by rw [nil_append]; exact c) (fun H' s' => ⟨s', by rw [nil_append]⟩)
 have e0 : (⟨([] : List Nat).toArray⟩ : Str) = Str.empty := rfl
 rw [e0] at z
 refine joins_mono (fun out s1 ⟨z, H', e1, I1, hz, sm, e2⟩ => ?_) _ _ _ z
 subst e1 e2
 exact ⟨by rw [str_len]; exact lim hz, .str _, H', I1.tok _, ⟨_, rfl⟩, q _ H' sm (aO.mpr rfl)⟩
where
 joins_mono {M : Model} {A : Around} {E : Value -> Shared -> Prop} {Q Q' : Str -> Shared -> Prop} (m : ∀ x s, Q x s -> Q' x s) : ∀ (l : List (Sem Value)) (acc : Str) (s : Shared), Joins M A E l acc Q s -> Joins M A E l acc Q' s
  | [], acc, s, h => m acc s h
  | x :: rest, acc, s, h => wpAny_mono h (fun v s1 ⟨y, t, e, hz, r⟩ => ⟨y, t, e, hz, joins_mono m rest _ s1 r⟩) fun _ _ z => z
end
end Pu
namespace Pu
open PySem PySem.Spec PyProof.Rows L2
def Inn (K : Frag) (G H : Hp) : List (List D) -> List Addr -> Prop
 | [], ps => ps = []
 | xs :: xss, ps => ∃ p r vs, ps = p :: r /\ H p = some (.lst vs) /\ bA K G xs vs /\ Inn K G H xss r
theorem Inn.len {K : Frag} {G H : Hp} : ∀ {xss : List (List D)} {ps : List Addr}, Inn K G H xss ps -> ps.length = xss.length
 | [], ps, h => by rw [show ps = [] from h]; rfl
 | xs :: xss, ps, h => by
  obtain ⟨p, r, vs, rfl, _, _, h2⟩ := h
  rw [length_cons, length_cons, Inn.len h2]
theorem Inn.get {K : Frag} {G H : Hp} : ∀ {xss : List (List D)} {ps : List Addr} {k : Nat} {xs : List D}, Inn K G H xss ps -> xss[k]? = some xs -> ∃ p vs, ps[k]? = some p /\ H p = some (.lst vs) /\ bA K G xs vs
 | [], _, _, _, _, e => by simp at e
 | x :: xss, ps, 0, xs, h, e => by
  obtain ⟨p, r, vs, rfl, h1, h2, _⟩ := h
  simp at e; subst e
  exact ⟨p, vs, rfl, h1, h2⟩
 | x :: xss, ps, k + 1, xs, h, e => by
  obtain ⟨p, r, vs, rfl, _, _, h3⟩ := h
  obtain ⟨p', vs', e1, e2⟩ := Inn.get (k := k) h3 (by simpa using e)
  exact ⟨p', vs', by simpa using e1, e2⟩
theorem Inn.mono {K : Frag} {G G' H H' : Hp} (g : aM G G') : ∀ {xss : List (List D)} {ps : List Addr}, (∀ p ∈ ps, ∀ o, H p = some o -> H' p = some o) -> Inn K G H xss ps -> Inn K G' H' xss ps
 | [], _, _, h => h
 | x :: xss, ps, k, h => by
  obtain ⟨p, r, vs, rfl, h1, h2, h3⟩ := h
  exact ⟨p, r, vs, rfl, k p mem_cons_self _ h1, h2.mono g, Inn.mono g (fun q hq => k q (mem_cons_of_mem _ hq)) h3⟩
theorem Inn.put {K : Frag} {G H : Hp} {ys : List D} {ws : List V} (hr : bA K G ys ws) {p : Addr} : ∀ {xss : List (List D)} {ps : List Addr} {k : Nat}, ps.Nodup -> ps[k]? = some p -> Inn K G H xss ps -> Inn K G (upd H p (.lst ws)) (xss.set k ys) ps
 | [], ps, k, _, e, h => by rw [show ps = [] from h] at e; simp at e
 | x :: xss, ps, 0, nd, e, h => by
  obtain ⟨q, r, vs, rfl, h1, h2, h3⟩ := h
  simp at e; subst e
  exact ⟨q, r, ws, rfl, bY, hr, h3.mono (aM.refl _) fun z hz o e => by rw [aU (fun w : z = q => (List.nodup_cons.mp nd).1 (w ▸ hz))]; exact e⟩
 | x :: xss, ps, k + 1, nd, e, h => by
  obtain ⟨q, r, vs, rfl, h1, h2, h3⟩ := h
  have e' : r[k]? = some p := by simpa using e
  have hp : p ∈ r := List.mem_of_getElem? e'
  exact ⟨q, r, vs, rfl, by rw [aU (fun w : q = p => (List.nodup_cons.mp nd).1 (by rw [w]; exact hp))]; exact h1, h2, Inn.put hr (List.nodup_cons.mp nd).2 e' h3⟩
structure NS (K : Frag) (B A Z : List Addr) (H : Hp) (st : PSt) (σ : LSt) (i : Nat) (P : Addr) (ps : List Addr) (xss : List (List D)) : Prop where
 rs : RS K (Z ++ B) A H st σ
 no : st[i]? = some none
 at_ : σ[i]? = some (some (.ref P))
 out : H P = some (.lst (ps.map V.ref))
 inn : Inn K (hide (A ++ (Z ++ B)) H) H xss ps
 zb : ∀ z ∈ Z, z ∉ B
 zp : P ∈ Z
 zs : ∀ p ∈ ps, p ∈ Z
 nd : (P :: ps).Nodup
def LeN (Z A : List Addr) (H : Hp) (A' : List Addr) (H' : Hp) : Prop := aM (hide (Z ++ A) H) (hide (Z ++ A') H')
theorem LeN.trans {Z A A1 A2 : List Addr} {H H1 H2 : Hp} (a : LeN Z A H A1 H1) (b : LeN Z A1 H1 A2 H2) : LeN Z A H A2 H2 := aM.trans a b
theorem LeN.refl {Z A : List Addr} {H : Hp} : LeN Z A H A H := aM.refl _
theorem LeN.of (l : Le A H A' H') : LeN Z A H A' H' := fun b o e => by
 have e1 := aY _ _ _ _ e
 have hb : b ∉ Z ++ A := fun z => by rw [eG z] at e; cases e
 have e2 : hide A H b = some o := by rw [bI fun z => hb (List.mem_append_right _ z)]; exact e1
 have e3 := l b o e2
 have e4 := aY _ _ _ _ e3
 have hb' : b ∉ A' := fun z => by rw [eG z] at e3; cases e3
 rw [bI fun z => (List.mem_append.mp z).elim (fun z => hb (List.mem_append_left _ z)) hb']
 exact e4
def aX6 (K : Frag) (B A Z : List Addr) (H : Hp) (i : Nat) (P : Addr) (ps : List Addr) (r : NFl) (Dn : Ends) : Prop := match r with
 | .nx xss st => ∀ A' σ' H', LeN Z A H A' H' -> NS K B A' Z H' st σ' i P ps xss -> Dn.nx σ' H'
 | .rt d => ∀ A' v H', LeN Z A H A' H' -> Rep K (hide (A' ++ B) H') d v -> Dn.rt v H'
def tN (K : Frag) (B : List Addr) (i : Nat) (nb : NB) : TS := fun Dn σ H => ∃ A Z st P ps xss r, NS K B A Z H st σ i P ps xss /\ nb xss st = .ok r /\ aX6 K B A Z H i P ps r Dn
theorem NS.step {K : Frag}   {st : PSt} {σ' : LSt}  {P : Addr} {ps : List Addr}  (n : NS K B A Z H st σ i P ps xss) (l : Le A H A' H') (rs : RS K (Z ++ B) A' H' st' σ') (no : st'[i]? = some none) (at_ : σ'[i]? = some (some (.ref P))) : NS K B A' Z H' st' σ' i P ps xss := by
 have kp : ∀ p ∈ Z, ∀ o, H p = some o -> H' p = some o := fun p hp o e => by
  have hA : p ∉ A := fun z => n.rs.dis p z (List.mem_append_left _ hp)
  exact aY _ _ _ _ (l p o (by rw [bI hA]; exact e))
 have g : aM (hide (A ++ (Z ++ B)) H) (hide (A' ++ (Z ++ B)) H') := fun b o e => by
  have e1 := aY _ _ _ _ e
  have hb : b ∉ A ++ (Z ++ B) := fun z => by rw [eG z] at e; cases e
  have e3 := l b o (by rw [bI fun z => hb (List.mem_append_left _ z)]; exact e1)
  have hb' : b ∉ A' := fun z => by rw [eG z] at e3; cases e3
  rw [bI fun z => (List.mem_append.mp z).elim hb' fun z => hb (List.mem_append_right _ z)]
  exact aY _ _ _ _ e3
 exact ⟨rs, no, at_, kp P n.zp _ n.out, n.inn.mono g fun p hp => kp p (n.zs p hp), n.zb, n.zp, n.zs, n.nd⟩
theorem NS.same {K : Frag}   {st : PSt}   {P : Addr} {ps : List Addr}  (n : NS K B A Z H st σ i P ps xss) (s : aM H H') : NS K B A Z H' st σ i P ps xss := n.step (Le.of s) (n.rs.mono s) n.no n.at_
theorem RS.less {K : Frag}   {st : PSt}  (r : RS K (Z ++ B) A H st σ) : RS K B A H st σ := by
 have m : ∀ a ∈ A ++ B, a ∈ A ++ (Z ++ B) := fun a h => (List.mem_append.mp h).elim (List.mem_append_left _) fun z => List.mem_append_right _ (List.mem_append_right _ z)
 refine ⟨r.len, fun a ha => r.own a (m a ha), fun a ha hb => r.dis a ha (List.mem_append_right _ hb), fun i d h => ?_, fun i k xs h => ?_⟩
 ·obtain ⟨v, e1, q⟩ := r.val i d h
  exact ⟨v, e1, q.mono (dR m)⟩
 ·obtain ⟨a, o, vs, e1, e2, e3, e4, e5, e6⟩ := r.lst i k xs h
  exact ⟨a, o, vs, e1, e2, e3, e4, e5.mono (dR m), e6⟩
theorem RS.putB {K : Frag}   {st : PSt}  {p : Addr} {u : HO} (r : RS K B A H st σ) (hp : p ∈ B) : RS K B A (upd H p u) st σ := by
 have hh : hide (A ++ B) (upd H p u) = hide (A ++ B) H := gW (List.mem_append_right _ hp)
 refine ⟨r.len, fun b hb => ?_, r.dis, fun j d e => by rw [hh]; exact r.val j d e, fun j kk xs e => ?_⟩
 ·by_cases e : b = p
  ·subst e; rw [bY]; rfl
  ·rw [aU e]; exact r.own b hb
 ·obtain ⟨a, o, vs', e1, m, h1, ko, q, u⟩ := r.lst j kk xs e
  refine ⟨a, o, vs', e1, m, ?_, ko, by rw [hh]; exact q, u⟩
  have : a ≠ p := fun z => r.dis a m (z ▸ hp)
  rw [aU this]; exact h1
section
variable       {rest : List Stmt}   
theorem aEw {l : List α}  {x : α} (h : i ≠ j) : (l.set j x)[i]? = l[i]? := List.getElem?_set_ne (Ne.symm h)
theorem aOf (j : Nat)   (he : ∀ B, PE X e (tI X.K B f)) (hN : X.N.Nodup) (hij : i ≠ j := by decide) (hi : X.N[j]? = some x := by rfl) (hx : Loc X.env.scope x := by first | exact Or.inl rfl | exact Or.inr rfl) (hs : swapsWith e (some (.Name x pos')) pos.line X.env = pure false := by rfl)
  (hf : X.fn x = true \/ X.env.scope.names.lookup x = some .local := by first | exact .inl rfl | exact .inr rfl | assumption) : PS X (.Assign [.Name x pos'] e pos) (tN X.K B i (aHd j f)) := by
 intro pins s σ H Dn I ⟨A, Z, st, P, ps, xss, r, n, hr, q⟩
 refine yE hN hi hx (he (Z ++ B)) hs hf pins s σ H Dn I ?_
 obtain ⟨d, hd, h3⟩ := R.ok_of hr
 cases h3
 refine ⟨A, st, d, n.rs, hd, fun v H1 s1 r1 => q A _ H1 (LeN.of (Le.of s1)) ?_⟩
 exact n.step (Le.of s1) ((n.rs.mono s1).set j r1) (by rw [aEw hij]; exact n.no) (by rw [aEw hij]; exact n.at_)
theorem aOg {j : Int} {k : Nat} (h : Pu.ixN n j = some k) : k < n := by
 unfold Pu.ixN at h
 split at h
 ·split at h
  ·cases h; omega
  ·cases h
 ·split at h
  ·cases h; omega
  ·cases h
theorem aX7 {x : Str} {ge : Expr}  (hg : ∀ B, PE X ge (tP X.K B g)) (he : ∀ B, PE X e (tI X.K B f)) (hN : X.N[i]? = some x := by rfl) (hv : Vis X.env.scope x := by first | exact Or.inl rfl | exact Or.inr (Or.inl rfl) | exact Or.inr (Or.inr rfl)) (hd : (x == ("__debug__" : Str)) = false := by decide)
  (hcd : (x == ("__classdict__" : Str)) = false := by decide) (hix : aAh ge := by intro _ _; rfl) (hbase : attributeBase (.Subscript (.Name x p1) ge p2) "append" X.env (eval (.Subscript (.Name x p1) ge p2) X.env) = eval (.Subscript (.Name x p1) ge p2) X.env := by rfl)
  (hfew : ((backTo cpos (starEach [e] X.env)).all (fun x => !x.1) && (backToKw cpos (keywordEach [] X.env)).all (fun x => x.1.isSome)
   && decide (([e] : List Expr).length + ([] : List Keyword).length + (if ([] : List Keyword).isEmpty then 0 else 1) < 30)) = true := by rfl)
  (hline : (apos.endLine == cpos.line) = true := by rfl) (hs : starEach [e] X.env = (false, eval e X.env) :: starEach [] X.env := by rfl)
  (hsw : swapsWith (.Call (.Attribute (.Subscript (.Name x p1) ge p2) "append" apos) [e] [] cpos) none pos.line X.env = pure false := by rfl) :
  PS X (.Expr (.Call (.Attribute (.Subscript (.Name x p1) ge p2) "append" apos) [e] [] cpos) pos) (tN X.K B i (aK7 g f)) := by
 intro pins s σ H Dn I ⟨A, Z, st, P, ps, xss, r, n, hr, q⟩
 refine aI9 (aM2 PySem.F.plainAttrs_list PySem.F.slot_list_append PySem.F.type_list_append aCu (aM1 aH4 (yC hN hv hd hcd) (hg (Z ++ B)) hix) (dC (he (Z ++ B)) gG hs) hbase hfew hline hs rfl) hsw pins s σ H Dn I ?_
 obtain ⟨y, hy, h2⟩ := R.ok_of hr
 obtain ⟨j, rfl, h3⟩ := rU h2
 obtain ⟨d, hd', h4⟩ := R.ok_of h3
 obtain ⟨k, hk, h5⟩ := R.ok_of h4
 have hk' := sZ hk
 have hlt := aOg hk'
 rw [List.getElem?_eq_getElem hlt] at h5
 obtain ⟨c, h6⟩ := aJ (show aH ((xss[k]).length < big) (.ok (.nx (xss.set k (xss[k] ++ [d])) st)) = .ok r from h5)
 cases h6
 refine ⟨.ref P, n.at_, A, st, .int j, n.rs, hy, fun v H1 s1 r1 => ?_⟩
 have ev := r1.int
 subst ev
 have n1 := n.same s1
 obtain ⟨p, vs, e1, e2, e3⟩ := n1.inn.get (List.getElem?_eq_getElem hlt)
 have hat : L2.atI (ps.map V.ref) j = some (V.ref p) := by
  have hl := n1.inn.len
  have : Pu.ixN (ps.map V.ref).length j = some k := by rw [length_map, hl]; exact hk'
  show (L2.ixN (ps.map V.ref).length j).bind (fun k => (ps.map V.ref)[k]?) = _
  rw [show L2.ixN (ps.map V.ref).length j = some k from this]
  show (ps.map V.ref)[k]? = _
  rw [List.getElem?_map, e1]; rfl
 refine .inl ⟨P, ps.map V.ref, j, .ref p, rfl, rfl, SqL.of n1.out, hat, .inl ⟨rfl, vs, SqL.of e2⟩, A, st, d, n1.rs, hd', fun w H2 s2 r2 => ?_⟩
 have n2 := n1.same s2
 have e2' := s2 _ _ e2
 have hpZ : p ∈ Z := n.zs p (List.mem_of_getElem? e1)
 refine ⟨p, vs, w, rfl, rfl, e2', by rw [e3.length]; rw [jO] at c; exact Nat.lt_of_lt_of_le c (by decide), q A σ _ ?_ ?_⟩
 ·refine (LeN.of (Le.of (s1.trans s2))).trans ?_
  show aM (hide (Z ++ A) H2) (hide (Z ++ A) (upd H2 p _))
  rw [gW (List.mem_append_left _ hpZ)]
  exact aM.refl _
 ·have hh : hide (A ++ (Z ++ B)) (upd H2 p (.lst (vs ++ [w]))) = hide (A ++ (Z ++ B)) H2 := gW (List.mem_append_right _ (List.mem_append_left _ hpZ))
  have ndp := List.nodup_cons.mp n.nd
  refine ⟨n2.rs.putB (List.mem_append_left _ hpZ), n2.no, n2.at_, ?_, ?_, n2.zb, n2.zp, n2.zs, n2.nd⟩
  ·rw [aU (fun z : P = p => ndp.1 (by rw [z]; exact List.mem_of_getElem? e1))]; exact n2.out
  ·rw [hh]
   exact n2.inn.put ((e3.mono (aM.hide s2)).append (.cons r2 .nil)) ndp.2 e1
end
end Pu
namespace Pu
open PySem PySem.Spec PyProof.Rows L2
section
variable       {rest : List Stmt}  
end
section
variable   {K : Frag}    {st : Stmt}  {f : Addr}   {k : Nat}
end
section
end
end Pu
namespace Pu
open PySem PySem.Spec PyProof.Rows L2
section
end
end Pu
namespace Pu
open PySem PySem.Spec PyProof.Rows L2
section
variable   {e1 e2 : Expr}    {rest : List Stmt}   {s1 : Bool}
end
section
variable   {K : Frag}    {st : Stmt}     {k : Nat}   
end
section
variable   {e1 e2 : Expr}  
end
section
end
end Pu
namespace Pu
open PySem PySem.Spec PyProof.Rows L2
section
end
end Pu
namespace Pu
open PySem PySem.Spec PyProof.Rows L2
def noH : Hp := fun _ => none
theorem aAs : aM noH H := fun _ _ h => nomatch h
theorem aC4 {K : Frag}    (h : atom d = true) (r : Rep K H d v) : Rep K noH d v := by
 cases d <;> first | (cases h; done) | skip
 ·exact bV.mpr (bV.mp r)
 ·exact bK.mpr (bK.mp r)
 ·exact aW.mpr (aW.mp r)
 ·exact aO.mpr (aO.mp r)
theorem zN {K : Frag} {H : Hp} : ∀ {ds : List D} {vs : List V}, ds.all atom = true -> bA K H ds vs -> bA K noH ds vs
 | [], _, _, r => by rw [dM.mp r]; exact .nil
 | d :: ds, _, h, r => by
  obtain ⟨v, w, rfl, q, t⟩ := cF.mp r
  rw [all_cons, and_eq_true] at h
  exact .cons (aC4 h.1 q) (zN h.2 t)
def tD (K : Frag) (B : List Addr) (f : Ex) : TE := fun σ H Q => ∃ A st d, RS K B A H st σ /\ f st = .ok d /\ ∀ v H', aM H H' -> (∀ Z, Own Z H -> Rep K (hide Z H') d v) -> Q v H'
def tC (K : Frag) (B : List Addr) (f : Ex) : TE := fun σ H Q => ∃ A st d xs, RS K B A H st σ /\ f st = .ok d /\ rY d = .ok (.lst xs) /\ ∀ P ps H', aM H H' -> (∀ p ∈ P :: ps, H p = none) -> (P :: ps).Nodup -> H' P = some (.lst (ps.map V.ref)) -> Inn K noH H' (xs.map unL) ps -> Q (.ref P) H'
theorem zO (h : rY d = .ok (.lst xs)) : d = .lst xs /\ xs.length <= big /\ xs.all aD0 = true := by
 cases d <;> first | (cases h; done) | skip
 obtain ⟨⟨h1, h2⟩, h3⟩ := aJ h
 cases h3
 exact ⟨rfl, h1, h2⟩
theorem aC5 {e : D} (h : rY d = .ok e) : ∃ xs, e = .lst xs := by
 cases d <;> first | (cases h; done) | skip
 obtain ⟨_, h3⟩ := aJ h
 cases h3
 exact ⟨_, rfl⟩
theorem Inn.snoc {K : Frag} {G H : Hp} {ys : List D} {n : Addr} {ws : List V} (hn : H n = some (.lst ws)) (hr : bA K G ys ws) : ∀ {xss : List (List D)} {ps : List Addr}, Inn K G H xss ps -> Inn K G H (xss ++ [ys]) (ps ++ [n])
 | [], ps, h => by rw [show ps = [] from h]; exact ⟨n, [], ws, rfl, hn, hr, rfl⟩
 | x :: xss, ps, h => by
  obtain ⟨p, r, vs, rfl, h1, h2, h3⟩ := h
  exact ⟨p, r ++ [n], vs, rfl, h1, h2, Inn.snoc hn hr h3⟩
def teL (K : Frag) (j : Nat) : TE := fun τ H Q => ∃ l xs, τ[j]? = some (some (.ref l)) /\ SqL K H l xs /\ ∀ n, H n = none -> Q (.ref n) (upd H n (.lst xs))
def tgJ (j : Nat) : TG := fun v τ H Q => Q (τ.set j (some v)) H
theorem aOh {K : Frag}       {st : PSt}  (rs : RS K B A H st σ) (hj : j < σ.length) (hx : itE f st = .ok xs) (hl : xs.length <= big) (ha : xs.all aD0 = true) {Q : VK}
  (q : ∀ P ps H', aM H H' -> (∀ p ∈ P :: ps, H p = none) -> (P :: ps).Nodup -> H' P = some (.lst (ps.map V.ref)) -> Inn K noH H' (xs.map unL) ps -> Q (.ref P) H') : tLC [j] (tIt K B (itE f)) (tgJ j) rD (teL K j) σ H Q := by
 refine ⟨A, st, xs, rs, hx, fun J H1 s1 ito P hP => ?_⟩
 have w1 := rs.own.mono s1
 refine ⟨fun i m τ vs H' => m = xs.length - i /\ i <= xs.length /\ τ.length = σ.length /\ ∃ ps, vs = ps.map V.ref /\ ps.length = i /\ H' P = some (.lst vs) /\ aM H1 H' /\ (∀ p ∈ ps, H1 p = none) /\ (P :: ps).Nodup /\ Inn K noH H' ((xs.take i).map unL) ps,
  ⟨xs.length, by simp, zero_le _, by rw [aBs], [], rfl, rfl, bY, dB hP, (fun _ h => nomatch h), by simp, rfl⟩, ?_⟩
 rintro i m τ vs H' ⟨rfl, hi, hτ, ps, rfl, hpl, hpv, s2, fr, nd, inn⟩
 refine ⟨hpv, ?_⟩
 have le : Le A H1 (P :: A) H' := fun b u z => by
  have z1 := aY _ _ _ _ z
  have hb : b ∉ A := fun w => by rw [eG w] at z; cases z
  have ne : b ≠ P := aK z1 hP
  rw [bI (show b ∉ P :: A from fun w => (List.mem_cons.mp w).elim ne hb)]
  exact s2 b u z1
 have own : Own ((P :: A) ++ B) H' := fun a h => by
  rcases List.mem_cons.mp (show a ∈ P :: (A ++ B) from h) with rfl | h
  ·rw [hpv]; rfl
  ·exact (w1.mono s2) a h
 obtain ⟨i1, i2⟩ := ito (P :: A) H' le own i
 by_cases hlt : i < xs.length
 ·obtain ⟨go, yl⟩ := i1 _ (List.getElem?_eq_getElem hlt)
  refine .inr ⟨go, fun x H2 y => ?_⟩
  obtain ⟨sm3, rx⟩ := yl x H2 y
  have hrow : aD0 xs[i] = true := List.all_eq_true.mp ha _ (List.getElem_mem hlt)
  obtain ⟨ys, ey⟩ : ∃ ys, xs[i] = .lst ys := by
   cases hh : xs[i] <;> rw [hh] at hrow <;> first | exact ⟨_, rfl⟩ | exact nomatch hrow
  rw [ey] at rx hrow
  obtain ⟨l, ws, rfl, hs, rr⟩ := bG.mp rx
  dsimp only [tgJ, rD]
  rw [if_pos rfl]
  refine ⟨l, ws, ?_, (aY _ _).seq hs, fun n hn => ?_⟩
  ·rw [List.getElem?_set, if_pos rfl, if_pos (by rw [hτ]; exact hj)]
  have s3 := s2.trans sm3
  have hpv2 := sm3 _ _ hpv
  have hnP : n ≠ P := fun z => by rw [z, hpv2] at hn; cases hn
  have hnp : n ∉ ps := fun z => by
   obtain ⟨k, hk⟩ := List.mem_iff_getElem?.mp z
   have hkl : k < ((xs.take i).map unL).length := by rw [<- inn.len]; exact (List.getElem?_eq_some_iff.mp hk).1
   obtain ⟨p', vs', e1, e2, _⟩ := inn.get (List.getElem?_eq_getElem hkl)
   rw [hk] at e1; cases e1
   rw [sm3 _ _ e2] at hn; cases hn
  have h1n : H1 n = none := by
   cases h : H1 n with
   | none => rfl
   | some u => rw [s3 _ _ h] at hn; cases hn
  have hN : upd (upd H2 n (.lst ws)) P (.lst (ps.map V.ref ++ [.ref n])) n = some (.lst ws) := by rw [aU hnP, bY]
  refine ⟨by rw [aU (Ne.symm hnP)]; exact hpv2, ?_, xs.length - (i + 1), by omega, rfl, hlt, by rw [length_set, hτ], ps ++ [n], by rw [List.map_append]; rfl, by rw [length_append, hpl]; rfl, bY, fun b u z => ?_, fun p hp => ?_, ?_, ?_⟩
  ·rw [length_map, hpl]
   have : sizeLine = 16777216 := by decide
   have hbg := jO
   omega
  ·rw [aU (aK z hP), aU (aK z h1n)]; exact s3 b u z
  ·rcases List.mem_append.mp hp with hp | hp
   ·exact fr p hp
   ·rw [List.mem_singleton.mp hp]; exact h1n
  ·obtain ⟨n1, n2⟩ := List.nodup_cons.mp nd
   refine List.nodup_cons.mpr ⟨fun z => (List.mem_append.mp z).elim n1 fun z => hnP (List.mem_singleton.mp z).symm, List.nodup_append.mpr ⟨n2, by simp, fun a ha b hb => ?_⟩⟩
   rw [List.mem_singleton.mp hb]
   exact fun z => hnp (z ▸ ha)
  ·rw [List.take_succ_eq_append_getElem hlt, List.map_append]
   refine Inn.snoc hN ?_ (inn.mono (aM.refl _) fun p hp o e => ?_)
   ·rw [ey]
    exact zN (show ys.all atom = true from hrow) rr
   ·have h1 : p ≠ P := fun z => (List.nodup_cons.mp nd).1 (z ▸ hp)
    have h2 : p ≠ n := fun z => hnp (z ▸ hp)
    rw [aU h1, aU h2]
    exact sm3 _ _ e
 ·have e : i = xs.length := by omega
  subst e
  rw [List.take_length] at inn
  refine .inl ⟨i2 (Nat.le_refl _), q P ps H' (s1.trans s2) (fun p hp => ?_) nd hpv inn⟩
  have h1 : H1 p = none := (List.mem_cons.mp hp).elim (fun z => by rw [z]; exact hP) (fr p)
  cases h : H p with
  | none => rfl
  | some u => rw [s1 _ _ h] at h1; cases h1
section
variable    {iter : Expr} {pl : Pos}  {r : Str} 
theorem aGh {K : Frag}    (Q Q' : VK) (m : ∀ v H', Q v H' -> Q' v H') (h : teL K j τ H Q) : teL K j τ H Q' :=
 let ⟨l, xs, h1, h2, h3⟩ := h; ⟨l, xs, h1, h2, fun n hn => m _ _ (h3 n hn)⟩
theorem aJc (j : Nat) (S : CScope X scope [j]) (hi : L2.PI X (.Name r p2) iter (tIt X.K B (itE f))) (hg : ∀ (C : Addr) (s₀ : Shared) (H₀ : Hp) (fp : List Addr), PG (bR X scope C s₀ H₀ fp) (.Name r p2) (tgJ j))
  (he : ∀ (C : Addr) (s₀ : Shared) (H₀ : Hp) (fp : List Addr), PE (bR X scope C s₀ H₀ fp) (.Call (.Name "list" p0) [.Name r p1] [] pl) (teL X.K j)) (hc : X.calm = true) (hj : decide (j < X.N.length) = true := by rfl) (hs : ∀ x, foldedSetIterable iter X.env x = pure x := by intro _; rfl) :
  PE X (.ListComp (.Call (.Name "list" p0) [.Name r p1] [] pl) [⟨.Name r p2, iter, [], 0⟩] scope pos) (tC X.K B f) := by
 intro pins s σ H Q I h
 obtain ⟨A, st, d, xs, rs, hd, h2, q⟩ := h
 obtain ⟨rfl, hl, ha⟩ := zO h2
 rw [eval_ListComp]
 exact uK (use := none) (Qf := EP X pins σ Q) (Q := Q) (tt := rD) (te := teL X.K j) (rest := fun env it p => eval (.Call (.Name "list" p0) [.Name r p1] [] pl) env >>= fun x => call (.builtin "list.append") [p, x] >>= fun _ => again (.compLoop (.ListComp (.Call (.Name "list" p0) [.Name r p1] [] pl) [⟨.Name r p2, iter, [], 0⟩] scope pos) 0 it p env)) S hc hi (fun C s₀ H₀ fp => hg C s₀ H₀ fp) (fun _ _ _ => nY)
  (fun C s₀ H₀ fp it p s Q h => aQj (Y := bR X scope C s₀ H₀ fp) h) (fun C s₀ H₀ fp it p τ H s pins vs N Q I h q => aJ6 (Y := bR X scope C s₀ H₀ fp) rfl (he C s₀ H₀ fp) τ H s pins vs N Q I h (fun Q Q' m h => aGh Q Q' m h) q) hs I
  (aOh rs (by rw [I.len]; exact of_decide_eq_true hj) (by unfold itE; rw [hd]; rfl) hl ha q) fun C p H5 s5 m5 s3 H3 fp τ hC I3 hfp I5 hn5 q5 => ⟨m5, hn5, fun h' hs' => ⟨.ref p, H5, uJ I3 hfp hC I5 hs', rfl, q5⟩⟩
theorem aR2 (h : PE X e (tC X.K B f)) : PE X e (tD X.K B (e1 rY f)) := cW h (by
 rintro σ H Q ⟨A, st, d, rs, hd, q⟩
 obtain ⟨d0, h0, h2⟩ := R.ok_of hd
 obtain ⟨xs, rfl⟩ := aC5 h2
 refine ⟨A, st, d0, xs, rs, h0, h2, fun P ps H' sm fr nd hP inn => q _ H' sm fun Z hZ => ?_⟩
 obtain ⟨rfl, hl, ha⟩ := zO h2
 have out : ∀ p ∈ P :: ps, p ∉ Z := fun p hp z => by
  have := hZ p z
  rw [fr p hp] at this; cases this
 have reps : ∀ (xss : List (List D)) (ps : List Addr), (∀ p ∈ ps, p ∉ Z) -> Inn X.K noH H' xss ps -> bA X.K (hide Z H') (xss.map D.lst) (ps.map V.ref) := by
  intro xss
  induction xss with
  | nil => intro ps _ h; rw [show ps = [] from h]; exact .nil
  | cons ys xss ih =>
   intro ps hz h
   obtain ⟨p, r, vs, rfl, h1, h2, h3⟩ := h
   exact .cons (bG.mpr ⟨p, vs, rfl, SqL.of (by rw [bI (hz p mem_cons_self)]; exact h1), h2.mono aAs⟩) (ih r (fun p hp => hz p (mem_cons_of_mem _ hp)) h3)
 have := reps _ ps (fun p hp => out p (mem_cons_of_mem _ hp)) inn
 rw [aIi ha] at this
 exact bG.mpr ⟨P, _, rfl, SqL.of (by rw [bI (out P mem_cons_self)]; exact hP), this⟩)
theorem aR3 (hm : X.mg "list" = none) (ha : PE X a (tI X.K B f)) (hg : Gl X "list" := by rfl) (hs : starEach [a] X.env = (false, eval a X.env) :: starEach [] X.env := by rfl) : PE X (.Call (.Name "list" p0) [a] [] pos) (tD X.K B (e1 aHe f)) := by
 refine cW (pW vR hg hm (by rfl) (dC ha gG hs) (he := hs)) ?_
 rintro σ H Q ⟨A, st, d, rs, hd, q⟩
 obtain ⟨x, hx, h2⟩ := R.ok_of hd
 refine ⟨A, st, x, rs, hx, fun v H1 s1 r1 => ?_⟩
 cases x <;> first | (cases h2; done) | skip
 obtain ⟨hat, h3⟩ := aJ h2
 cases h3
 obtain ⟨l, vs, rfl, h3, r3⟩ := bG.mp r1
 refine ⟨l, vs, rfl, .inl ((aY _ _).seq h3), fun n hn => q _ _ (s1.trans (dB hn)) fun Z hZ => ?_⟩
 refine bG.mpr ⟨n, vs, rfl, SqL.of ?_, (zN hat r3).mono aAs⟩
 rw [bI fun z => ?_]
 ·exact bY
 ·have := hZ n z
  obtain ⟨u, e⟩ := Option.isSome_iff_exists.mp this
  rw [s1 _ _ e] at hn; cases hn
theorem aOi (h : PE X e (tI X.K B f)) : PE X e (tD X.K B (eAt f)) := cW h (by
 rintro σ H Q ⟨A, st, d, rs, hd, q⟩
 obtain ⟨d0, h0, h2⟩ := R.ok_of hd
 obtain ⟨ha, h3⟩ := aJ h2
 cases h3
 exact ⟨A, st, _, rs, h0, fun v H' sm r => q v H' sm fun Z _ => (aC4 ha r).mono aAs⟩)
end
end Pu
namespace Pu
open PySem PySem.Spec PyProof.Rows L2
section
variable   {r : Str}
theorem aOj (j : Nat) (hm : X.mg "list" = none) (hN : X.N[j]? = some r := by rfl) (hv : Vis X.env.scope r := by first | exact Or.inl rfl | exact Or.inr (Or.inl rfl) | exact Or.inr (Or.inr rfl)) (hd : (r == ("__debug__" : Str)) = false := by decide)
  (hcd : (r == ("__classdict__" : Str)) = false := by decide) (hg : Gl X "list" := by rfl) (hs : starEach [Expr.Name r p1] X.env = (false, eval (.Name r p1) X.env) :: starEach [] X.env := by rfl) : PE X (.Call (.Name "list" p0) [.Name r p1] [] pos) (teL X.K j) :=
 cW (pW vR hg hm (by rfl) (dC (yC hN hv hd hcd) gG hs) (he := hs)) (by
  rintro σ H Q ⟨l, xs, h1, h2, h3⟩
  exact ⟨.ref l, h1, l, xs, rfl, .inl h2, h3⟩)
theorem g_row (j : Nat) (hN : X.N.Nodup) (hi : X.N[j]? = some r := by rfl) (hx : Loc X.env.scope r := by first | exact Or.inl rfl | exact Or.inr rfl)
  (hf : X.fn r = true \/ X.env.scope.names.lookup r = some .local := by first | exact .inl rfl | exact .inr rfl | assumption) : PG X (.Name r pos) (tgJ j) := aIb hN hi hx hf
end
end Pu
namespace Pu
open PySem PySem.Spec PyProof.Rows L2
structure RM (K : Frag) (H0 : Hp) (x : Addr) (H : Hp) (st : PSt) (σ : LSt) : Prop where
 rs : RS K [] [x] H st σ
 sm : aM (hide [x] H0) H
 x0 : (H0 x).isSome = true
 fr : ∀ n c ns xs, st[0]? = some (some (.o (.i n c ns) xs)) -> σ[0]? = some (some (.ref x)) /\ ∀ C dx fs, H x = some (.ins C dx fs) -> ∀ Z, Own Z H0 -> bA K (hide Z H) xs (fs.map (·.2))
theorem RM.mono {K : Frag} {H0 : Hp} {x : Addr} {H H' : Hp} {st : PSt} {σ : LSt} (m : RM K H0 x H st σ) (s : aM H H') : RM K H0 x H' st σ :=
 ⟨m.rs.mono s, m.sm.trans s, m.x0, fun n c ns xs e => by
  obtain ⟨h1, h2⟩ := m.fr n c ns xs e
  obtain ⟨a, o, vs, e1, _, h3, ko, _⟩ := m.rs.lst 0 _ _ e
  rw [h1] at e1; cases e1
  obtain ⟨_, C0, dx0, fs0, rfl, _⟩ := ko
  refine ⟨h1, fun C dx fs h Z hZ => ?_⟩
  have h' := s _ _ h3
  rw [h] at h'; cases h'
  exact (h2 _ _ _ h3 Z hZ).mono (aM.hide s)⟩
theorem RM.own {K : Frag} {H0 : Hp} {x : Addr} {H : Hp} {st : PSt} {σ : LSt} (m : RM K H0 x H st σ) {Z : List Addr} (hZ : Own Z H0) : Own Z H := fun z hz => by
 by_cases e : z = x
 ·rw [e]; exact m.rs.own x (by simp)
 ·obtain ⟨u, hu⟩ := Option.isSome_iff_exists.mp (hZ z hz)
  rw [m.sm z u (by rw [bI (by simpa using e)]; exact hu)]; rfl
def tM (K : Frag) (H0 : Hp) (x : Addr) (W : XW) (b : Bd) : TS := fun Dn σ H => ∃ st, RM K H0 x H st σ /\ (match b st with
 | .ok (.nx st') => ∀ σ' H', RM K H0 x H' st' σ' -> Dn.nx σ' H'
 | .exc e => ∀ σ' H', aM (hide [x] H0) H' -> W e σ' H'
 | _ => False)
section
variable      {rest : List Stmt}    {x : Addr}
theorem aS1 : PSs X [] (tM X.K H0 x W eN) := oU aDw (by
 rintro Dn σ H ⟨st, m, q⟩
 exact q σ H m)
theorem aOl (h : PS X sm (tM X.K H0 x W bd)) : PSs X [sm] (tM X.K H0 x W bd) := aAg h
theorem aC6 (h1 : PS X sm (tM X.K H0 x W bd)) (h2 : PSs X rest (tM X.K H0 x W bd')) : PSs X (sm :: rest) (tM X.K H0 x W (cQ bd bd')) := oU (pR h1 h2) (by
 rintro Dn σ H ⟨st, m, q⟩
 refine ⟨st, m, ?_⟩
 unfold cQ aAe at q
 cases hb : bd st with
 | ok r =>
  rw [hb] at q
  cases r with
  | nx s1 => exact fun σ' H' m' => ⟨s1, m', q⟩
  | rt d => exact q
  | bk s1 => exact q
  | ct s1 => exact q
 | exc x => rw [hb] at q; exact q
 | bad => rw [hb] at q; exact q)
theorem aX8 {c : Expr} {t : Ex} {z : List Stmt} (hc : PT X c (tT X.K [] t)) (ha : PSs X y (tM X.K H0 x W bd)) (hb : PSs X z (tM X.K H0 x W bd')) : PS X (.If c y z pos) (tM X.K H0 x W (sIf (eNX t) bd bd')) := fZ (aIa hc ha hb) (by
 rintro Dn σ H ⟨st, m, q⟩
 unfold sIf eNX at q
 cases ht : t st with
 | exc x => rw [ht] at q; exact q.elim
 | bad => rw [ht] at q; exact q.elim
 | ok d =>
  rw [ht] at q
  cases d <;> first | exact q.elim | skip
  rename_i k
  refine ⟨[x], st, k, m.rs, ht, fun H1 s1 => ?_⟩
  cases k with
  | true => exact ⟨st, m.mono s1, q⟩
  | false => exact ⟨st, m.mono s1, q⟩)
theorem aJd {np : Pos} (hL : qN X W) (hc : ExcAt X.K c C tl) (hm : X.mg (Str.ofString c) = some (.ref C)) (hcalm : X.calm = true) (ha : PA X (e :: es) (tA X.K [] r)) (hg : Gl X (Str.ofString c) := by rfl) (hdb : (Str.ofString c == ("__debug__" : Str)) = false := by decide)
  (he : starEach (e :: es) X.env = (false, eval e X.env) :: starEach es X.env := by rfl) (hpl : (backTo cpos (starEach es X.env)).any (·.1) = false := by rfl) (hlen : (e :: es).length <= 100 := by decide) :
  PS X (.Raise (some (.Call (.Name (Str.ofString c) np) (e :: es) [] cpos)) none pos) (tM X.K H0 x W (mQ c r)) := by
 refine fZ (aGd hL hc hm hcalm ha hg hdb he hpl hlen) ?_
 rintro Dn σ H ⟨st, m, q⟩
 unfold mQ at q
 cases hr : r st with
 | exc x => rw [hr] at q; exact q.elim
 | bad => rw [hr] at q; exact q.elim
 | ok ds =>
  rw [hr] at q
  by_cases hl : ds.length <= 100
  ·refine ⟨[x], st, ds, m.rs, hr, fun vs H1 s1 r1 => ⟨by rw [r1.length]; exact hl, c, tl, hc, ?_⟩⟩
   rw [show (R.ok ds).nox.bind (fun xs => aH (xs.length <= 100) (R.exc (α := Fl) (.exn c [] []))) = .exc (.exn c [] []) from aG hl] at q
   exact q σ H1 (m.sm.trans s1)
  ·rw [show (R.ok ds).nox.bind (fun xs => aH (xs.length <= 100) (R.exc (α := Fl) (.exn c [] []))) = .bad from if_neg hl] at q
   exact q.elim
theorem aJe {y : Str} {f' : String}   {value : Expr} (hc : ClsAt X.K c C) (hn : iI X.K C (Str.ofString f')) (he : PE X value (tD X.K [] f)) (hN : X.N[0]? = some y := by rfl) (hv : Vis X.env.scope y := by first | exact Or.inl rfl | exact Or.inr (Or.inl rfl) | exact Or.inr (Or.inr rfl)) (hd : (y == ("__debug__" : Str)) = false := by decide)
  (hcd : (y == ("__classdict__" : Str)) = false := by decide) (hs : swapsWith value (some (.Attribute (.Name y p1) (Str.ofString f') p2)) pos.line X.env = pure false := by rfl) :
  PS X (.Assign [.Attribute (.Name y p1) (Str.ofString f') p2] value pos) (tM X.K H0 x W (sNX (aAz 0 c f' f))) := by
 refine fZ (aSp (yC hN hv hd hcd) he hs) ?_
 rintro Dn σ H ⟨st, m, q⟩
 unfold sNX at q
 cases hb : aAz 0 c f' f st with
 | exc x => rw [hb] at q; exact q.elim
 | bad => rw [hb] at q; exact q.elim
 | ok r =>
  rw [hb] at q
  obtain ⟨d, hd, h3⟩ := R.ok_of hb
  split at h3
  ·rename_i n c' ns xs e1
   obtain ⟨⟨ec, hf, hlen⟩, h4⟩ := aJ h3
   subst ec
   cases h4
   obtain ⟨l, o, vs, e2, mm, h1, ko, r0, u⟩ := m.rs.lst 0 _ _ e1
   obtain ⟨hx, hfr⟩ := m.fr _ _ _ _ e1
   rw [hx] at e2; cases e2
   obtain ⟨el, C', dx, fs, rfl, k1, k2, rfl⟩ := ko
   have : C' = C := by have z := k1.symm.trans hc.ns; injection z with z; injection z with z; injection z
   subst this
   refine ⟨[x], st, d, m.rs, hd, fun w H1 s1 r1 => ⟨.ref x, hx, x, C', dx, fs, rfl, s1 _ _ h1, hc.cl, hn, ?_, ?_⟩⟩
   ·have := congrArg List.length k2
    rw [length_map, length_map] at this
    omega
   ·rw [aG9 k2 hf]
    have m1 := m.mono s1
    have r1' : Rep X.K (hide ([x] ++ []) H1) d w := r1 _ (m.rs.own)
    obtain ⟨w1, w2⟩ := m1.rs.write e1 hx (k1 := .i n c' (ns ++ [f'])) (o' := .ins C' dx (fs ++ [(Str.ofString f', w)])) (ds := xs ++ [d]) (vs' := fs.map (·.2) ++ [w]) ⟨el, C', dx, _, rfl, k1, by rw [List.map_append, List.map_append, k2]; rfl, by rw [List.map_append]; rfl⟩ ((r0.mono (aM.hide s1)).append (.cons r1' .nil))
    refine q _ _ ⟨w1, fun b v hb => ?_, m.x0, fun n2 c2 ns2 xs2 e4 => ?_⟩
    ·have hb' : b ≠ x := fun z => by rw [z, eG (by simp)] at hb; cases hb
     rw [aU hb']
     exact m1.sm b v hb
    ·have hlt : 0 < st.length := (List.getElem?_eq_some_iff.mp e1).1
     rw [List.getElem?_set, if_pos rfl, if_pos hlt] at e4
     cases e4
     refine ⟨hx, fun C2 dx2 fs2 h5 Z hZ => ?_⟩
     rw [bY] at h5
     cases h5
     rw [List.map_append]
     have hZ0 : Own (x :: Z) H0 := fun a ha => (List.mem_cons.mp ha).elim (fun z => by rw [z]; exact m.x0) (hZ a)
     have r2 : bA X.K (hide (x :: Z) H1) (xs ++ [d]) (fs.map (·.2) ++ [w]) := ((hfr _ _ _ h1 _ hZ0).mono (aM.hide s1)).append (.cons (r1 _ (m.own hZ0)) .nil)
     rw [<- gW (o := .ins C' dx (fs ++ [(Str.ofString f', w)])) mem_cons_self] at r2
     exact r2.mono (dR fun a ha => mem_cons_of_mem _ ha)
  ·cases h3
end
def aLb (K : Frag) (c : String) (np : Nat) (p : List D -> R D) : Sp := fun vs H Q E => ∃ x ws A C dx ds, vs = .ref x :: ws /\ H x = some (.ins C dx []) /\ nsIn K mainGlobals (Str.ofString c) = some (some (.ref C)) /\ Own A H /\ x ∉ A /\ bA K (hide [x] H) ds ws /\ ds.length = np /\ (match p ds with
 | .ok d => ∀ H', aM (hide [x] H) H' -> Rep K (hide A H') d (.ref x) -> Q .non H'
 | .exc e => ∀ C c bm H', e = .exn c [] [] -> ExcAt K c C bm -> aM (hide [x] H) H' -> E (.ref C) none H'
 | .bad => False)
theorem aOm {K : Frag}   {x : Str} {st : Stmt} {f : Addr}   {k : Nat}  (F : FunD K x qual st dV f fd) (S : FnScope N ps (aL st)) (c : String) (np n : Nat) (bd : Bd) (hnp : ps.length = np + 1) (hn : N.length = n)
  (hb : ∀ (cdv : Value) (A : Around) (outer : List Env) (s : Shared) (H : Hp) (E : XK) (x : Addr) (W : XW), Room k (A.deeper (envOfC qual (aL st) s.heap.objs.size f cdv)) ->
   qN (uM (CX1 P w) P w K mg base N qual (aL st) f cdv A outer s H E) W -> PSs (uM (CX1 P w) P w K mg base N qual (aL st) f cdv A outer s H E) (gK st) (tM K H x W bd)) : FnOk P w K mg base (CX1 P w) (k + 1) f fd ps (aLb K c np (rZ c np n bd)) := by
 obtain ⟨oc, od, kV, doc, pm, an, cdv, ct, osl, rfl, lk, hcd⟩ := F.ex
 refine aIf lk hcd S (fun vs H Q E h => ?_) fun A outer s H vs Q E hr h => ?_
 ·obtain ⟨y, ws, A, C, dx, ds, rfl, _, _, _, _, r, hl, _⟩ := h
  rw [length_cons, r.length, hl, hnp]
 ·obtain ⟨y, ws, A', C, dx, ds, rfl, hy, hns, own, hyA, r, hl, q⟩ := h
  let W : XW := fun x _ H' => ∀ C c bm, x = .exn c [] [] -> ExcAt K c C bm -> E (.ref C) none H'
  refine ⟨tM K H y W bd, hb cdv A outer s H E y W hr ?_, ?_⟩
  ·intro pins σ H1 s1 ea C H' s' I h1 h2 h3 h4 h5 ⟨c, bm, hc, hw⟩
   exact aBy pins σ H1 s1 ea C H' s' I h1 h2 h3 h4 h5 (hw C c bm rfl hc)
  ·have rs := aL0 (N := N) (A := []) (c := c) (fun _ h => nomatch h) (by simp) hy hns r
   have hnb : rZ c np n bd ds ≠ .bad := fun z => by rw [z] at q; exact q
   rw [<- aFd hnb y] at q
   unfold zU at q
   rw [aG hl] at q
   rw [hl, hn] at rs
   refine ⟨_, ⟨rs, aY _ _, by rw [hy]; rfl, fun n' c' ns xs e => ?_⟩, ?_⟩
   ·simp at e
    obtain ⟨⟨rfl, rfl, rfl⟩, rfl⟩ := e
    refine ⟨rfl, fun C2 dx2 fs2 h5 Z _ => ?_⟩
    rw [hy] at h5; cases h5
    exact .nil
   ·generalize hst : (some (Sl.o (.i y c []) []) :: (ds.map (fun d => some (Sl.v d)) ++ List.replicate (n - np - 1) none) : PSt) = s0 at q
    cases hfl : bd s0 with
    | bad => rw [hfl] at q; exact q
    | exc e =>
     rw [hfl] at q
     exact fun σ' H' sm C c bm e1 hc => q C c bm H' e1 hc sm
    | ok fl =>
     rw [hfl] at q
     cases fl with
     | nx s1 =>
      intro σ1 H1 m1
      have q' : (match (match (s1[0]? : Option (Option Sl)) with | some (some (.o (.i y' c' ns) xs)) => aH (y' = y) (R.ok (D.ins c' ns xs)) | _ => .bad) with
       | .ok d => ∀ H', aM (hide [y] H) H' -> Rep K (hide A' H') d (.ref y) -> Q .non H'
       | .exc e => ∀ C c bm H', e = .exn c [] [] -> ExcAt K c C bm -> aM (hide [y] H) H' -> E (.ref C) none H'
       | .bad => False) := q
      split at q'
      ·rename_i d hd
       split at hd
       ·rename_i y' c' ns xs e1
        obtain ⟨rfl, h4⟩ := aJ hd
        cases h4
        obtain ⟨a, o, vs, e2, mm, h5, ko, r5, _⟩ := m1.rs.lst 0 _ _ e1
        obtain ⟨hx, hfr⟩ := m1.fr _ _ _ _ e1
        rw [hx] at e2; cases e2
        obtain ⟨_, C2, dx2, fs2, rfl, k1, k2, rfl⟩ := ko
        exact q' H1 m1.sm (aEg.mpr ⟨y', C2, dx2, fs2, _, rfl, by rw [bI hyA]; exact h5, k1, k2, rfl, hfr _ _ _ h5 _ own⟩)
       ·cases hd
      ·rename_i e hd
       split at hd
       ·unfold aH at hd
        split at hd <;> cases hd
       ·cases hd
      ·exact q'.elim
     | rt d' => exact q
     | bk s1 => exact q
     | ct s1 => exact q
structure MakeOkX (P : Program) (w : World) (K : Frag) (mg : Str -> Option Value) (base : Heap) (c : String) (k np : Nat) (p : List D -> R D) : Prop where
 ex : ∃ (C fa : Addr) (fd : FuncData) (ps : List Str), ClsAt K c C /\ Mk K C fa /\ FnOk P w K mg base (CX1 P w) k fa fd ps (aLb K c np p) /\ Binds K fd ps [] /\ mg (Str.ofString c) = some (.ref C)
 len : ∀ ds, p ds ≠ .bad -> ds.length = np
theorem aLc (ds : List D) (h : rZ c np n bd ds ≠ .bad) : ds.length = np := by
 have e := aFd h 0
 by_cases hl : ds.length = np
 ·exact hl
 ·exact (h (by rw [<- e]; exact if_neg hl)).elim
theorem MakeOkX.of {K : Frag}   {f : Addr}   {k : Nat}     (hc : ClsAt K c C) (hm : Mk K C f) (F : FnOk P w K mg base (CX1 P w) k f fd ps (aLb K c np (rZ c np n bd))) (b : Binds K fd ps []) (m : mg (Str.ofString c) = some (.ref C)) : MakeOkX P w K mg base c k np (rZ c np n bd) :=
 ⟨⟨C, f, fd, ps, hc, hm, F, b, m⟩, aLc⟩
def aTx (K : Frag) (c : String) (np : Nat) (p : List D -> R D) : Sp := fun vs H Q _ => ∃ x ws A C dx ds d, vs = .ref x :: ws /\ H x = some (.ins C dx []) /\ nsIn K mainGlobals (Str.ofString c) = some (some (.ref C)) /\ Own A H /\ x ∉ A /\ bA K (hide [x] H) ds ws /\ ds.length = np /\ p ds = .ok d /\
 ∀ H', aM (hide [x] H) H' -> Rep K (hide A H') d (.ref x) -> Q .non H'
theorem aOn {K : Frag}   {k : Nat}  {f : Addr}    (F : FnOk P w K mg base (CX1 P w) k f fd ps (aLb K c np p)) : FnOk P w K mg base CX0 k f fd ps (aTx K c np (pNX p)) := by
 have up : ∀ vs H Q E, aTx K c np (pNX p) vs H Q E -> aLb K c np p vs H Q E0 := by
  rintro vs H Q E ⟨x, ws, A, C, dx, ds, d, e, hx, hns, own, hxA, r, hl, hp, q⟩
  refine ⟨x, ws, A, C, dx, ds, e, hx, hns, own, hxA, r, hl, ?_⟩
  rw [R.nox_ok hp]
  exact q
 refine ⟨fun vs H Q E h => F.len vs H Q E0 (up vs H Q E h), fun A outer s H args us vs Q E hr e0 hb hv h => ?_⟩
 refine codeAny_mono (F.run A outer s H args us vs Q E0 hr e0 hb hv (up vs H Q E h)) fun r s' z => ?_
 cases r with
 | error e => obtain ⟨_, _, _, _, _, _, _, _, _, hE⟩ := z; exact hE.elim
 | ok fl => cases fl <;> exact z
theorem MakeOkX.calm {K : Frag}    {k : Nat}  (h : MakeOkX P w K mg base c k np p) : MakeOk P w K mg base c k np (pNX p) := by
 obtain ⟨C, fa, fd, ps, hc, hm, F, b, m⟩ := h.ex
 have G := aOn F
 have up : ∀ vs H Q E, spM K c np (pNX p) vs H Q E -> aTx K c np (pNX p) vs H Q E := by
  rintro vs H Q E ⟨x, ws, A, C, dx, ds, d, e, hx, hns, own, hxA, r, hl, hp, q⟩
  exact ⟨x, ws, A, C, dx, ds, d, e, hx, hns, own, hxA, r.mono (dR fun a ha => by rw [List.mem_singleton.mp ha]; exact mem_cons_self), hl, hp, q⟩
 refine ⟨⟨C, fa, fd, ps, hc, hm, ⟨fun vs H Q E h => G.len vs H Q E (up vs H Q E h), fun A outer s H args us vs Q E hr e0 hb hv h => G.run A outer s H args us vs Q E hr e0 hb hv (up vs H Q E h)⟩, b, m⟩, fun ds d e => h.len ds fun z => ?_⟩
 rw [R.nox_ok e] at z
 cases z
section
theorem aLd {k : Nat}     {E : XK}  {σ : L2.St}   {Q : VK}  {dvs : List V} {ds : List Value} (M : Mk X.K C fa) (F : FnOk X.prog X.w X.K X.mg X.base CX k fa fd ps sp) (hr : Room (k + 1) X.A) (hb : Binds X.K fd ps ds) (hd : Vals dvs ds)
  (I : Inv X pins σ H s) (r : Vals vs us) (hx : ∀ H2 s2, Inv X pins σ H2 s2 -> ∀ e s', CX X.stack H2 s2 E e s' -> X.xe e s') (h : ∀ x dx, H x = none -> H dx = none -> dx ≠ x -> sp (.ref x :: (vs ++ dvs)) (upd (upd H dx (.own x)) x (.ins C dx [])) (fun v H2 => v = .non /\ Q (.ref x) H2) E) :
  wpAny (model X.prog X.w) X.A (call (.ref C) us) (EP X pins σ Q) X.xe s := by
 have hq := h (s.heap.objs.size + 1) s.heap.objs.size (I.hok.fresh (le_succ _)) (I.hok.fresh (Nat.le_refl _)) (Nat.ne_of_lt (Nat.lt_succ_self _))
 have I2 := Inv.made (C := C) I
 have r2 : Vals (V.ref (s.heap.objs.size + 1) :: (vs ++ dvs)) (Value.ref (s.heap.objs.size + 1) :: (us ++ ds)) := .cons rfl (r.append hd)
 have hl : (Value.ref (s.heap.objs.size + 1) :: us ++ ds).length = ps.length := by
  have e := r2.length
  rw [F.len _ _ _ _ hq] at e
  exact e.symm
 refine wpAny_call (aF4 (f := fa) I.kIn M.makes M.init (beq_iff_eq.mp M.fn) (codeAny_mono (F.run _ X.stack _ _ ⟨Value.ref (s.heap.objs.size + 1) :: us, []⟩ (Value.ref (s.heap.objs.size + 1) :: (us ++ ds)) _ _ E (hr.make C us [])
  (I2.env0.make C us []) (hb _ (Value.ref (s.heap.objs.size + 1) :: us) I2.kIn hl) r2 hq) fun r s' hq' => ?_))
 cases r with
 | error e => exact hx _ _ I2 e s' hq'
 | ok fl =>
  cases fl with
  | ret u =>
   obtain ⟨v, H', I3, rv, ev, q3⟩ := I2.after hq'
   subst ev
   exact ⟨rv, ⟨V.ref (s.heap.objs.size + 1), H', I3, rfl, q3⟩⟩
  | next => exact False.elim hq'
  | brk => exact False.elim hq'
  | cont => exact False.elim hq'
theorem aR4 {k : Nat}     (h : MakeOkX X.prog X.w X.K X.mg X.base c k np p) (hL : qN X W) (hr : Room j X.A) (hk : k + 1 <= j) (ha : PA X (e :: es) (tA X.K B r)) (hg : Gl X (Str.ofString c) := by rfl) (hdb : (Str.ofString c == ("__debug__" : Str)) = false := by decide)
  (he : starEach (e :: es) X.env = (false, eval e X.env) :: starEach es X.env := by rfl) (hpl : (backTo pos (starEach es X.env)).any (·.1) = false := by rfl) : PE X (.Call (.Name (Str.ofString c) p0) (e :: es) [] pos) (tIX X.K B W (gP p r)) := by
 obtain ⟨C, fa, fd, ps, hc, M, F, bd, hm⟩ := h.ex
 intro pins s σ H Q I ⟨A, st, rs, q⟩
 unfold gP at q
 cases hr' : r st with
 | exc x => rw [hr'] at q; exact q.elim
 | bad => rw [hr'] at q; exact q.elim
 | ok xs =>
  rw [hr'] at q
  refine wpAny_Call_Name_kw (qO I hg hm ?_ hdb)
  refine callWith_K (h₀ := X.base) I.ok.mod.kin M.kp (thn (ha pos pins s σ H (fun vs H1 => aM H H1 /\ bA X.K (hide (A ++ B) H1) xs vs) I ⟨A, st, xs, rs, hr', fun vs H1 s1 r1 => ⟨s1, r1⟩⟩) fun us s1 ⟨vs, H1, I1, rv, sm, rp⟩ => ⟨I1.kIn, ?_⟩) he hpl
  refine aLd (E := EW X W σ) (dvs := []) M F (hr.mono hk) bd .nil I1 rv (fun H2 s2 I2 e s' => aX4 hL I2 e s') fun x dx hx0 hdx hne => ?_
  have q' : (match p xs with
   | .ok d => ∀ v H', aM H H' -> Rep X.K (hide (A ++ B) H') d v -> Q v H'
   | .exc x => ∀ H', aM H H' -> W x σ H'
   | .bad => False) := q
  have w1 := rs.own.mono sm
  have e0 : ∀ b u, H1 b = some u -> upd (upd H1 dx (.own x)) x (.ins C dx []) b = some u := fun b u z => by
   rw [aU (aK z hx0), aU (aK z hdx)]; exact z
  have back : ∀ {H' : Hp}, aM (hide [x] (upd (upd H1 dx (.own x)) x (.ins C dx []))) H' -> aM H H' := fun sm2 b u z => by
   have z1 := sm _ _ z
   exact sm2 b u (by rw [bI (by simpa using aK z1 hx0)]; exact e0 b u z1)
  rw [append_nil]
  refine ⟨x, vs, A ++ B, C, dx, xs, rfl, bY, hc.ns, fun b hb => ?_, w1.free hx0, ?_, h.len xs fun z => ?_, ?_⟩
  ·obtain ⟨u, z⟩ := Option.isSome_iff_exists.mp (w1 b hb)
   rw [e0 b u z]; rfl
  ·refine rp.mono fun b u z => ?_
   have z1 := aY _ _ _ _ z
   rw [bI (by simpa using aK z1 hx0)]
   exact e0 b u z1
  ·rw [z] at q'; exact q'
  ·cases hp : p xs with
   | ok d => rw [hp] at q'; exact fun H' s' r' => ⟨rfl, q' _ H' (back s') r'⟩
   | exc y => rw [hp] at q'; exact fun C c bm H' e1 hc s' => ⟨C, c, bm, rfl, hc, by rw [<- e1]; exact q' H' (back s')⟩
   | bad => rw [hp] at q'; exact q'
end
end Pu
namespace Pu
open PySem PySem.Spec PyProof.Rows L2
section
variable {K : Frag}   {st : PSt} 
theorem aDj (s : aM H H') (hz : ∀ z ∈ Z, H z = none) : aM (hide (A ++ B) H) (hide (A ++ (Z ++ B)) H') := fun b o e => by
 have e1 := aY _ _ _ _ e
 have hb : b ∉ A ++ B := fun z => by rw [eG z] at e; cases e
 have hb2 : b ∉ A ++ (Z ++ B) := fun z => by
  rcases List.mem_append.mp z with z | z
  ·exact hb (List.mem_append_left _ z)
  ·rcases List.mem_append.mp z with z | z
   ·rw [hz b z] at e1; cases e1
   ·exact hb (List.mem_append_right _ z)
 rw [bI hb2]
 exact s _ _ e1
theorem RS.growS (r : RS K B A H st σ) (s : aM H H') (hz : ∀ z ∈ Z, H z = none) (hz' : ∀ z ∈ Z, (H' z).isSome = true) : RS K (Z ++ B) A H' st σ where
 len := r.len
 own := fun a ha => by
  rcases List.mem_append.mp ha with h | h
  ·exact (r.own.mono s) a (List.mem_append_left _ h)
  ·exact (List.mem_append.mp h).elim (hz' a) fun h => (r.own.mono s) a (List.mem_append_right _ h)
 dis := fun a ha hb => by
  rcases List.mem_append.mp hb with h | h
  ·have := r.own a (List.mem_append_left _ ha)
   rw [hz a h] at this; cases this
  ·exact r.dis a ha h
 val := fun i d e => let ⟨v, e1, q⟩ := r.val i d e; ⟨v, e1, q.mono (aDj s hz)⟩
 lst := fun i k xs e => let ⟨a, o, vs, e1, m, h, ko, q, u⟩ := r.lst i k xs e; ⟨a, o, vs, e1, m, s _ _ h, ko, q.mono (aDj s hz), u⟩
theorem RS.forget (r : RS K B A H st σ) (i : Nat) (v : Option V) : RS K B A H (st.set i none) (σ.set i v) := by
 have ne : ∀ (j : Nat) (x : Sl), (st.set i none)[j]? = some (some x) -> j ≠ i /\ st[j]? = some (some x) := fun j x e => by
  rw [List.getElem?_set] at e
  by_cases h : i = j
  ·rw [if_pos h] at e; split at e <;> cases e
  ·rw [if_neg h] at e; exact ⟨Ne.symm h, e⟩
 refine ⟨by rw [length_set, length_set, r.len], r.own, r.dis, fun j d e => ?_, fun j k xs e => ?_⟩
 ·obtain ⟨h1, h2⟩ := ne j _ e
  rw [List.getElem?_set_ne (Ne.symm h1)]
  exact r.val j d h2
 ·obtain ⟨h1, h2⟩ := ne j _ e
  rw [List.getElem?_set_ne (Ne.symm h1)]
  obtain ⟨l, o, vs, e1, e2, e3, e4, e5, e6⟩ := r.lst j k xs h2
  refine ⟨l, o, vs, e1, e2, e3, e4, e5, fun j' k' ys e7 e8 => ?_⟩
  obtain ⟨h3, h4⟩ := ne j' _ e7
  rw [List.getElem?_set_ne (Ne.symm h3)] at e8
  exact e6 j' k' ys h4 e8
theorem aTy {l : List α}  {x : α} (h : l[i]? = some x) : l.set i x = l := by
 apply List.ext_getElem?
 intro k
 rw [List.getElem?_set]
 by_cases hk : i = k
 ·subst hk; rw [if_pos rfl, if_pos (List.getElem?_eq_some_iff.mp h).1]; exact h.symm
 ·rw [if_neg hk]
theorem NS.look {P : Addr} {ps : List Addr}  (n : NS K B A Z H st σ i P ps xss) : RS K B A H (zV i xss st) σ := by
 have zo : ∀ z ∈ Z, z ∉ A ++ B := fun z hz hm => (List.mem_append.mp hm).elim (fun y => n.rs.dis z y (List.mem_append_left _ hz)) (n.zb z hz)
 have m : ∀ a ∈ A ++ B, a ∈ A ++ (Z ++ B) := fun a h => (List.mem_append.mp h).elim (List.mem_append_left _) fun z => List.mem_append_right _ (List.mem_append_right _ z)
 have reps : ∀ (xss : List (List D)) (ps : List Addr), (∀ p ∈ ps, p ∈ Z) -> Inn K (hide (A ++ (Z ++ B)) H) H xss ps -> bA K (hide (A ++ B) H) (xss.map D.lst) (ps.map V.ref) := by
  intro xss
  induction xss with
  | nil => intro ps _ h; rw [show ps = [] from h]; exact .nil
  | cons xs xss ih =>
   intro ps hz h
   obtain ⟨p, r, vs, rfl, h1, h2, h3⟩ := h
   exact .cons (bG.mpr ⟨p, vs, rfl, SqL.of (by rw [bI (zo p (hz p mem_cons_self))]; exact h1), h2.mono (dR m)⟩) (ih r (fun p hp => hz p (mem_cons_of_mem _ hp)) h3)
 have rp : Rep K (hide (A ++ B) H) (.lst (xss.map D.lst)) (.ref P) := bG.mpr ⟨P, _, rfl, SqL.of (by rw [bI (zo P n.zp)]; exact n.out), reps xss ps n.zs n.inn⟩
 have rs := n.rs.less.set i rp
 rw [aTy n.at_] at rs
 exact rs
end
section
variable       {rest : List Stmt}   
end
section
variable    {iter : Expr} {pl : Pos}  {r : Str} {rest : List Stmt}  
theorem aOo (j : Nat) {x : Str}  (S : CScope X scope [j]) (hi : L2.PI X (.Name r p2) iter (tIt X.K B (itE f))) (hg : ∀ (C : Addr) (s₀ : Shared) (H₀ : Hp) (fp : List Addr), PG (bR X scope C s₀ H₀ fp) (.Name r p2) (tgJ j))
  (he : ∀ (C : Addr) (s₀ : Shared) (H₀ : Hp) (fp : List Addr), PE (bR X scope C s₀ H₀ fp) (.Call (.Name "list" p0) [.Name r p1] [] pl) (teL X.K j)) (hc : X.calm = true) (hN : X.N.Nodup) (hi' : X.N[i]? = some x) (hx : Loc X.env.scope x)
  (hsw : swapsWith (.ListComp (.Call (.Name "list" p0) [.Name r p1] [] pl) [⟨.Name r p2, iter, [], 0⟩] scope pos) (some (.Name x px)) spos.line X.env = pure true)
  (hf : X.fn x = true \/ X.env.scope.names.lookup x = some .local) (hj : j < X.N.length) (hs : ∀ x, foldedSetIterable iter X.env x = pure x) :
  PS X (.Assign [.Name x px] (.ListComp (.Call (.Name "list" p0) [.Name r p1] [] pl) [⟨.Name r p2, iter, [], 0⟩] scope pos) spos) (fun Dn σ H => tC X.K B f σ H fun v H' => Dn.nx (σ.set i (some v)) H') := by
 intro pins s σ H Dn I h
 obtain ⟨A, st, d, xs, rs, hd, h2, q⟩ := h
 obtain ⟨rfl, hl, ha⟩ := zO h2
 rw [exec_Assign_Name_used _ _ _ _ hsw]
 refine wpAny_bind (wpAny_standAt (wpAny_bind ?_))
 show wpAny _ X.A (do let _ <- comprehension (.ListComp (.Call (.Name "list" p0) [.Name r p1] [] pl) [⟨.Name r p2, iter, [], 0⟩] scope pos) scope X.env _ (newList []) false (eval iter X.env) (some (assign (.Name x px) X.env))) _ _ s
 refine wpAny_bind (wpAny_mono (Q := fun _ s' => SP X pins Dn .next s') ?_ (fun _ s' hq => wpAny_pure (wpAny_pure hq)) fun _ _ e => e)
 exact uK (use := some (assign (.Name x px) X.env)) (Qf := fun _ s' => SP X pins Dn .next s') (Q := fun v H' => Dn.nx (σ.set i (some v)) H') (tt := rD) (te := teL X.K j) (rest := fun env it p => eval (.Call (.Name "list" p0) [.Name r p1] [] pl) env >>= fun x => call (.builtin "list.append") [p, x] >>= fun _ => again (.compLoop (.ListComp (.Call (.Name "list" p0) [.Name r p1] [] pl) [⟨.Name r p2, iter, [], 0⟩] scope pos) 0 it p env)) S hc hi (fun C s₀ H₀ fp => hg C s₀ H₀ fp) (fun _ _ _ => nY)
  (fun C s₀ H₀ fp it p s Q h => aQj (Y := bR X scope C s₀ H₀ fp) h) (fun C s₀ H₀ fp it p τ H s pins vs N Q I h q => aJ6 (Y := bR X scope C s₀ H₀ fp) rfl (he C s₀ H₀ fp) τ H s pins vs N Q I h (fun Q Q' m h => aGh Q Q' m h) q) hs I
  (aOh rs (by rw [I.len]; exact hj) (by unfold itE; rw [hd]; rfl) hl ha q) fun C p H5 s5 m5 s3 H3 fp τ hC I3 hfp I5 hn5 q5 => zK hN hi' hx hf hC I3 hfp I5 hn5 fun s' I' => ⟨_, _, I', q5⟩
theorem aDk {sm : Stmt} (hr : PSs X rest (tN X.K B i nb)) (hi' : X.N[i]? = some x) (hp : PS X sm (fun Dn σ H => tC X.K B f σ H fun v H' => Dn.nx (σ.set i (some v)) H')) : PSs X (sm :: rest) (tS X.K B (vG i f nb)) := by
 rintro pins s σ H Dn I ⟨A, st, r, rs, hr', p⟩
 refine pR hp hr pins s σ H Dn I ?_
 obtain ⟨d, hd, h1⟩ := R.ok_of hr'
 obtain ⟨d2, hd2, h2⟩ := R.ok_of h1
 obtain ⟨r1, h3, h4⟩ := R.ok_of h2
 obtain ⟨xs, rfl⟩ := aC5 hd2
 refine ⟨A, st, d, xs, rs, hd, hd2, fun P ps H' sm fr nd hP inn => ?_⟩
 have hlen : i < σ.length := by
  rw [I.len]
  exact (List.getElem?_eq_some_iff.mp hi').1
 have inS : ∀ z ∈ P :: ps, (H' z).isSome = true := fun z hz => by
  rcases List.mem_cons.mp hz with rfl | hz
  ·rw [hP]; rfl
  ·obtain ⟨k, hk⟩ := List.mem_iff_getElem?.mp hz
   have hkl : k < (xs.map unL).length := by rw [<- inn.len]; exact (List.getElem?_eq_some_iff.mp hk).1
   obtain ⟨p', vs', e1, e2, _⟩ := inn.get (List.getElem?_eq_getElem hkl)
   rw [hk] at e1; cases e1
   rw [e2]; rfl
 have g4 := (rs.growS (Z := P :: ps) sm fr inS).forget i (some (.ref P))
 have N0 : NS X.K B A (P :: ps) H' (st.set i none) (σ.set i (some (.ref P))) i P ps (xs.map unL) := by
  refine ⟨g4, ?_, ?_, hP, inn.mono aAs fun _ _ _ e => e, fun z hz hb => ?_, mem_cons_self, fun p hp => mem_cons_of_mem _ hp, nd⟩
  ·rw [List.getElem?_set, if_pos rfl, if_pos (by rw [rs.len]; exact hlen)]
  ·rw [List.getElem?_set, if_pos rfl, if_pos hlen]
  ·have := rs.own z (List.mem_append_right _ hb)
   rw [fr z hz] at this; cases this
 have lN : aM (hide A H) (hide ((P :: ps) ++ A) H') := fun b o e => by
  have e1 := aY _ _ _ _ e
  have hb : b ∉ A := fun z => by rw [eG z] at e; cases e
  have hz : b ∉ P :: ps := fun z => by rw [fr b z] at e1; cases e1
  rw [bI fun z => (List.mem_append.mp z).elim hz hb]
  exact sm _ _ e1
 refine ⟨A, P :: ps, st.set i none, P, ps, xs.map unL, r1, N0, h3, ?_⟩
 cases r1 with
 | rt d =>
  cases h4
  exact fun A' v H' l rv => p A' v H' (fun b o e => dR (A' := A') (fun a ha => List.mem_append_right _ ha) b o (l b o (lN b o e))) rv
 | nx x s => cases h4
theorem aR5 (j : Nat) {x : Str}  (hr : PSs X rest (tN X.K B i nb)) (S : CScope X scope [j]) (hi : L2.PI X (.Name r p2) iter (tIt X.K B (itE f))) (hg : ∀ (C : Addr) (s₀ : Shared) (H₀ : Hp) (fp : List Addr), PG (bR X scope C s₀ H₀ fp) (.Name r p2) (tgJ j))
  (he : ∀ (C : Addr) (s₀ : Shared) (H₀ : Hp) (fp : List Addr), PE (bR X scope C s₀ H₀ fp) (.Call (.Name "list" p0) [.Name r p1] [] pl) (teL X.K j)) (hc : X.calm = true) (hN : X.N.Nodup) (hi' : X.N[i]? = some x := by rfl) (hx : Loc X.env.scope x := by first | exact Or.inl rfl | exact Or.inr rfl)
  (hsw : swapsWith (.ListComp (.Call (.Name "list" p0) [.Name r p1] [] pl) [⟨.Name r p2, iter, [], 0⟩] scope pos) (some (.Name x px)) spos.line X.env = pure true := by rfl)
  (hf : X.fn x = true \/ X.env.scope.names.lookup x = some .local := by first | exact .inl rfl | exact .inr rfl | assumption) (hj : decide (j < X.N.length) = true := by rfl) (hs : ∀ x, foldedSetIterable iter X.env x = pure x := by intro _; rfl) :
  PSs X (.Assign [.Name x px] (.ListComp (.Call (.Name "list" p0) [.Name r p1] [] pl) [⟨.Name r p2, iter, [], 0⟩] scope pos) spos :: rest) (tS X.K B (vG i f nb)) := aDk hr hi' (aOo j S hi hg he hc hN hi' hx hsw hf (of_decide_eq_true hj) hs)
end
end Pu
namespace Pu
open PySem PySem.Spec PyProof.Rows L2
open Builtin
section
variable {prog : Program} {w : World} {A : Around} {E : Value -> Shared -> Prop} {s : Shared}
variable {z TI TO i1 i2 l : Addr} {fp : List Addr} {n k1 k2 : Nat} {P : Nat -> Value -> Prop} {St : Nat -> Heap -> Prop} {ys : Array Value} {y a b : Value}
structure ZApart (z TI TO i1 i2 l : Addr) (fp : List Addr) : Prop where
 TIz : TI ≠ z
 TOz : TO ≠ z
 i1z : i1 ≠ z
 i2z : i2 ≠ z
 TITO : TI ≠ TO
 TIi1 : TI ≠ i1
 TIi2 : TI ≠ i2
 TOi1 : TO ≠ i1
 TOi2 : TO ≠ i2
 i12 : i1 ≠ i2
 lz : l ≠ z
 lTO : l ≠ TO
 li1 : l ≠ i1
 li2 : l ≠ i2
 zf : z ∉ fp
 Tf : TO ∉ fp
 i2f : i2 ∉ fp
theorem aHz {n l : Nat} (h : l < n) : ZApart (n + 4) (n + 2) (n + 3) n (n + 1) l [n] := by
 constructor
 ·show n + 2 ≠ n + 4; omega
 ·show n + 3 ≠ n + 4; omega
 ·show n ≠ n + 4; omega
 ·show n + 1 ≠ n + 4; omega
 ·show n + 2 ≠ n + 3; omega
 ·show n + 2 ≠ n; omega
 ·show n + 2 ≠ n + 1; omega
 ·show n + 3 ≠ n; omega
 ·show n + 3 ≠ n + 1; omega
 ·show n ≠ n + 1; omega
 ·show l ≠ n + 4; omega
 ·show l ≠ n + 3; omega
 ·show l ≠ n; omega
 ·show l ≠ n + 1; omega
 ·intro z
  have : n + 4 = n := List.mem_singleton.mp z
  omega
 ·intro z
  have : n + 3 = n := List.mem_singleton.mp z
  omega
 ·intro z
  have : n + 1 = n := List.mem_singleton.mp z
  omega
theorem aOp (D1 : Draws prog w A i1 fp n P St) (D : ZApart z TI TO i1 i2 l fp)
  (hz : IsZip s.heap z TI TO .none) (hTI : IsPair s.heap TI (.ref i1) (.ref i2)) (hTO : IsPair s.heap TO a b)
  (h1 : St k1 s.heap) (hk1 : k1 < n) (h2 : s.heap.IsListIter i2 l k2) (hl : s.heap.IsList l ys) (hy : ys[k2]? = some y) {Q : Value -> Shared -> Prop}
  (hQ : ∀ h' tk x, P k1 x -> IsZip h' z TI TO (rawInt s.heap.objs.size) -> IsPair h' TO x y -> St (k1 + 1) h' -> h'.IsListIter i2 l (k2 + 1) -> IsPair h' s.heap.objs.size x y -> h'.objs.size = s.heap.objs.size + 1 ->
   (∀ c o, c ≠ z -> c ≠ TO -> c ≠ i1 -> c ≠ i2 -> s.heap.get? c = some o -> h'.get? c = some o) -> Q (.ref s.heap.objs.size) { s with heap := h', toks := tk }) :
  wpAny (model prog w) A (Builtin.«zip.__next__» ⟨[.ref z], []⟩) (fun fin s' => ∃ v, fin = .done (.ret v) /\ Q v s') E s := by
 show wpAny _ _ (field (.ref z) 2 >>= _) _ _ _
 refine wpAny_bind (wpAny_field hz rfl (x := .bool false) rfl ?_)
 show wpAny _ _ (field (.ref z) 3 >>= _) _ _ _
 refine wpAny_bind (wpAny_field hz rfl (x := .ref TI) rfl ?_)
 refine wpAny_bind (wpAny_seqItems hTI rfl ?_)
 show wpAny _ _ (Builtin.SmallTypes.ownedTupleIsFree (.ref z) >>= _) _ _ _
 refine wpAny_bind ?_
 unfold Builtin.SmallTypes.ownedTupleIsFree
 refine wpAny_bind (wpAny_field hz rfl (x := .none) rfl (wpAny_pure ?_))
 simp only [if_true]
 refine wpAny_bind (wpAny_rule ?_)
 refine wpAny_bind (wpAny_field hz rfl (x := .ref TO) rfl ?_)
 refine wpAny_bind (wpAny_setField_rec hz (by simp) fun h₁ hz₁ hs₁ => ?_)
 replace hz₁ : IsZip h₁ z TI TO .ellipsis := hz₁
 refine wpAny_bind ?_
 simp only [List.zipIdx_cons, List.zipIdx_nil, forIn_cons, forIn_nil]
 refine wpAny_bind (wpAny_bind (wpAny_onRaise ?_))
 show wpAny _ _ (Builtin.SmallTypes.nextOf (.ref i1) >>= _) _ _ _
 refine wpAny_bind (D1.item k1 { s with heap := h₁ } _ _ hk1 (D1.frame k1 s.heap h₁ h1 fun b hb o e => hs₁.extBut _ _ (fun x => D.zf (x ▸ hb)) e) fun x h₂ tk hP h1₂ hs₂ => wpAny_pure ?_)
 have hs₂ : Heap.SameBut i1 h₁ h₂ := hs₂
 have hTO₂ : IsPair h₂ TO a b := hs₂.extBut _ _ D.TOi1 (hs₁.extBut _ _ D.TOz hTO)
 refine wpAny_bind (wpAny_seqItems hTO₂ rfl ?_)
 refine wpAny_bind (wpAny_updateSeq_pair hTO₂ fun h₃ hTO₃ hs₃ => ?_)
 replace hTO₃ : IsPair h₃ TO x b := hTO₃
 refine wpAny_bind (wpAny_letGo (wpAny_pure ?_))
 refine wpAny_bind (wpAny_bind (wpAny_onRaise ?_))
 show wpAny _ _ (Builtin.SmallTypes.nextOf (.ref i2) >>= _) _ _ _
 refine wpAny_bind (wpAny_nextOf_list_item (((h2.extBut hs₁.extBut D.i2z).extBut hs₂.extBut D.i12.symm).extBut hs₃.extBut D.TOi2.symm)
  (((hl.extBut hs₁.extBut D.lz).extBut hs₂.extBut D.li1).extBut hs₃.extBut D.lTO) hy fun h₄ h2₄ hs₄ => wpAny_pure ?_)
 have hTO₄ : IsPair h₄ TO x b := hs₄.extBut _ _ D.TOi2 hTO₃
 refine wpAny_bind (wpAny_seqItems hTO₄ rfl ?_)
 refine wpAny_bind (wpAny_updateSeq_pair hTO₄ fun h₅ hTO₅ hs₅ => ?_)
 replace hTO₅ : IsPair h₅ TO x y := hTO₅
 refine wpAny_bind (wpAny_letGo (wpAny_pure (wpAny_pure ?_)))
 refine wpAny_bind (wpAny_seqItems hTO₅ rfl ?_)
 refine wpAny_bind (wpAny_newTuple ?_)
 have hs₃' : Heap.SameBut TO h₂ h₃ := hs₃
 have hs₄' : Heap.SameBut i2 h₃ h₄ := hs₄
 have hs₅' : Heap.SameBut TO h₄ h₅ := hs₅
 have hsz : h₅.objs.size = s.heap.objs.size := by rw [hs₅'.1, hs₄'.1, hs₃'.1, hs₂.1, hs₁.1]
 have hz₅ : IsZip h₅ z TI TO .ellipsis := hs₅'.extBut _ _ D.TOz.symm (hs₄'.extBut _ _ D.i2z.symm (hs₃'.extBut _ _ D.TOz.symm (hs₂.extBut _ _ D.i1z.symm hz₁)))
 have hk₅ : ∀ c o, c ≠ z -> c ≠ TO -> c ≠ i1 -> c ≠ i2 -> s.heap.get? c = some o -> h₅.get? c = some o := fun c o c1 c2 c3 c4 e =>
  hs₅'.extBut _ _ c2 (hs₄'.extBut _ _ c4 (hs₃'.extBut _ _ c2 (hs₂.extBut _ _ c3 (hs₁.extBut _ _ c1 e))))
 have h1₅ : St (k1 + 1) h₅ := D1.frame _ h₂ h₅ h1₂ fun b hb o e => hs₅'.extBut _ _ (fun x => D.Tf (x ▸ hb)) (hs₄'.extBut _ _ (fun x => D.i2f (x ▸ hb)) (hs₃'.extBut _ _ (fun x => D.Tf (x ▸ hb)) e))
 have h2₅ : h₅.IsListIter i2 l (k2 + 1) := h2₄.extBut hs₅'.extBut D.TOi2.symm
 have hzlt : z < h₅.objs.size := Heap.lt_size hz₅
 show wpAny _ _ (Builtin.SmallTypes.ownedTupleHandOut (.ref z) (.ref h₅.objs.size) >>= _) _ _ _
 refine wpAny_bind ?_
 unfold Builtin.SmallTypes.ownedTupleHandOut
 have hz₆ : IsZip (h₅.push { cls := .type "tuple", data := .seq #[x, y] }) z TI TO .ellipsis := Heap.get?_push_of_some _ hz₅
 refine wpAny_bind (wpAny_setField_rec hz₆ (by simp) fun h₇ hz₇ hs₇ => ?_)
 replace hz₇ : IsZip h₇ z TI TO (rawInt h₅.objs.size) := hz₇
 refine wpAny_setField_rec hz₇ (by simp) fun h₈ hz₈ hs₈ => ?_
 replace hz₈ : IsZip h₈ z TI TO (rawInt h₅.objs.size) := hz₈
 have up : ∀ c o, c ≠ z -> h₅.get? c = some o -> h₈.get? c = some o := fun c o c1 e => hs₈.extBut _ _ c1 (hs₇.extBut _ _ c1 (Heap.get?_push_of_some _ e))
 have hT₈ : IsPair h₈ h₅.objs.size x y := hs₈.extBut _ _ (Nat.ne_of_gt hzlt) (hs₇.extBut _ _ (Nat.ne_of_gt hzlt) (Heap.get?_push_size _ rfl))
 have hz8 : h₈.objs.size = h₅.objs.size + 1 := by rw [hs₈.1, hs₇.1, Heap.size_push]
 rw [hsz] at hz₈ hT₈ hz8
 refine wpAny_pure ⟨_, rfl, ?_⟩
 show Q (.ref h₅.objs.size) _
 rw [hsz]
 exact hQ h₈ _ x hP hz₈ (up _ _ D.TOz hTO₅) (D1.frame _ h₅ h₈ h1₅ fun b hb o e => up b o (fun x => D.zf (x ▸ hb)) e) (h2₅.at fun o e => up _ o D.i2z e) hT₈ hz8 fun c o c1 c2 c3 c4 e => up c o c1 (hk₅ c o c1 c2 c3 c4 e)
theorem aR6 (D1 : Draws prog w A i1 fp n P St) (hh : A.handled = none) (D : ZApart z TI TO i1 i2 l fp)
  (hz : IsZip s.heap z TI TO .none) (hTI : IsPair s.heap TI (.ref i1) (.ref i2)) (hTO : IsPair s.heap TO a b)
  (h1 : St k1 s.heap) (h2 : s.heap.IsListIter i2 l k2) (hl : s.heap.IsList l ys)
  (hend : (∀ (s : Shared) (Q : Value -> Shared -> Prop) (E : Value -> Shared -> Prop), St k1 s.heap -> (∀ h' e, Heap.ExtBut i1 s.heap h' -> (∃ o, h'.get? e = some o /\ o.cls = .type "StopIteration") -> E (.ref e) { s with heap := h' }) -> wpAny (model prog w) A (Builtin.SmallTypes.nextOf (.ref i1)) Q E s) \/ (k1 < n /\ ys[k2]? = none)) {Q : Fin -> Shared -> Prop}
  (hE : ∀ h' e tk, (∀ c o, c ≠ z -> c ≠ TO -> c ≠ i1 -> c ≠ i2 -> s.heap.get? c = some o -> h'.get? c = some o) -> (∃ o, h'.get? e = some o /\ o.cls = .type "StopIteration") -> E (.ref e) { s with heap := h', toks := tk }) :
  wpAny (model prog w) A (Builtin.«zip.__next__» ⟨[.ref z], []⟩) Q E s := by
 show wpAny _ _ (field (.ref z) 2 >>= _) _ _ _
 refine wpAny_bind (wpAny_field hz rfl (x := .bool false) rfl ?_)
 show wpAny _ _ (field (.ref z) 3 >>= _) _ _ _
 refine wpAny_bind (wpAny_field hz rfl (x := .ref TI) rfl ?_)
 refine wpAny_bind (wpAny_seqItems hTI rfl ?_)
 show wpAny _ _ (Builtin.SmallTypes.ownedTupleIsFree (.ref z) >>= _) _ _ _
 refine wpAny_bind ?_
 unfold Builtin.SmallTypes.ownedTupleIsFree
 refine wpAny_bind (wpAny_field hz rfl (x := .none) rfl (wpAny_pure ?_))
 simp only [if_true]
 refine wpAny_bind (wpAny_rule ?_)
 refine wpAny_bind (wpAny_field hz rfl (x := .ref TO) rfl ?_)
 refine wpAny_bind (wpAny_setField_rec hz (by simp) fun h₁ hz₁ hs₁ => ?_)
 replace hz₁ : IsZip h₁ z TI TO .ellipsis := hz₁
 refine wpAny_bind ?_
 simp only [List.zipIdx_cons, List.zipIdx_nil, forIn_cons, forIn_nil]
 refine wpAny_bind (wpAny_bind (wpAny_onRaise ?_))
 show wpAny _ _ (Builtin.SmallTypes.nextOf (.ref i1) >>= _) _ _ _
 have fr1 : St k1 h₁ := D1.frame k1 s.heap h₁ h1 fun b hb o e => hs₁.extBut _ _ (fun x => D.zf (x ▸ hb)) e
 rcases hend with hend | ⟨hkn, hy⟩
 ·refine wpAny_bind (hend { s with heap := h₁ } _ _ fr1 fun h₂ e hs₂ he => ?_)
  have hs₂ : Heap.ExtBut i1 h₁ h₂ := hs₂
  obtain ⟨oe, hoe, hce⟩ := he
  have hz₂ : IsZip h₂ z TI TO .ellipsis := hs₂ _ _ D.i1z.symm hz₁
  have hez : e ≠ z := fun x => by subst x; rw [hz₂] at hoe; cases hoe; simp at hce
  refine wpAny_setField_rec hz₂ (by simp) fun h₃ _ hs₃ => hE h₃ e _ (fun c o c1 _ c3 _ x => hs₃.extBut _ _ c1 (hs₂ _ _ c3 (hs₁.extBut _ _ c1 x))) ⟨oe, hs₃.extBut _ _ hez hoe, hce⟩
 ·refine wpAny_bind (D1.item k1 { s with heap := h₁ } _ _ hkn fr1 fun x h₂ tk hP h1₂ hs₂ => wpAny_pure ?_)
  have hs₂ : Heap.SameBut i1 h₁ h₂ := hs₂
  have hTO₂ : IsPair h₂ TO a b := hs₂.extBut _ _ D.TOi1 (hs₁.extBut _ _ D.TOz hTO)
  refine wpAny_bind (wpAny_seqItems hTO₂ rfl ?_)
  refine wpAny_bind (wpAny_updateSeq_pair hTO₂ fun h₃ hTO₃ hs₃ => ?_)
  have hs₃' : Heap.SameBut TO h₂ h₃ := hs₃
  refine wpAny_bind (wpAny_letGo (wpAny_pure ?_))
  refine wpAny_bind (wpAny_bind (wpAny_onRaise ?_))
  show wpAny _ _ (Builtin.SmallTypes.nextOf (.ref i2) >>= _) _ _ _
  refine wpAny_bind (wpAny_nextOf_list_end hh (((h2.extBut hs₁.extBut D.i2z).extBut hs₂.extBut D.i12.symm).extBut hs₃'.extBut D.TOi2.symm)
   (((hl.extBut hs₁.extBut D.lz).extBut hs₂.extBut D.li1).extBut hs₃'.extBut D.lTO) hy fun h₄ e hs₄ he => ?_)
  have hs₄ : Heap.ExtBut i2 h₃ h₄ := hs₄
  obtain ⟨oe, hoe, hce⟩ := he
  have hz₄ : IsZip h₄ z TI TO .ellipsis := hs₄ _ _ D.i2z.symm (hs₃'.extBut _ _ D.TOz.symm (hs₂.extBut _ _ D.i1z.symm hz₁))
  have hez : e ≠ z := fun x => by subst x; rw [hz₄] at hoe; cases hoe; simp at hce
  refine wpAny_setField_rec hz₄ (by simp) fun h₅ _ hs₅ => hE h₅ e _ (fun c o c1 c2 c3 c4 x => hs₅.extBut _ _ c1 (hs₄ _ _ c4 (hs₃'.extBut _ _ c2 (hs₂.extBut _ _ c3 (hs₁.extBut _ _ c1 x))))) ⟨oe, hs₅.extBut _ _ hez hoe, hce⟩
end
section
variable   {A : Around}  
end
section
end
end Pu
namespace Pu
open PySem PySem.Spec PyProof.Rows L2
section
variable     {q : Pos}
end
end Pu
namespace Pu
open PySem PySem.Spec PyProof.Rows L2
section
theorem vals_ints : ∀ {l : List Int} {us : List Value}, Vals (l.map V.int) us -> ∀ (j : Nat) (h : j < us.length), ∃ i t, l[j]? = some i /\ us[j] = .int i t
 | [], us, r, j, h => by cases r; simp at h
 | i :: l, us, r, j, h => by
  cases r with
  | cons ra rb =>
   obtain ⟨t, rfl⟩ := ra
   cases j with
   | zero => exact ⟨i, t, rfl, rfl⟩
   | succ j =>
    obtain ⟨i', t', h1, h2⟩ := vals_ints rb j (by simpa using h)
    exact ⟨i', t', by simpa using h1, by simpa using h2⟩
end
end Pu
namespace Pu
open PySem PySem.Spec PyProof.Rows L2
section
open PySem.SeqAt
open PySem.AutoSeq1 (wpAny_loadPart')
open PySem.MeetsSeq PySem.MeetsSeq2 PySem.MeetsSeq3
inductive LexW (A : Around) (s : Shared) : List Value -> List Value -> Bool -> Prop where
 | nn : LexW A s [] [] true
 | nc {w : Value} {ws : List Value} : LexW A s [] (w :: ws) true
 | cn {v : Value} {vs : List Value} : LexW A s (v :: vs) [] false
 | eq {v w : Value} {vs ws : List Value} {b : Bool} : EqAt A s v w true -> LexW A s vs ws b -> LexW A s (v :: vs) (w :: ws) b
 | lt {v w : Value} {vs ws : List Value} {b : Bool} : EqAt A s v w false -> (∀ (prog : Program) (wd : World) (E Q : Value -> Shared -> Prop), Q (.bool b) s -> wpAny (model prog wd) A (richCompare .LtE v w) Q E s) -> LexW A s (v :: vs) (w :: ws) b
end
section
end
end Pu
namespace Pu
open PySem PySem.Spec PyProof.Rows L2
section
end
section
variable    {iter c : Expr}  {t : Tg}  {u : Ex}
end
end Pu
namespace Pu
open PySem PySem.Spec PyProof.Rows L2
section
end
end Pu
namespace Pu
open PySem PySem.Spec PyProof.Rows L2
section
end
end Pu
namespace Pu
section
open PySem PySem.Spec PyProof.Rows L2
theorem aJf {K : Frag} : zG K (rI0 fun i j => .bl (decide (i < j))) aMe := wX (g := fun i j => .bl (decide (i < j))) (fun _ _ _ => bK.mpr rfl) fun x y d e => by
 unfold aMe at e
 split at e
 ·cases e; exact ⟨_, _, rfl, rfl, rfl⟩
 ·cases e
theorem aOq {i j : Int} (c : (-18446744073709551616 < i /\ i < 18446744073709551616) \/ (-18446744073709551616 < j /\ j < 18446744073709551616)) : aGx i j := by
 unfold aGx
 omega
theorem tL (ha : PE X a (tP X.K B f)) (hb : PE X b (tP X.K B g)) : PE X (.BinOp a .Mult b pos) (tI X.K B (e2 sE f g)) := by
 refine aHs aLv ?_ ha hb
 intro A H x y d v u Q w rx ry e q
 unfold sE at e
 split at e
 ·obtain ⟨c, e⟩ := aJ e
  cases e
  exact ⟨_, _, rx.int, ry.int, aOq c, q _ H (aM.refl _) (aW.mpr rfl)⟩
 ·cases e
end
end Pu
namespace Pu
open PySem PySem.Spec PyProof.Rows L2
section
variable    {iter : Expr}  {t : Tg}  {h : Ex} {rest : List Stmt}  
end
end Pu
namespace Pu
open PySem PySem.Spec PyProof.Rows L2
section
variable   {σ : List (Option V)}   
end
section
variable        {rest : List Stmt}  
end
section
variable   {K : Frag}    {st : Stmt}  {f : Addr}   {k : Nat}
end
section
end
section
end
end Pu
namespace Pu
open PySem PySem.Spec PyProof.Rows L2 PySem.Calls Builtin Builtin.ObjectAttr
section
variable   {A : Around}  {R : Result -> Shared -> Prop}  {K : Frag} {x dx : Addr} {mA : Str -> Option Value}  {v : Value} {ox : Obj}
end
section
variable   {A : Around}  {hp : Heap} {gs : Array GenState} {dn : Drawn} {tn : Nat} {os : OsState}
variable {n0 q : Str} {N : Addr} {l0 l1 l2 : List Value} {z0 : Bool} {l3 : List Str} {l4 : List Value} {z1 : Bool} {z2 : Option Bool} {z3 : Option Addr} {k0 k1 k2 k3 k5 : Option Value} {B initId : String}
end
section
variable   {σ : List (Option V)}    {x dx : Addr}
end
section
variable   {value : Expr} {f : Str}  {ta tv : TE}
end
section
end
section
variable   {K : Frag}    {st : Stmt}  {f : Addr}   {k : Nat}
end
section
end
end Pu
namespace Pu
open PySem PySem.Spec PyProof.Rows L2
structure DA (K : Frag) (n : Str) (st : Stmt) : Prop where
 ex : ∃ (f : Addr) (fd : FuncData), nsIn K mainGlobals n = some (some (.ref f)) /\ FunD K n n st .none f fd
section
variable {P : Program} {w : World} {K : Frag} {h base : Heap} {mg : Str -> Option Value} {n : Str} {st : Stmt} {f : Addr} {ps : List Str} {k np m : Nat} {p : List D -> R D} {bd : Bd} {g : Ex}
theorem iH {od an : Option Addr}  {kV doc pm cdv ct : Value} (a : nsIn K mainGlobals n = some (some (.ref f))) (l : K.lookup f = some ⟨oc, od, .func (fnOf n n (nA st) (gK st) (aL st) .none kV doc pm an cdv ct), osl⟩)
  (c : codeIn K cdv n = true) (k : keepIn K (.ref f) = true) : DA K n st := ⟨⟨f, _, a, aEr l c k⟩⟩
structure Ct (P : Program) (w : World) (K : Frag) (mg : Str -> Option Value) (base h : Heap) : Prop where
 X : K.In h
 G : h.Ns mainGlobals mg
def Bn (n : Str) (st : Stmt) (ps : List Str) : Prop := ∀ (kV doc pm : Value) (an : Option Addr) (cdv ct : Value) (us : List Value), us.length = ps.length -> bindArgs (fnOf n n (nA st) (gK st) (aL st) .none kV doc pm an cdv ct) ⟨us, []⟩ = pure (ps.zip us)
theorem DA.use (D : DA K n st) (C : Ct P w K mg base h) (b : Bn n st ps) : ∃ (f : Addr) (fd : FuncData), FunD K n n st .none f fd /\ mg n = some (.ref f) /\ Binds K fd ps [] := by
 obtain ⟨f, fd, a, F⟩ := D.ex
 exact ⟨f, fd, F, mg_of C.X C.G a, F.binds0 b⟩
theorem DA.ok (D : DA K n st) (C : Ct P w K mg base h) (r : ∀ {f : Addr} {fd : FuncData}, FunD K n n st .none f fd -> FnOk P w K mg base CX0 k f fd ps (spI K np (fV np m bd))) (b : Bn n st ps) : DefOk P w K mg base n k np (fV np m bd) := by
 obtain ⟨f, fd, F, a, z⟩ := D.use C b
 exact .of (r F) a F.kp z aNp
theorem DA.okX (D : DA K n st) (C : Ct P w K mg base h) (r : ∀ {f : Addr} {fd : FuncData}, FunD K n n st .none f fd -> FnOk P w K mg base (CX1 P w) k f fd ps (spE K np (fV np m bd))) (b : Bn n st ps) : DefOkX P w K mg base n k np (fV np m bd) := by
 obtain ⟨f, fd, F, a, z⟩ := D.use C b
 exact .of (r F) a F.kp z
end
structure XA (K : Frag) (c : String) (C : Addr) (bmB : List Value) (newId : String) : Prop where
 a : nsIn K mainGlobals (Str.ofString c) = some (some (.ref C))
 q : excIn K C bmB newId = true
 g1 : findIn K (.ref C) "__getattribute__" = some (some (.builtin "BaseException.__getattribute__"))
 g6 : findIn K (.ref C) "__getattr__" = some none
 g7 : mroIn K C (.type "BaseException") = some true
 g2 : findIn K (.ref C) "__class__" = some (some (.builtin "object.__class__"))
 g5 : mroIn K C (.type "object") = some true
theorem XA.at {K : Frag}    {B initId : String} (Y : XA K c C bmB newId) (F : ExcBaseFacts B newId initId bmB) (g3 : specialIn K (.builtin "object.__class__") "__get__" = some (some (.builtin "getset_descriptor.__get__"))) (g4 : takesIn K (.builtin "object.__class__") = some true) : ∃ bm, ExcAt K c C bm := aOa F Y.a Y.q Y.g1 Y.g6 Y.g7 Y.g2 g3 g4 Y.g5
end Pu
namespace Pu
open PySem PySem.Spec PyProof.Rows L2
section
theorem aTz (ha : PA X es (tA X.K B r)) (hb : PE X b (tP X.K B g)) : PE X (.BinOp (.List es p1) .Mult b pos) (tI X.K B (aIj r g)) := by
 refine cW (aRe aSu (aH3 ha) hb) ?_
 rintro σ H Q ⟨A, st, d, rs, hd, q⟩
 obtain ⟨xs, hx, h2⟩ := R.ok_of hd
 obtain ⟨y, hy, h3⟩ := R.ok_of h2
 obtain ⟨j, rfl, h4⟩ := rU h3
 obtain ⟨⟨c0, c1, c2, c3⟩, h5⟩ := aJ h4
 cases h5
 refine ⟨A, st, xs, rs, hx, fun vs H1 s1 r1 => ⟨by rw [r1.length]; exact lim c0, fun p hp => ?_⟩⟩
 have s2 := s1.trans (dB (o := .lst vs) hp)
 refine ⟨A, st, _, rs.mono s2, hy, fun v H2 s3 r2 => ?_⟩
 refine ⟨p, j, vs, rfl, r2.int, s3 _ _ bY, by omega, by omega, by rw [r1.length]; exact lim c1, fun n hn => ?_⟩
 refine q _ _ (s2.trans (s3.trans (dB hn))) (gY (rs.own.mono (s2.trans s3)) hn ?_)
 exact ((r1.mono (aM.hide (dB hp))).mono (aM.hide s3)).rep j.toNat
end
end Pu
namespace Pu
open PySem PySem.Spec PyProof.Rows L2 PySem.SeqAt PySem.StrLaws
def mY (x y : List Nat) : List Nat -> Nat -> List Nat
 | [], _ => []
 | i :: l, fr => if (fr <= i /\ i + y.length <= x.length) /\ (x.drop i).take y.length = y then i :: mY x y l (i + y.length) else mY x y l fr
theorem aC7 (x y : List Nat) (lim : Nat) : ∀ (l : List Nat) (a : Array Nat) (fr : Nat), a.size + l.length <= lim -> (forIn l (a, fr) (occBody ⟨x.toArray⟩ ⟨y.toArray⟩ x.length lim)).run.fst.toList = a.toList ++ mY x y l fr
 | [], a, fr, _ => by unfold mY; rw [append_nil]; rfl
 | i :: l, a, fr, h => by
  rw [length_cons] at h
  rw [forIn_cons]
  unfold mY
  by_cases hc : (fr <= i /\ i + y.length <= x.length) /\ (x.drop i).take y.length = y
  ·rw [if_pos hc]
   have e2 : occBody ⟨x.toArray⟩ ⟨y.toArray⟩ x.length lim i (a, fr) = pure (ForInStep.yield (a.push i, i + y.length)) := by
    unfold occBody
    exact if_pos ⟨⟨⟨by show a.size < lim; omega, hc.1.1⟩, hc.1.2⟩, by rw [rE]; exact beq_iff_eq.mpr hc.2⟩
   rw [e2]
   show (forIn l (a.push i, i + y.length) (occBody ⟨x.toArray⟩ ⟨y.toArray⟩ x.length lim)).run.fst.toList = _
   rw [aC7 x y lim l _ _ (by rw [Array.size_push]; omega), Array.toList_push, List.append_assoc]
   rfl
  ·rw [if_neg hc]
   have e2 : occBody ⟨x.toArray⟩ ⟨y.toArray⟩ x.length lim i (a, fr) = pure (ForInStep.yield (a, fr)) := by
    unfold occBody
    exact if_neg fun z => hc ⟨⟨z.1.1.2, z.1.2⟩, by have := z.2; rw [rE] at this; exact beq_iff_eq.mp this⟩
   rw [e2]
   exact aC7 x y lim l a fr (by omega)
def uL (x : List Nat) (w : Nat) : Nat -> List Nat -> List (List Nat)
 | a, [] => [x.drop a]
 | a, c :: cs => ((x.drop a).take (c - a)) :: uL x w (c + w) cs
theorem aJg (x : List Nat) (i j : Nat) : Builtin.Str.strSub ⟨x.toArray⟩ i j = ⟨((x.drop i).take (j - i)).toArray⟩ := by
 unfold Builtin.Str.strSub
 congr 1
 apply ext'
 rw [toList_extract, List.extract_eq_take_drop]
theorem aDl (x : List Nat) (w : Nat) : ∀ (cs : List Nat) (a : Nat), ((a :: cs.map (· + w)).zip (cs ++ [x.length])).map (fun (p : Nat × Nat) => Builtin.Str.strSub ⟨x.toArray⟩ p.1 p.2) = (uL x w a cs).map fun z => (⟨z.toArray⟩ : Str)
 | [], a => by
  show [Builtin.Str.strSub _ a x.length] = [_]
  rw [aJg, take_of_length_le (by rw [length_drop]; exact Nat.le_refl _)]
 | c :: cs, a => by
  show Builtin.Str.strSub _ a c :: (((c + w) :: cs.map (· + w)).zip (cs ++ [x.length])).map _ = _
  rw [aDl x w cs (c + w), aJg]
  rfl
theorem xK (x y : List Nat) (hy : y ≠ []) : ∀ (r pre : List Nat) (fr : Nat), x = pre ++ r -> uL x y.length fr (mY x y (List.range' pre.length (r.length + 1)) fr) = bC y (fr - pre.length) ((x.drop fr).take (pre.length - fr)) r
 | [], pre, fr, e => by
  have hl : 0 < y.length := List.length_pos_iff.mpr hy
  have hx : x.length = pre.length := by rw [e, length_append]; rfl
  show uL x y.length fr (mY x y [pre.length] fr) = _
  unfold mY
  rw [if_neg (by omega)]
  unfold mY
  have : bC y (fr - pre.length) ((x.drop fr).take (pre.length - fr)) [] = [(x.drop fr).take (pre.length - fr)] := by cases fr - pre.length <;> rfl
  rw [this]
  show [x.drop fr] = _
  rw [take_of_length_le (by rw [length_drop]; omega)]
 | c :: r, pre, fr, e => by
  have hl : 0 < y.length := List.length_pos_iff.mpr hy
  have e' : x = (pre ++ [c]) ++ r := by rw [e, List.append_assoc]; rfl
  have hx : x.length = pre.length + r.length + 1 := by rw [e, length_append, length_cons]; omega
  have hd : x.drop pre.length = c :: r := by rw [e, List.drop_append_of_le_length (Nat.le_refl _), drop_length]; rfl
  have ih := fun fr' => xK x y hy r (pre ++ [c]) fr' e'
  rw [length_append, length_singleton] at ih
  have er : List.range' pre.length ((c :: r).length + 1) = pre.length :: List.range' (pre.length + 1) (r.length + 1) := rfl
  rw [er]
  unfold mY
  by_cases h1 : fr <= pre.length
  ·have z0 : fr - pre.length = 0 := by omega
   rw [z0]
   unfold bC
   rw [hd]
   by_cases h2 : (c :: r).take y.length = y
   ·have h3 : pre.length + y.length <= x.length := by
     have := congrArg List.length h2
     rw [length_take] at this
     rw [length_cons] at this
     omega
    rw [if_pos ⟨⟨h1, h3⟩, h2⟩, if_pos h2]
    show _ :: uL x y.length (pre.length + y.length) _ = _
    rw [ih]
    congr 2
    ·omega
    ·rw [show pre.length + 1 - (pre.length + y.length) = 0 by omega]; rfl
   ·rw [if_neg (fun z => h2 z.2), if_neg h2, ih]
    congr 1
    ·omega
    ·have e1 : pre.length + 1 - fr = (pre.length - fr) + 1 := by omega
     rw [e1, List.take_add_one]
     congr 1
     rw [List.getElem?_drop, show fr + (pre.length - fr) = pre.length by omega, e, List.getElem?_append_right (Nat.le_refl _), Nat.sub_self]
     rfl
  ·rw [if_neg (fun z => h1 z.1.1), ih]
   obtain ⟨k, hk⟩ : ∃ k, fr - pre.length = k + 1 := ⟨fr - pre.length - 1, by omega⟩
   rw [hk, show bC y (k + 1) ((x.drop fr).take (pre.length - fr)) (c :: r) = bC y k ((x.drop fr).take (pre.length - fr)) r from rfl]
   rw [show fr - (pre.length + 1) = k by omega, show pre.length + 1 - fr = 0 by omega, show pre.length - fr = 0 by omega]
theorem aDm (x y : List Nat) (h : x.length < y.length) : ∀ (l : List Nat) (fr : Nat), mY x y l fr = []
 | [], _ => rfl
 | i :: l, fr => by unfold mY; rw [if_neg (by omega)]; exact aDm x y h l fr
theorem aOr (x y : List Nat) (hy : y ≠ []) (hk : y.all (fun c => decide (c < 256)) = true) : Txt.split ⟨x.toArray⟩ ⟨y.toArray⟩ = (bC y 0 [] x).map fun z => (⟨z.toArray⟩ : Str) := by
 have ho : Builtin.Str.occurrences ⟨x.toArray⟩ ⟨y.toArray⟩ 0 (⟨x.toArray⟩ : Str).length ((⟨x.toArray⟩ : Str).length + 1) = mY x y (List.range' 0 (x.length + 1)) 0 := by
  rw [occ_eq, str_len]
  rw [aC7 x y (x.length + 1) _ #[] 0 (by simp)]
  simp
 have hp := xK x y hy x [] 0 rfl
 have hp : uL x y.length 0 (mY x y (List.range' 0 (x.length + 1)) 0) = bC y 0 [] x := by
  rw [<- show (x.drop 0).take (0 - 0) = [] from rfl]; exact hp
 have key : Builtin.Str.partsBetween ⟨x.toArray⟩ (mY x y (List.range' 0 (x.length + 1)) 0) (⟨y.toArray⟩ : Str).length = (bC y 0 [] x).map fun z => (⟨z.toArray⟩ : Str) := by
  rw [<- hp, <- aDl, str_len]
  unfold Builtin.Str.partsBetween
  rw [str_len]
 have key0 : mY x y (List.range' 0 (x.length + 1)) 0 = [] -> [(⟨x.toArray⟩ : Str)] = (bC y 0 [] x).map fun z => (⟨z.toArray⟩ : Str) := fun z => by
  rw [<- hp, z]
  rfl
 unfold Txt.split
 rw [ho]
 split
 ·rename_i h
  refine key0 (aDm x y ?_ _ _)
  rw [str_len, str_len, or_eq_true, decide_eq_true_eq, decide_eq_true_eq] at h
  rcases h with h | h
  ·exact h
  ·have k1 : Builtin.Str.strKind ⟨y.toArray⟩ = 1 := by
    unfold Builtin.Str.strKind
    rw [if_pos (by simpa using hk)]
   have k2 : 1 <= Builtin.Str.strKind ⟨x.toArray⟩ := by
    unfold Builtin.Str.strKind
    split
    ·exact Nat.le_refl _
    ·split <;> omega
   omega
 ·split
  ·rename_i h
   exact key0 (List.isEmpty_iff.mp h)
  ·exact key
section
theorem aDn : ∀ {l : List (Str × Tok)} {zs : List (List Nat)}, l.map (·.1) = zs.map (fun z => (⟨z.toArray⟩ : Str)) -> Vals (zs.map fun z => V.str ⟨z.toArray⟩) (strValues l)
 | [], [], _ => .nil
 | [], _ :: _, h => nomatch h
 | _ :: _, [], h => nomatch h
 | (x, t) :: l, z :: zs, h => by
  rw [map_cons, map_cons] at h
  injection h with h1 h2
  exact .cons ⟨t, by rw [show x = ⟨z.toArray⟩ from h1]⟩ (aDn h2)
theorem rG (y : List Nat) : ∀ (x : List Nat) (k : Nat) (cur : List Nat), (bC y k cur x).length <= x.length + 1
 | [], k, cur => by cases k <;> exact Nat.le_refl _
 | c :: r, 0, cur => by
  unfold bC
  split
  ·rw [length_cons]; have := rG y r (y.length - 1) []; rw [length_cons]; omega
  ·have := rG y r 0 (cur ++ [c]); rw [length_cons]; omega
 | c :: r, k + 1, cur => by
  have := rG y r k cur
  rw [show bC y (k + 1) cur (c :: r) = bC y k cur r from rfl, length_cons]
  omega
theorem aOs : MtR X "str.split" (fun x vs H Q => ∃ (s y : List Nat), x = .str ⟨s.toArray⟩ /\ vs = [.str ⟨y.toArray⟩] /\ y ≠ [] /\ y.all (fun c => decide (c < 256)) = true /\ s.length + 2 <= sizeLine /\ ∀ p, H p = none -> Q (.ref p) (upd H p (.lst ((bC y 0 [] s).map fun z => V.str ⟨z.toArray⟩)))) := by
 intro pins s σ H x vs v us Q I rx rv h
 obtain ⟨z, y, rfl, rfl, hy, hk, hz, q⟩ := h
 obtain ⟨t, rfl⟩ := rx
 obtain ⟨u, rfl, t2, rfl⟩ := rv.one
 have hy' : ((⟨y.toArray⟩ : Str).length == 0) = false := by rw [str_len]; cases y <;> first | exact (hy rfl).elim | rfl
 have fin : ∀ (l : List (Str × Tok)) (tk : Nat), l.map (·.1) = Txt.split ⟨z.toArray⟩ ⟨y.toArray⟩ -> EP X pins σ Q (.ref s.heap.objs.size) { s with heap := s.heap.push { cls := .type "list", data := .seq (strValues l).toArray }, toks := tk } := fun l tk hl => by
  rw [aOr z y hy hk] at hl
  have hv := aDn hl
  refine ⟨.ref s.heap.objs.size, _, I.lnew (t' := tk) hv ?_, rfl, q _ (I.hok.fresh (Nat.le_refl _))⟩
  rw [length_map]
  have := rG y z 0 []
  omega
 have hn : (Builtin.Str.partsBetween (⟨z.toArray⟩ : Str) (Builtin.Str.occurrences ⟨z.toArray⟩ ⟨y.toArray⟩ 0 (⟨z.toArray⟩ : Str).length ((⟨z.toArray⟩ : Str).length + 1)) (⟨y.toArray⟩ : Str).length).length <= sizeLine := by
  have e1 := StrLaws.occ_length_le (⟨z.toArray⟩ : Str) ⟨y.toArray⟩ 0 (⟨z.toArray⟩ : Str).length ((⟨z.toArray⟩ : Str).length + 1)
  rw [length_partsBetween]
  rw [str_len] at e1 ⊢
  omega
 have hz' : (⟨z.toArray⟩ : Str).length <= sizeLine := by rw [str_len]; omega
 cases h1 : (decide ((⟨z.toArray⟩ : Str).length < (⟨y.toArray⟩ : Str).length) || decide (Builtin.Str.strKind ⟨z.toArray⟩ < Builtin.Str.strKind ⟨y.toArray⟩))
 ·cases hf : (Builtin.Str.occurrences (⟨z.toArray⟩ : Str) ⟨y.toArray⟩ 0 (⟨z.toArray⟩ : Str).length ((⟨z.toArray⟩ : Str).length + 1)).isEmpty
  ·refine call_meets PySem.F.slot_str_split (typeIs_str _ _ _) PySem.F.entry_str_split (PySem.F.args_str_split_2 _ _) (meets_str_split_sep _ _ t t2 h1 hy' hf hz' hn) ?_
   show EP X pins σ Q _ { s with toks := _, heap := s.heap.push { cls := .type "list", data := .seq (strsFrom s.toks _).toArray } }
   rw [strsFrom_eq]
   exact fin (numbered s.toks _) _ ((numbered_texts _ _).trans ((if_neg (ne_true_of_eq_false h1)).trans (if_neg (ne_true_of_eq_false hf))).symm)
  ·exact call_meets PySem.F.slot_str_split (typeIs_str _ _ _) PySem.F.entry_str_split (PySem.F.args_str_split_2 _ _) (meets_str_split_not_found _ _ t t2 h1 hy' hf) (fin [(_, t)] s.toks ((if_neg (ne_true_of_eq_false h1)).trans (if_pos hf)).symm)
 ·exact call_meets PySem.F.slot_str_split (typeIs_str _ _ _) PySem.F.entry_str_split (PySem.F.args_str_split_2 _ _) (meets_str_split_cannot_occur _ _ t t2 h1) (fin [(_, t)] s.toks (if_pos h1).symm)
theorem aDo {K : Frag} {H : Hp} : ∀ (zs : List (List Nat)), bA K H (zs.map D.str) (zs.map fun z => V.str ⟨z.toArray⟩)
 | [] => .nil
 | _ :: zs => .cons (aO.mpr rfl) (aDo zs)
theorem aJh (ho : PE X o (tP X.K B f)) (ha : PA X (e :: es) (tA X.K B r)) (hbase : attributeBase o "split" X.env (eval o X.env) = eval o X.env := by rfl)
  (hfew : ((backTo cpos (starEach (e :: es) X.env)).all (fun x => !x.1) && (backToKw cpos (keywordEach [] X.env)).all (fun x => x.1.isSome)
   && decide ((e :: es).length + ([] : List Keyword).length + (if ([] : List Keyword).isEmpty then 0 else 1) < 30)) = true := by rfl)
  (hline : (apos.endLine == cpos.line) = true := by rfl) (hs : starEach (e :: es) X.env = (false, eval e X.env) :: starEach es X.env := by rfl) (hplain : (backTo cpos (starEach es X.env)).any (·.1) = false := by rfl) :
  PE X (.Call (.Attribute o "split" apos) (e :: es) [] cpos) (tI X.K B (eMt pG f r)) := by
 refine aNz (m := pG) PySem.F.slot_str_split PySem.F.type_str_split aOs (fun x xs d h => ?_) (fun A H x d xs v vs Q w rx rxs h k => ?_) ho ha hbase hfew hline hs hplain
 ·cases x <;> first | exact ⟨_, rfl⟩ | exact nomatch h
 ·unfold pG at h
  split at h
  ·rename_i x y
   obtain ⟨⟨c1, c2, c3⟩, h2⟩ := aJ h
   cases h2
   obtain ⟨u, rfl, ru⟩ := aG8 rxs
   exact ⟨x, y, rx.str, by rw [aO.mp ru], c1, c2, lim c3, fun p hp => k _ _ (dB hp) (gY w hp (aDo _))⟩
  ·cases h
theorem aLe (x y : List Nat) : Txt.startswith ⟨x.toArray⟩ ⟨y.toArray⟩ = (decide (y.length <= x.length) && (x.take y.length == y)) := by
 unfold Txt.startswith
 rw [rE, str_len, str_len, Nat.zero_add, drop_zero]
theorem aLf : MtR X "str.startswith" (fun x vs H Q => ∃ (s y : List Nat), x = .str ⟨s.toArray⟩ /\ vs = [.str ⟨y.toArray⟩] /\ Q (.bl (decide (y.length <= s.length) && (s.take y.length == y))) H) := by
 intro pins s σ H x vs v us Q I rx rv h
 obtain ⟨z, y, rfl, rfl, q⟩ := h
 obtain ⟨t, rfl⟩ := rx
 obtain ⟨u, rfl, t2, rfl⟩ := rv.one
 exact SC.startswith ⟨.bl _, H, I, by rw [aLe]; rfl, q⟩
theorem aEx (ho : PE X o (tP X.K B f)) (ha : PA X (e :: es) (tA X.K B r)) (hbase : attributeBase o "startswith" X.env (eval o X.env) = eval o X.env := by rfl)
  (hfew : ((backTo cpos (starEach (e :: es) X.env)).all (fun x => !x.1) && (backToKw cpos (keywordEach [] X.env)).all (fun x => x.1.isSome)
   && decide ((e :: es).length + ([] : List Keyword).length + (if ([] : List Keyword).isEmpty then 0 else 1) < 30)) = true := by rfl)
  (hline : (apos.endLine == cpos.line) = true := by rfl) (hs : starEach (e :: es) X.env = (false, eval e X.env) :: starEach es X.env := by rfl) (hplain : (backTo cpos (starEach es X.env)).any (·.1) = false := by rfl) :
  PE X (.Call (.Attribute o "startswith" apos) (e :: es) [] cpos) (tI X.K B (eMt wG f r)) := by
 refine aNz (m := wG) PySem.F.slot_str_startswith PySem.F.type_str_startswith aLf (fun x xs d h => ?_) (fun A H x d xs v vs Q w rx rxs h k => ?_) ho ha hbase hfew hline hs hplain
 ·cases x <;> first | exact ⟨_, rfl⟩ | exact nomatch h
 ·unfold wG at h
  split at h
  ·rename_i x y
   cases h
   obtain ⟨u, rfl, ru⟩ := aG8 rxs
   exact ⟨x, y, rx.str, by rw [aO.mp ru], k _ H (aM.refl _) (bK.mpr rfl)⟩
  ·cases h
theorem aJi (n : Nat) : (toString ((n : Nat) : Int) : Str) = ⟨(cG n).toArray⟩ := by
 have h := PySem.W.KIN.signs_num n
 have e : ∀ s : Str, s = ⟨s.cps.toList.toArray⟩ := fun s => by cases s; rfl
 rw [e (toString ((n : Nat) : Int) : Str)]
 exact congrArg (fun l : List Nat => (⟨l.toArray⟩ : Str)) h
theorem aDp (h : n < 10 ^ 40) : n.log2 < 1920 := by
 by_cases z : n = 0
 ·subst z; decide
 ·exact (Nat.log2_lt z).mpr (Nat.lt_of_lt_of_le h (Nat.le_of_ble_eq_true (by decide +kernel)))
theorem aLg : mC X (.type "str") (fun xs H Q => ∃ n : Nat, xs = [.int (n : Int)] /\ n < 10 ^ 40 /\ Q (.str ⟨(cG n).toArray⟩) H) := by
 intro pins s σ H xs us Q I r ⟨n, hx, hn, q⟩
 subst hx
 obtain ⟨u, rfl, t, rfl⟩ := r.one
 refine PySem.P.str_of_int (aDp hn) ?_
 exact ⟨.str ⟨(cG n).toArray⟩, H, I.tok _, ⟨_, by rw [<- aJi]⟩, q⟩
theorem aAt (hm : X.mg "str" = none) (ha : PE X a (tP X.K B f)) (hg : Gl X "str" := by rfl) (hs : starEach [a] X.env = (false, eval a X.env) :: starEach [] X.env := by rfl) : PE X (.Call (.Name "str" p0) [a] [] pos) (tI X.K B (e1 aE7 f)) := by
 refine cW (pW aLg hg hm (by rfl) (dC ha gG hs) (he := hs)) ?_
 rintro σ H Q ⟨A, st, d, rs, hd, q⟩
 obtain ⟨y, hy, h2⟩ := R.ok_of hd
 refine ⟨A, st, y, rs, hy, fun v H1 s1 r1 => ?_⟩
 unfold aE7 at h2
 split at h2
 ·rename_i n
  obtain ⟨⟨c1, c2⟩, h3⟩ := aJ h2
  cases h3
  obtain ⟨m, rfl⟩ := Int.eq_ofNat_of_zero_le c1
  exact ⟨m, by rw [r1.int], by omega, q _ H1 s1 (aO.mpr rfl)⟩
 ·cases h2
theorem aLh : mC X (.type "int") (fun xs H Q => ∃ x : List Nat, xs = [.str ⟨x.toArray⟩] /\ x ≠ [] /\ x.all aIk = true /\ x.length <= 640 /\ Q (.int (nD x)) H) := by
 intro pins s σ H xs us Q I r ⟨x, hx, h1, h2, h3, q⟩
 subst hx
 obtain ⟨u, rfl, t, rfl⟩ := r.one
 have hd : NumText.AllDigits x := fun c hc => by
  have := List.all_eq_true.mp h2 c hc
  unfold aIk at this
  rw [and_eq_true, decide_eq_true_eq, decide_eq_true_eq] at this
  exact this
 refine PySem.W.KIN.call_text (x := ⟨x.toArray⟩) (PySem.intText_digits (by simpa using hd) (by simpa using h1) (by rw [str_len]; omega)) (by rw [str_len]; exact h3) ?_
 exact ⟨.int (nD x), H, I.tok _, ⟨_, rfl⟩, q⟩
theorem aU0 (hm : X.mg "int" = none) (ha : PE X a (tP X.K B f)) (hg : Gl X "int" := by rfl) (hs : starEach [a] X.env = (false, eval a X.env) :: starEach [] X.env := by rfl) : PE X (.Call (.Name "int" p0) [a] [] pos) (tI X.K B (e1 aMf f)) := by
 refine cW (pW aLh hg hm (by rfl) (dC ha gG hs) (he := hs)) ?_
 rintro σ H Q ⟨A, st, d, rs, hd, q⟩
 obtain ⟨y, hy, h2⟩ := R.ok_of hd
 refine ⟨A, st, y, rs, hy, fun v H1 s1 r1 => ?_⟩
 unfold aMf at h2
 split at h2
 ·obtain ⟨⟨c1, c2, c3⟩, h3⟩ := aJ h2
  cases h3
  exact ⟨_, by rw [r1.str], c1, c2, c3, q _ H1 s1 (aW.mpr rfl)⟩
 ·cases h2
theorem aS2 (h : PE X a (tI X.K B f)) : PE X (.FormattedValue a (-1) none pos) (tI X.K B (e1 aD1 f)) := by
 intro pins s σ H Q I ⟨A, st, d, rs, hd, q⟩
 obtain ⟨x, hx, h2⟩ := R.ok_of hd
 unfold aD1 at h2
 split at h2
 ·rename_i n
  obtain ⟨⟨c1, c2⟩, h3⟩ := aJ h2
  cases h3
  obtain ⟨m, rfl⟩ := Int.eq_ofNat_of_zero_le c1
  refine FormattedValue_plain (thn (h pins s σ H (fun v H1 => aM H H1 /\ Rep X.K (hide (A ++ B) H1) (.int m) v) I ⟨A, st, _, rs, hx, fun v H1 s1 r1 => ⟨s1, r1⟩⟩) fun u s1 ⟨y, H1, I1, rx, sm, rp⟩ => ?_)
  have e1 := aW.mp rp
  subst e1
  obtain ⟨t, rfl⟩ := rx
  exact formatField_int_small (aDp (by omega)) ⟨.str ⟨(cG m).toArray⟩, H1, I1.tok _, ⟨_, by rw [<- aJi]⟩, q _ H1 sm (aO.mpr rfl)⟩
 ·rename_i x
  obtain ⟨c, h3⟩ := aJ h2
  cases h3
  refine FormattedValue_plain (thn (h pins s σ H (fun v H1 => aM H H1 /\ Rep X.K (hide (A ++ B) H1) (.str x) v) I ⟨A, st, .str x, rs, hx, fun v H1 s1 r1 => ⟨s1, r1⟩⟩) fun u s1 ⟨y, H1, I1, rx, sm, rp⟩ => ?_)
  have e1 := aO.mp rp
  subst e1
  obtain ⟨t, rfl⟩ := rx
  exact formatField_str (fun t' tk => ⟨.str ⟨x.toArray⟩, H1, I1.tok tk, ⟨t', rfl⟩, q _ H1 sm rp⟩) (by rw [str_len]; exact lim c)
 ·cases h2
end
end Pu
namespace Pu
open PySem PySem.Spec PyProof.Rows L2
open Builtin
theorem aGi {l l1 : Nat} (h : l < n) (h1 : l1 < n) : ZApart (n + 4) (n + 2) (n + 3) n (n + 1) l [n, l1] := by
 have z := aHz h
 have ne : ∀ m : Nat, n < m -> m ∉ [n, l1] := fun m hm q => by
  simp only [mem_cons, not_mem_nil, or_false] at q
  rcases q with q | q <;> omega
 exact ⟨z.TIz, z.TOz, z.i1z, z.i2z, z.TITO, z.TIi1, z.TIi2, z.TOi1, z.TOi2, z.i12, z.lz, z.lTO, z.li1, z.li2, ne _ (by omega), ne _ (by omega), ne _ (by omega)⟩
section
variable {prog : Program} {w : World} {A : Around} {E : Value -> Shared -> Prop} {s : Shared}
abbrev yH1 (h : Heap) (l1 : Addr) : Heap := h.push { cls := .type "list_iterator", data := .fields #[.ref l1, .int 0 0] }
abbrev yH2 (h : Heap) (l1 : Addr) (l : Addr) : Heap := (yH1 h l1).push { cls := .type "list_iterator", data := .fields #[.ref l, .int 0 0] }
abbrev yH3 (h : Heap) (l1 : Addr) (l : Addr) : Heap := (yH2 h l1 l).push { cls := .type "tuple", data := .seq #[.ref h.objs.size, .ref (yH1 h l1).objs.size] }
abbrev yH4 (h : Heap) (l1 : Addr) (l : Addr) : Heap := (yH3 h l1 l).push { cls := .type "tuple", data := .seq #[.none, .none] }
abbrev yH5 (h : Heap) (l1 : Addr) (l : Addr) : Heap := (yH4 h l1 l).push { cls := .type "zip", data := .fields #[.none, .bool false, .bool false, .ref (yH2 h l1 l).objs.size, .ref (yH3 h l1 l).objs.size] }
theorem aI0 (l1 l : Addr) (ys1 ys : Array Value) :
  Meets (Builtin.«zip.__new__» ⟨[.type "zip", .ref l1, .ref l], []⟩) (fun _ R s => s.heap.IsList l1 ys1 /\ s.heap.IsList l ys /\
   R (.ok (.ret (.ref (yH4 s.heap l1 l).objs.size))) { s with heap := yH5 s.heap l1 l }) :=
 .of_wp fun prog w A R s h => by
  obtain ⟨hp, g, d, tk, os⟩ := s; obtain ⟨hl1, hl, h⟩ := h
  have hsub := sub_zip
  have hL : Heap.IsList (Shared.heap ⟨hp.push { cls := .type "list_iterator", data := .fields #[.ref l1, .int 0 0] }, g, d, tk, os⟩) l ys := Heap.IsList.push hl _
  wp_walk using wpAny_pyIter_list hl1, wpAny_pyIter_list hL
  exact ⟨_, rfl, h⟩
theorem aLi {l1 : Addr} {ys1 ys : Array Value} {Q : Value -> Shared -> Prop} (hl1 : s.heap.IsList l1 ys1) (hl : s.heap.IsList l ys)
  (h : ∀ h', IsZip h' (s.heap.objs.size + 4) (s.heap.objs.size + 2) (s.heap.objs.size + 3) .none -> IsPair h' (s.heap.objs.size + 2) (.ref s.heap.objs.size) (.ref (s.heap.objs.size + 1)) ->
   IsPair h' (s.heap.objs.size + 3) .none .none -> h'.IsListIter s.heap.objs.size l1 0 -> h'.IsListIter (s.heap.objs.size + 1) l 0 -> h'.objs.size = s.heap.objs.size + 5 ->
   (∀ c o, s.heap.get? c = some o -> h'.get? c = some o) -> Q (.ref (s.heap.objs.size + 4)) { s with heap := h' }) :
  wpAny (model prog w) A (call (.type "zip") [.ref l1, .ref l]) Q E s := by
 refine callType_new PySem.F.called_zip (by decide) (PySem.F.typeCall_zip_2 _ _) (PySem.F.newCall_zip_2 _ _) (fun obj => PySem.F.args_object_init_3 obj _ _) PySem.F.entry_zip_new
  (aI0 l1 l ys1 ys) ⟨hl1, hl, ?_⟩
 have z1 : (yH1 s.heap l1).objs.size = s.heap.objs.size + 1 := Heap.size_push ..
 have z2 : (yH2 s.heap l1 l).objs.size = s.heap.objs.size + 2 := by rw [Heap.size_push, z1]
 have z3 : (yH3 s.heap l1 l).objs.size = s.heap.objs.size + 3 := by rw [Heap.size_push, z2]
 have z4 : (yH4 s.heap l1 l).objs.size = s.heap.objs.size + 4 := by rw [Heap.size_push, z3]
 have z5 : (yH5 s.heap l1 l).objs.size = s.heap.objs.size + 5 := by rw [Heap.size_push, z4]
 have g5 : (yH5 s.heap l1 l).get? (yH4 s.heap l1 l).objs.size = some _ := Heap.get?_push_size _ rfl
 have g4 : (yH5 s.heap l1 l).get? (yH3 s.heap l1 l).objs.size = some _ := Heap.get?_push_of_some _ (Heap.get?_push_size _ rfl)
 have g3 : (yH5 s.heap l1 l).get? (yH2 s.heap l1 l).objs.size = some _ := Heap.get?_push_of_some _ (Heap.get?_push_of_some _ (Heap.get?_push_size _ rfl))
 have g2 : (yH5 s.heap l1 l).get? (yH1 s.heap l1).objs.size = some _ := Heap.get?_push_of_some _ (Heap.get?_push_of_some _ (Heap.get?_push_of_some _ (Heap.get?_push_size _ rfl)))
 have g1 : (yH5 s.heap l1 l).get? s.heap.objs.size = some _ := Heap.get?_push_of_some _ (Heap.get?_push_of_some _ (Heap.get?_push_of_some _ (Heap.get?_push_of_some _ (Heap.get?_push_size _ rfl))))
 show _ /\ _
 rw [z2, z3, z4] at g5
 rw [z1, z2] at g3
 rw [z3] at g4
 rw [z1] at g2
 rw [z4]
 exact ⟨⟨_, g5, rfl⟩, h _ g5 g3 g4 ⟨_, g1, rfl, rfl⟩ ⟨_, g2, rfl, rfl⟩ z5 fun c o x =>
  Heap.get?_push_of_some _ (Heap.get?_push_of_some _ (Heap.get?_push_of_some _ (Heap.get?_push_of_some _ (Heap.get?_push_of_some _ x))))⟩
theorem aOt (hh : A.handled = none) {it : Addr} {ys : Array Value}  {Q : Value -> Shared -> Prop} (st : s.heap.IsListIter it l i) (hl : s.heap.IsList l ys) (hx : ys[i]? = none)
  (hE : ∀ h' e, Heap.ExtBut it s.heap h' -> (∃ o, h'.get? e = some o /\ o.cls = .type "StopIteration") -> E (.ref e) { s with heap := h' }) : wpAny (model prog w) A (Builtin.SmallTypes.nextOf (.ref it)) Q E s := wpAny_nextOf_list_end hh st hl hx hE
end
def aU1 (K : Frag) (a1 a : Addr) : It :=
 ⟨fun i H => (∃ xs x, SqL K H a1 xs /\ xs[i]? = some x) /\ ∃ xs x, SqL K H a xs /\ xs[i]? = some x, fun i H x H' => ∃ T c v, x = V.ref T /\ H T = none /\ (∀ xs, SqL K H a1 xs -> xs[i]? = some c) /\ H' = upd H T (.tup [c, v]) /\ ∀ xs, SqL K H a xs -> xs[i]? = some v, fun i H => ∃ ys xs, SqL K H a1 ys /\ SqL K H a xs /\ (ys.length <= i \/ xs.length <= i)⟩
theorem aLj {K : Frag}  {x1} {tp : Pos} (a1 a z TI TO i1 i2 : Addr) (D : ZApart z TI TO i1 i2 a [i1, a1]) (ne : a1 ≠ i1) :
  Turn P w K (.Tuple elts x1 tp) (aU1 K a1 a) [z, TI, TO, i1, i2] z (fun i h => IsZip h z TI TO .none /\ IsPair h TI (.ref i1) (.ref i2) /\ (∃ u v, IsPair h TO u v) /\ h.IsListIter i1 a1 i /\ h.IsListIter i2 a i) where
 mem := by simp
 obj := fun i h st b hb => by
  obtain ⟨hz, hTI, ⟨u, v, hTO⟩, ⟨o1, q1, c1, d1⟩, ⟨o2, q2, c2, d2⟩⟩ := st
  simp only [mem_cons, not_mem_nil, or_false] at hb
  rcases hb with rfl | rfl | rfl | rfl | rfl
  ·exact ⟨_, hz, fun v z => by cases z⟩
  ·exact ⟨_, hTI, fun v z => by cases z⟩
  ·exact ⟨_, hTO, fun v z => by cases z⟩
  ·exact ⟨o1, q1, fun v z => by rw [d1] at z; cases z⟩
  ·exact ⟨o2, q2, fun v z => by rw [d2] at z; cases z⟩
 keep := fun i h h' st k => by
  obtain ⟨hz, hTI, ⟨u, v, hTO⟩, h1, h2⟩ := st
  exact ⟨k z (by simp) _ hz, k TI (by simp) _ hTI, ⟨u, v, k TO (by simp) _ hTO⟩, h1.at fun o x => k i1 (by simp) o x, h2.at fun o x => k i2 (by simp) o x⟩
 item := by
  intro X hP hw hK hc i pins s σ H E I hf st hg
  subst hP hw hK
  obtain ⟨hz, hTI, ⟨u0, v0, hTO⟩, h1, h2⟩ := st
  obtain ⟨⟨xs1, y1, hq1, hx1⟩, xs, x, hq, hx⟩ := hg
  obtain ⟨its1, rv1, p1, _⟩ := I.list hq1
  obtain ⟨c, hu1, ru1⟩ := rv1.get hx1
  obtain ⟨its, rv, p, _⟩ := I.list hq
  obtain ⟨u, hu, ru⟩ := rv.get hx
  have fo : ∀ b ∈ [z, TI, TO, i1, i2], H b = none := fun b hb => (hf b hb).1
  have hT : H s.heap.objs.size = none := I.hok.fresh (Nat.le_refl _)
  have hzt : s.TypeIs (.ref z) "zip" := ⟨_, hz, rfl⟩
  have hh := I.ok.hd hc
  unfold pyNext
  refine wpAny_bind (wpAny_attempt (wpAny_callSpecial?_slot (name := Str.ofString "__next__") hzt PySem.F.slot_zip_next
   (wpAny_call_entry PySem.F.slot_zip_next hzt PySem.F.entry_zip_next
    (aOp (Draws.list (A := X.A.in1) hh i1 a1 ne its1.toArray) D hz hTI hTO ⟨h1, p1.isList⟩ (by have := (List.getElem?_eq_some_iff.mp hu1).1; simpa using this) h2 p.isList (y := u) (by simpa using hu) fun h' tk v hP a1 a2 a3 a4 a5 a6 hk => wpAny_pure ?_) (PySem.F.args_zip_next_1 _))))
  have hP : v = c := by
   have hP : its1.toArray[i]? = some v := hP
   rw [List.getElem?_toArray, hu1] at hP
   exact (Option.some.inj hP).symm
  subst hP
  refine ⟨_, rfl, wpAny_letOwnedTupleGo_zip (s := { s with heap := h', toks := tk }) a1 fun h9 hz9 sb => ?_⟩
  have hkeep : ∀ b o, b ≠ z -> b ≠ TO -> b ≠ i1 -> b ≠ i2 -> s.heap.get? b = some o -> h9.get? b = some o := fun b o e1 e2 e3 e4 q => (sb.2 b e1).trans (hk b o e1 e2 e3 e4 q)
  have zlt : z ≠ s.heap.objs.size := Nat.ne_of_lt (Heap.lt_size hz)
  have htup : h9.get? s.heap.objs.size = some { cls := .type "tuple", data := .seq #[v, u] } := (sb.2 _ zlt.symm).trans a5
  have nT : ∀ b u', H b = some u' -> b ≠ s.heap.objs.size := fun b u' q => aK q hT
  have nx : ∀ b u', H b = some u' -> b ≠ z /\ b ≠ TO /\ b ≠ i1 /\ b ≠ i2 := fun b u' q => ⟨aK q (fo z (by simp)), aK q (fo TO (by simp)), aK q (fo i1 (by simp)), aK q (fo i2 (by simp))⟩
  have mx : ∀ b : Addr, b ∉ [z, TI, TO, i1, i2] -> b ≠ z /\ b ≠ TO /\ b ≠ i1 /\ b ≠ i2 := fun b hb => ⟨fun q => hb (by simp [q]), fun q => hb (by simp [q]), fun q => hb (by simp [q]), fun q => hb (by simp [q])⟩
  have inL : ∀ b o, s.heap.get? b = some o -> b ≠ s.heap.objs.size := fun b o q => Nat.ne_of_lt (Heap.lt_size q)
  have kp : ∀ b o, b ∉ [z, TI, TO, i1, i2] -> s.heap.get? b = some o -> h9.get? b = some o := fun b o hb q => hkeep b o (mx b hb).1 (mx b hb).2.1 (mx b hb).2.2.1 (mx b hb).2.2.2 q
  have un : Un (frs X.stack) [z, TI, TO, i1, i2] H (upd H s.heap.objs.size (.tup [y1, x])) s.heap h9 := by
   refine ⟨fun b o q n hb hx => kp b o hx q, fun b o q n hb hx => ⟨o.slots, kp b o hx q⟩, fun b o q n hx => by rw [aU (inL b o q)]; exact n, fun b o q hx => ⟨o, kp b o hx q⟩, fun b ys q => by rw [aU (nT b _ q)]; exact q, fun b o u' q => by rw [aU (nT b _ q)]; exact q, fun b ps q => ⟨#[], by rw [aU (nT b _ q), Array.append_empty]; exact q⟩⟩
  have hok : HOk X.prog X.w (upd H s.heap.objs.size (.tup [y1, x])) h9 := fun b u' q => by
   by_cases hb : b = s.heap.objs.size
   ·subst hb
    rw [bY] at q
    cases q
    exact ⟨show 2 <= sizeLine by decide, [v, u], .cons ru1 (.cons ru .nil), _, htup, rfl, _, rfl⟩
   ·rw [aU hb] at q
    refine (I.hok b u' q).stay (fun c v hc' q' => ?_) (fun c q' => by rw [aU (nT c _ q')]; exact q') fun c ys q' => by rw [aU (nT c _ q')]; exact q'
    have : ∃ u'', H c = some u'' := by
     rcases hc' with z | z
     ·exact ⟨u', by rw [z]; exact q⟩
     ·exact ⟨_, z⟩
    obtain ⟨u'', hu''⟩ := this
    obtain ⟨e1, e2, e3, e4⟩ := nx c _ hu''
    exact hkeep c v e1 e2 e3 e4 q'
  have I2 : Inv X pins σ (upd H s.heap.objs.size (.tup [y1, x])) { s with heap := h9, toks := tk } := I.call (g' := s.gens) (t' := tk) (d' := s.drawn) (ch := [z, TI, TO, i1, i2]) un hok I.bare fun b hb => by
   have fb := hf b hb
   exact ⟨fb.2.2.2.1, fb.2.1, fb.2.2.2.2.1, fb.2.2.2.2.2⟩
  have up : ∀ b o, b ≠ z -> h'.get? b = some o -> h9.get? b = some o := fun b o e q => (sb.2 b e).trans q
  refine ⟨.ref s.heap.objs.size, _, I2, rfl, ⟨_, y1, x, rfl, hT, fun ys hy => by rw [I.list_inj hy hq1]; exact hx1, rfl, fun ys hy => by rw [I.list_inj hy hq]; exact hx⟩, ⟨hz9, up _ _ D.TIz (hk _ _ D.TIz D.TITO D.TIi1 D.TIi2 hTI), ⟨_, _, up _ _ D.TOz a2⟩, a3.1.at fun o y => up _ o D.i1z y, a4.at fun o y => up _ o D.i2z y⟩, fun b hb => ?_⟩
  ·have hbs : ∃ o, s.heap.get? b = some o := by
    simp only [mem_cons, not_mem_nil, or_false] at hb
    obtain ⟨o1, q1, _⟩ := h1
    obtain ⟨o2, q2, _⟩ := h2
    rcases hb with rfl | rfl | rfl | rfl | rfl
    ·exact ⟨_, hz⟩
    ·exact ⟨_, hTI⟩
    ·exact ⟨_, hTO⟩
    ·exact ⟨_, q1⟩
    ·exact ⟨_, q2⟩
   obtain ⟨o, q⟩ := hbs
   rw [aU (inL b o q)]
   exact fo b hb
 done := by
  intro X hP hw hK hc i pins s σ H E I hf st hg
  subst hP hw hK
  obtain ⟨hz, hTI, ⟨u0, v0, hTO⟩, h1, h2⟩ := st
  obtain ⟨xs1, xs, hq1, hq, hx⟩ := hg
  obtain ⟨its1, rv1, p1, _⟩ := I.list hq1
  have hl1 := rv1.length
  obtain ⟨its, rv, p, _⟩ := I.list hq
  have hzt : s.TypeIs (.ref z) "zip" := ⟨_, hz, rfl⟩
  have hh := I.ok.hd hc
  have hl := rv.length
  unfold pyNext
  refine wpAny_bind (wpAny_attempt (wpAny_callSpecial?_slot (name := Str.ofString "__next__") hzt PySem.F.slot_zip_next
   (wpAny_call_entry PySem.F.slot_zip_next hzt PySem.F.entry_zip_next
    (aR6 (Draws.list (A := X.A.in1) hh i1 a1 ne its1.toArray) hh D hz hTI hTO ⟨h1, p1.isList⟩ h2 p.isList (by
     by_cases hi : its1.length <= i
     ·refine .inl fun s' Q E st hE => aOt (A := X.A.in1) hh st.1 st.2 (by simpa using hi) hE
     ·exact .inr ⟨by simpa using hi, by simp; omega⟩) fun h' e tk hk he => ?_) (PySem.F.args_zip_next_1 _))))
  obtain ⟨o, ho, hce⟩ := he
  refine wpAny_bind (wpAny_isInstance (T := "StopIteration") (b := true) ⟨o, ho, hce⟩ isSubtype_stop ?_)
  refine wpAny_pure ⟨rfl, ?_⟩
  have fo : ∀ b ∈ [z, TI, TO, i1, i2], H b = none := fun b hb => (hf b hb).1
  have mx : ∀ b : Addr, b ∉ [z, TI, TO, i1, i2] -> b ≠ z /\ b ≠ TO /\ b ≠ i1 /\ b ≠ i2 := fun b hb => ⟨fun q => hb (by simp [q]), fun q => hb (by simp [q]), fun q => hb (by simp [q]), fun q => hb (by simp [q])⟩
  have kp : ∀ b o, b ∉ [z, TI, TO, i1, i2] -> s.heap.get? b = some o -> h'.get? b = some o := fun b o hb q => hk b o (mx b hb).1 (mx b hb).2.1 (mx b hb).2.2.1 (mx b hb).2.2.2 q
  have un : Un (frs X.stack) [z, TI, TO, i1, i2] H H s.heap h' :=
   ⟨fun b o q n hb hx => kp b o hx q, fun b o q n hb hx => ⟨o.slots, kp b o hx q⟩, fun b o q n hx => n, fun b o q hx => ⟨o, kp b o hx q⟩, fun b ys q => q, fun b o u' q => q, fun b ps q => ⟨#[], by rw [Array.append_empty]; exact q⟩⟩
  have hok : HOk X.prog X.w H h' := fun b u' q => by
   refine (I.hok b u' q).stay (fun c v hc' q' => ?_) (fun c q' => q') fun c ys q' => q'
   have : ∃ u'', H c = some u'' := by
    rcases hc' with z | z
    ·exact ⟨u', by rw [z]; exact q⟩
    ·exact ⟨_, z⟩
   obtain ⟨u'', hu''⟩ := this
   exact hk c v (aK hu'' (fo z (by simp))) (aK hu'' (fo TO (by simp))) (aK hu'' (fo i1 (by simp))) (aK hu'' (fo i2 (by simp))) q'
  exact I.call (g' := s.gens) (t' := tk) (d' := s.drawn) (ch := [z, TI, TO, i1, i2]) un hok I.bare fun b hb => by
   have fb := hf b hb
   exact ⟨fb.2.2.2.1, fb.2.1, fb.2.2.2.2.1, fb.2.2.2.2.2⟩
 self := fun _ _ _ _ _ st h => wpAny_pyIter_zip st.1 h
theorem aGj : ∀ (z ds : List D), (sG z ds).length = min z.length ds.length
 | [], ds => by simp [sG]
 | c :: z, [] => by simp [sG]
 | c :: z, d :: ds => by rw [sG, length_cons, length_cons, length_cons, aGj]; omega
theorem aGk : ∀ (z ds : List D) (i : Nat) (d : D), (sG z ds)[i]? = some d -> ∃ c e, z[i]? = some c /\ ds[i]? = some e /\ d = .tup [c, e]
 | [], ds, i, d, h => by simp [sG] at h
 | c :: z, [], i, d, h => by simp [sG] at h
 | c :: z, e :: ds, 0, d, h => by
  rw [sG] at h
  simp at h
  exact ⟨c, e, rfl, rfl, h.symm⟩
 | c :: z, e :: ds, i + 1, d, h => by
  rw [sG, getElem?_cons_succ] at h
  obtain ⟨c', e', h1, h2, h3⟩ := aGk z ds i d h
  exact ⟨c', e', by simpa using h1, by simpa using h2, h3⟩
section
theorem aR7 {K : Frag}   {zs : List D} {us : List V} {l1 : Addr} (hq1 : SqL K (hide (A ++ B) H) l1 us) (r1 : bA K (hide (A ++ B) H) zs us) (hq : SqL K (hide (A ++ B) H) l vs) (r : bA K (hide (A ++ B) H) ds vs) : aKv K B A H (aU1 K l1 l) (sG zs ds) := by
 intro A' H' le own i
 have hq' : SqL K H' l vs := (aY _ _).seq ((Le.app le).seq hq)
 have hq1' : SqL K H' l1 us := (aY _ _).seq ((Le.app le).seq hq1)
 refine ⟨fun d hd => ?_, fun hl => ⟨us, vs, hq1', hq', ?_⟩⟩
 ·obtain ⟨c, e, h1, h2, rfl⟩ := aGk zs ds i d hd
  obtain ⟨v, hv, rv⟩ := r.get h2
  obtain ⟨u, hu, ru⟩ := r1.get h1
  refine ⟨⟨⟨us, u, hq1', hu⟩, vs, v, hq', hv⟩, fun x H3 y => ?_⟩
  obtain ⟨T, c', v', rfl, hT, hc', rfl, h5⟩ := y
  have hx := h5 vs hq'
  rw [hv] at hx
  cases hx
  have hx := hc' us hq1'
  rw [hu] at hx
  cases hx
  exact ⟨dB hT, mK own hT (.cons (ru.mono (Le.app le)) (.cons (rv.mono (Le.app le)) .nil))⟩
 ·rw [aGj] at hl
  rw [r.length, r1.length]
  omega
theorem aJj {x1} {tp p : Pos} (hm : X.mg "zip" = none) (ha : PE X a (tI X.K B f)) (hb : PE X b (tI X.K B g)) (hg : Gl X "zip" := by rfl) (hs : starEach [a, b] X.env = (false, eval a X.env) :: starEach [b] X.env := by rfl) (hs2 : starEach [b] X.env = [(false, eval b X.env)] := by rfl) : L2.PI X (.Tuple elts x1 tp) (.Call (.Name "zip" p) [a, b] [] pos) (tIt X.K B (vI f g)) := by
 intro pins s σ H Rq I ⟨A, st, ds, rs, hd, q⟩
 obtain ⟨x, hx, h2⟩ := R.ok_of hd
 obtain ⟨y, hy, h3⟩ := R.ok_of h2
 split at h3
 rotate_left
 ·cases h3
 rename_i zs ws
 cases h3
 refine Call_ (yD I hg hm boot_zip (PyProof.Rows.callWith_type1 (thn ((dC ha (dC hb gG hs2) hs) pos pins s σ H (fun vs H1 => ∃ v w, vs = [v, w] /\ aM H H1 /\ Rep X.K (hide (A ++ B) H1) (.lst zs) v /\ Rep X.K (hide (A ++ B) H1) (.lst ws) w) I ⟨A, st, _, rs, hx, fun v H1 s1 r1 => ⟨A, st, _, rs.mono s1, hy, fun w H2 s2 r2 => ⟨v, w, rfl, s1.trans s2, r1.mono (aM.hide s2), r2⟩⟩⟩) fun us s1 ⟨vs, H1, I1, r1, v, w, hv, sm, rv, rw'⟩ => ?_) hs (by rw [hs2]; rfl)))
 subst hv
 obtain ⟨u1, u2, rfl, ra, rb⟩ : ∃ u1 u2, us = [u1, u2] /\ L2.RelV v u1 /\ L2.RelV w u2 := by
  cases r1 with
  | cons ra rb =>
   cases rb with
   | cons rb rc =>
    cases rc
    exact ⟨_, _, rfl, ra, rb⟩
 obtain ⟨l, ts, rfl, hq, rr⟩ := bG.mp rw'
 obtain ⟨l1, ts1, rfl, hq1, rr1⟩ := bG.mp rv
 have eu1 : u1 = Value.ref l1 := ra
 subst eu1
 obtain ⟨its1, rvv1, pl1, hz1⟩ := I1.list ((aY _ _).seq hq1)
 have hlt1 : l1 < s1.heap.objs.size := by
  obtain ⟨o, e, _⟩ := pl1.isList
  exact Heap.lt_size e
 have eu : u2 = Value.ref l := rb
 subst eu
 obtain ⟨its, rvv, pl, hz⟩ := I1.list ((aY _ _).seq hq)
 have hlt : l < s1.heap.objs.size := by
  obtain ⟨o, e, _⟩ := pl.isList
  exact Heap.lt_size e
 refine aLi pl1.isList pl.isList fun h' hz' hTI hTO hit1 hit2 hsz hk => ?_
 refine wpAny_pyIter_zip hz' ⟨s1.heap.objs.size + 4, [s1.heap.objs.size + 4, s1.heap.objs.size + 2, s1.heap.objs.size + 3, s1.heap.objs.size, s1.heap.objs.size + 1], _, aU1 X.K l1 l, H1, rfl, I1.kept (t' := s1.toks) hk, aLj l1 l (s1.heap.objs.size + 4) (s1.heap.objs.size + 2) (s1.heap.objs.size + 3) s1.heap.objs.size (s1.heap.objs.size + 1) (aGi hlt hlt1) (Nat.ne_of_lt hlt1), ⟨hz', hTI, ⟨_, _, hTO⟩, hit1, hit2⟩, fun b hb => ?_, q _ H1 sm (aR7 hq1 rr1 hq rr)⟩
 ·simp only [mem_cons, not_mem_nil, or_false] at hb
  rcases hb with rfl | rfl | rfl | rfl | rfl <;> exact I1.fpOk (by simp) (I1.hok.fresh (by simp))
end
end Pu
namespace Pu
open PySem PySem.Spec PyProof.Rows L2
structure FlyM (C : Addr) (h0 : Heap) (H : Hp) (e L : Addr) (h : Heap) : Prop where
 n0 : h0.get? e = none
 nH : H e = none
 ex : ∃ oe vs a0 T oT ts, h.get? e = some oe /\ oe.cls = .ref C /\ oe.data = .fields vs /\ vs[0]? = some a0 /\ vs[1]? = some (.ref T) /\ T ≠ e /\ h.get? T = some oT /\ oT.data = .fields ts /\ ts[3]? = some (rawInt L) /\ h0.get? T = none /\ H T = none
section
variable  {A : Around}   {e L : Addr} {b0 : Heap}    
theorem FlyM.back {h1 : Heap} (F : FlyM C h1 H e L h) (k : ∀ b o, h0.get? b = some o -> ∃ o', h1.get? b = some o') : FlyM C h0 H e L h := by
 obtain ⟨n0, nH, oe, vs, a0, T, oT, ts, he, hc, hd, hz, h1', hTe, hT, hdT, h3, nT, nHT⟩ := F
 have z : ∀ b, h1.get? b = none -> h0.get? b = none := fun b q => by
  cases w : h0.get? b with
  | none => rfl
  | some o => obtain ⟨o', q'⟩ := k b o w; rw [q] at q'; cases q'
 exact ⟨z _ n0, nH, oe, vs, a0, T, oT, ts, he, hc, hd, hz, h1', hTe, hT, hdT, h3, z _ nT, nHT⟩
theorem aI1 {l : List Addr}   (hth : ∀ b o, h0.get? b = some o -> ∃ o', h.get? b = some o') (hH : ∀ b u, H b = some u -> ∃ o, h.get? b = some o) (n0 : h0.get? e = none) (nH : H e = none)
  (hl : ∀ b ∈ l, b = e \/ (h0.get? b = none /\ H b = none) \/ b ∈ frs fl) (f : h'.FunFrames (kJ l h) fl) (t : h'.TracedAtW (kJ l h) e (.ref C) a0 (rawInt L)) : FlyM C h0 H e L h' := by
 obtain ⟨oe, vs, T, oT, ts, he, ⟨hc, hz⟩, hd, h1, hT0, hTe, hT, hdT, h3⟩ := t
 have : h0.get? T = none /\ H T = none := by
  by_cases hb : T ∈ l
  ·rcases hl T hb with z | z | z
   ·exact (hTe z).elim
   ·exact z
   ·obtain ⟨_, o, ho, hnf⟩ := f.mem z
    rw [hT] at ho
    cases ho
    exact (hnf ts hdT).elim
  ·rw [xH hb] at hT0
   refine ⟨?_, ?_⟩
   ·cases q : h0.get? T with
    | none => rfl
    | some o => obtain ⟨o', z⟩ := hth T o q; rw [hT0] at z; cases z
   ·cases q : H T with
    | none => rfl
    | some u => obtain ⟨o', z⟩ := hH T u q; rw [hT0] at z; cases z
 exact ⟨n0, nH, oe, vs, a0, T, oT, ts, he, hc, hd, hz, h1, hTe, hT, hdT, h3, this⟩
theorem aOu (hfr : A.frames = some (env :: outer)) (hl : s.heap.FunFrames b0 (env :: outer)) (hf : env.frame = some L) (hth : ∀ b o, h0.get? b = some o -> ∃ o', s.heap.get? b = some o') (hH : ∀ b u, H b = some u -> ∃ o, s.heap.get? b = some o)
  (F : Fly C h0 H e s.heap) (hQ : ∀ h', FlyM C h0 H e L h' -> aA8 h0 H (frs (env :: outer)) s.heap h' -> Q () { s with heap := h' }) : wpAny M A (noteFrame (.ref e) env) Q E s := by
 obtain ⟨n0, nH, oe, vs, a0, he, hc, hd, hz, ht⟩ := F
 have fin : ∀ (l : List Addr), (∀ b ∈ l, b = e \/ (h0.get? b = none /\ H b = none) \/ b ∈ frs (env :: outer)) -> ∀ h', Heap.NotedW (kJ l s.heap) (env :: outer) e (.ref C) a0 (rawInt L) s.heap h' -> Q () { s with heap := h' } := by
  intro l hll h' ⟨k1, k2, k3, k4⟩
  refine hQ h' (aI1 (h := s.heap) hth hH n0 nH hll k2 k3) (qL (fun b hb => ?_) hl k1 k4)
  rcases hll b hb with z | z | z
  ·exact .inl (by rw [z]; exact ⟨n0, nH⟩)
  ·exact .inl z
  ·exact .inr z
 rcases ht with ht | ⟨T, oT, ts, h1, hTe, hT, hdT, h3, nT, nHT⟩
 ·have hcut : ∀ L ∈ frs (env :: outer), (kJ (e :: frs (env :: outer)) s.heap).get? L = none := fun L hL => fQ (mem_cons_of_mem _ hL)
  unfold noteFrame
  simp only [hf]
  refine wpAny_bind (wpAny_field he hd ht ?_)
  rw [if_neg (by decide)]
  refine wpAny_entryW (base := kJ (e :: frs (env :: outer)) s.heap) hfr (mO hl hcut) hf he (oV _ _) (fQ mem_cons_self) hd (Array.getElem?_eq_some_iff.mp ht).1 hz fun h' N => ?_
  rw [hc] at N
  exact fin _ (fun b hb => (List.mem_cons.mp hb).elim .inl fun z => .inr (.inr z)) h' N
 ·have hcut : ∀ L ∈ frs (env :: outer), (kJ (e :: T :: frs (env :: outer)) s.heap).get? L = none := fun L hL => fQ (mem_cons_of_mem _ (mem_cons_of_mem _ hL))
  refine wpAny_noteFrame_onW (base := kJ (e :: T :: frs (env :: outer)) s.heap) (cls := .ref C) (a0 := a0) hfr (mO hl hcut) hf ⟨oe, vs, T, oT, ts, he, ⟨hc, hz⟩, hd, h1, fQ (mem_cons_of_mem _ mem_cons_self), hTe, hT, hdT, h3⟩ (oV _ _) (fQ mem_cons_self) fun h' N => ?_
  refine fin _ (fun b hb => ?_) h' N
  rcases List.mem_cons.mp hb with z | hb
  ·exact .inl z
  ·exact (List.mem_cons.mp hb).elim (fun z => .inr (.inl (by rw [z]; exact ⟨nT, nHT⟩))) fun z => .inr (.inr z)
theorem aI2 (hl : s.heap.FunFrames b0 (env :: outer)) (hf : env.frame = some L) (hth : ∀ b o, h0.get? b = some o -> ∃ o', s.heap.get? b = some o') (hH : ∀ b u, H b = some u -> ∃ o, s.heap.get? b = some o)
  (F : FlyM C h0 H e L s.heap) (hQ : ∀ h', Fly C h0 H e h' -> aA8 h0 H (frs (env :: outer)) s.heap h' -> Q () { s with heap := h' }) : wpAny M A (leaving env (.ref e)) Q E s := by
 obtain ⟨n0, nH, oe, vs, a0, T, oT, ts, he, hc, hd, hz, h1, hTe, hT, hdT, h3, nT, nHT⟩ := F
 have hcut : ∀ L ∈ frs (env :: outer), (kJ (e :: T :: frs (env :: outer)) s.heap).get? L = none := fun L hL => fQ (mem_cons_of_mem _ (mem_cons_of_mem _ hL))
 have tr : s.heap.TracedAtW (kJ (e :: T :: frs (env :: outer)) s.heap) e (.ref C) a0 (rawInt L) := ⟨oe, vs, T, oT, ts, he, ⟨hc, hz⟩, hd, h1, fQ (mem_cons_of_mem _ mem_cons_self), hTe, hT, hdT, h3⟩
 have hll : ∀ b ∈ e :: T :: frs (env :: outer), b = e \/ (h0.get? b = none /\ H b = none) \/ b ∈ frs (env :: outer) := fun b hb => by
  rcases List.mem_cons.mp hb with z | hb
  ·exact .inl z
  ·exact (List.mem_cons.mp hb).elim (fun z => .inr (.inl (by rw [z]; exact ⟨nT, nHT⟩))) fun z => .inr (.inr z)
 unfold leaving
 refine wpAny_bind (wpAny_noteFrame_againW hf tr ?_)
 refine wpAny_setFlight_noneW (oV _ _) (mO hl hcut) tr fun h' k1 k2 k3 k4 => hQ h' (nZ (h := s.heap) hth hH n0 nH hll k2 k3).fly (qL (fun b hb => ?_) hl k1 fun b o hb hn => ⟨o.slots, k4 b o hb hn⟩)
 rcases hll b hb with z | z | z
 ·exact .inl (by rw [z]; exact ⟨n0, nH⟩)
 ·exact .inl z
 ·exact .inr z
theorem aOv {what : String} {Q' : α -> Shared -> Prop} (hf : env.frame = some L) (F : FlyM C h0 H e L s.heap)
  (h : ∀ h', (∀ b o, s.heap.get? b = some o -> h'.get? b = some o) -> FlyM C h0 H e L h' -> E (.ref e) { s with heap := h' }) : wpAny M A (PySem.passOn what (.ref e) env : Sem α) Q' E s := by
 obtain ⟨n0, nH, oe, vs, a0, T, oT, ts, he, hc, hd, hz, h1, hTe, hT, hdT, h3, nT, nHT⟩ := F
 have h3b := (Array.getElem?_eq_some_iff.mp h3).1
 unfold PySem.passOn
 refine wpAny_bind (wpAny_field he hd h1 ?_)
 rw [if_neg (show ¬ ((Value.ref T == Value.none) = true) from by simp)]
 refine wpAny_bind ?_
 unfold setFlight
 refine wpAny_bind (wpAny_field he hd h1 ?_)
 rw [if_pos (show (Value.ref T != Value.none) = true from by simp)]
 refine wpAny_setField hT hdT h3b ?_
 have hd' := Obj.data_mapFields hdT (·.setIfInBounds 3 (rawInt L))
 have e1 : ts.setIfInBounds 3 (rawInt L) = ts := by
  apply Array.ext
  ·simp
  ·intro i h4 h5
   rw [Array.getElem_setIfInBounds]
   split
   ·rename_i q
    subst q
    exact (Option.some.inj ((Array.getElem?_eq_getElem h5).symm.trans h3)).symm
   ·rfl
 have keep : ∀ b o, s.heap.get? b = some o -> (s.heap.update T (Obj.mapFields (·.setIfInBounds 3 (rawInt L)))).get? b = some o := fun b o hb => by
  by_cases q : b = T
  ·subst q
   rw [hT] at hb
   cases hb
   rw [Heap.get?_update_self _ hT (Obj.isFreed_of_fields hd')]
   congr 1
   obtain ⟨oc, od, odt, osl⟩ := oT
   cases hdT
   show Obj.mk oc od (.fields (ts.setIfInBounds 3 (rawInt L))) osl = _
   rw [e1]
  ·rw [Heap.get?_update_other _ _ (Ne.symm q)]; exact hb
 have g := h _ keep ⟨n0, nH, oe, vs, a0, T, oT, ts, keep _ _ he, hc, hd, hz, h1, hTe, keep _ _ hT, hdT, h3, nT, nHT⟩
 rw [hf]
 exact wpAny_throw (α := α) (by exact g)
end
def aOw (X : Cx) (W : Addr -> L2.St -> Hp -> Prop) : Prop := ∀ (pins : List (Addr × Obj)) (σ : L2.St) (H : Hp) (s : Shared) (ea C : Addr), Inv X pins σ H s -> FlyM C X.s₀.heap H ea X.env.locals s.heap -> W C σ H -> X.xe (.ref ea) s
theorem aLk {K : Frag}      {f : Addr}  {A : Around}    {E : XK} :
  aOw (uM (CX1 P w) P w K mg base N qual scope f cd A outer s0 H0 E) (fun C _ H' => E (.ref C) none H') := by
 intro pins σ H' s' ea C J F hE
 have th1 : ∀ b o, s0.heap.get? b = some o -> ∃ o', s'.heap.get? b = some o' := fun b o e => J.base.there b o e (by intro z; cases z)
 refine aI2 (h0 := s0.heap) (L := s0.heap.objs.size) J.stack rfl th1 (nO J.hok) F fun h' F' m => ?_
 refine ⟨ea, C, H', rfl, J.os, J.bare, ?_, qM J.hok m J.stkFree, F', hE⟩
 have nl : ∀ b o, s0.heap.get? b = some o -> b ≠ s0.heap.objs.size := fun b o e => Nat.ne_of_lt (Heap.lt_size e)
 have nf : ∀ b o, s0.heap.get? b = some o -> b ∉ frs outer -> b ∉ frs (envOfC qual scope s0.heap.objs.size f cd :: outer) := fun b o e hn z => by
  rcases List.mem_cons.mp (show b ∈ s0.heap.objs.size :: frs outer from z) with z | z
  ·exact nl b o e z
  ·exact hn z
 refine ⟨fun b o e n hb hx => ?_, fun b o e n hb hx => ?_, fun b o e n hx => J.base.free b o e n (by intro z; cases z), fun b o e hx => ?_, J.base.tups, J.base.frzs, J.base.tbls⟩
 ·exact (m b o (J.base.keep b o e n hb (by intro z; cases z)) (.inl ⟨o, e⟩)).1 (nf b o e hb)
 ·obtain ⟨sl, e1⟩ := J.base.slot b o e n hb (by intro z; cases z)
  obtain ⟨sl2, e2⟩ := (m b _ e1 (.inl ⟨o, e⟩)).2
  exact ⟨sl2, e2⟩
 ·obtain ⟨o', e1⟩ := th1 b o e
  obtain ⟨sl2, e2⟩ := (m b _ e1 (.inl ⟨o, e⟩)).2
  exact ⟨_, e2⟩
def aI3 (X : Cx) (W : XW) : Prop := aOw X fun C σ H' => ∃ c bm, ExcAt X.K c C bm /\ W (.exn c [] []) σ H'
theorem aS3 {K : Frag}    {st : Stmt} {f : Addr}   {k : Nat} {sm : Bool}  (F : FunD K x qual st dV f fd) (S : FnScope N ps (aL st)) (np n : Nat) (bd : Bd) (hnp : ps.length = np) (hn : N.length = n)
  (hb : ∀ (cdv : Value) (A : Around) (outer : List Env) (s : Shared) (H : Hp) (E : XK) (B : List Addr) (W : XW), Room k (A.deeper (envOfC qual (aL st) s.heap.objs.size f cdv)) ->
   qN (uM (CX1 P w) P w K mg base N qual (aL st) f cdv A outer s H E) W -> aI3 (uM (CX1 P w) P w K mg base N qual (aL st) f cdv A outer s H E) W -> PSs (uM (CX1 P w) P w K mg base N qual (aL st) f cdv A outer s H E) (gK st) (tSX K B sm W bd)) : FnOk P w K mg base (CX1 P w) (k + 1) f fd ps (spE K np (fV np n bd)) := by
 obtain ⟨oc, od, kV, doc, pm, an, cdv, ct, osl, rfl, lk, hcd⟩ := F.ex
 refine aIf lk hcd S (fun vs H Q E h => ?_) fun A outer s H vs Q E hr h => ?_
 ·obtain ⟨A, ds, own, r, hl, _⟩ := h
  rw [r.length, hl, hnp]
 ·obtain ⟨B, ds, own, r, hl, q⟩ := h
  let W : XW := fun x _ H' => ∀ C c bm, x = .exn c [] [] -> ExcAt K c C bm -> E (.ref C) none H'
  refine ⟨tSX K B sm W bd, hb cdv A outer s H E B W hr ?_ ?_, ?_⟩
  ·intro pins σ H1 s1 ea C H' s' I h1 h2 h3 h4 h5 ⟨c, bm, hc, hw⟩
   exact aBy pins σ H1 s1 ea C H' s' I h1 h2 h3 h4 h5 (hw C c bm rfl hc)
  ·intro pins σ H1 s1 ea C I h1 ⟨c, bm, hc, hw⟩
   exact aLk pins σ H1 s1 ea C I h1 (hw C c bm rfl hc)
  ·have rs := aBq (N := N) own r
   rw [hl, hn] at rs
   refine ⟨[], _, rs, ?_⟩
   have fin : ∀ {A' : List Addr} {H' : Hp}, Le [] H A' H' -> aM H H' := fun {A' H'} l => by
    unfold Le at l
    rw [wW] at l
    exact l.trans (aY _ _)
   unfold fV at q
   rw [aG hl] at q
   cases hfl : bd (ds.map (fun d => some (Sl.v d)) ++ List.replicate (n - np) none) with
   | ok fl =>
    rw [hfl] at q
    cases fl with
    | nx s1 => exact fun A' σ' H' l rs' => q _ H' (fin l) (bV.mpr rfl)
    | rt d' => exact fun A' v H' l rv => q v H' (fin l) (rv.mono (dR fun a ha => List.mem_append_right _ ha))
    | bk s1 => exact q.elim
    | ct s1 => exact q.elim
   | exc x =>
    rw [hfl] at q
    exact fun A' st' σ' H' l rs' _ C c bm e hc => q C c bm H' e hc (fin l)
   | bad => rw [hfl] at q; exact q
theorem aEy {scope : Scope}  (h : ∀ x ∈ scope.names, x.2 ≠ .free) : relabel scope env = scope := by
 unfold relabel
 obtain ⟨k, names⟩ := scope
 congr 1
 refine (List.map_congr_left fun x hx => ?_).trans (List.map_id _)
 obtain ⟨n, k'⟩ := x
 have : (k' == NameKind.free) = false := by simpa using h _ hx
 simp [this]
theorem aGl {cells : List (Str × Addr)} : ∀ (names : List (Str × NameKind)), (∀ x ∈ names, x.2 ≠ .free) -> clo cells names [] = []
 | [], _ => rfl
 | (n, k) :: r, h => by
  have h1 := h _ (mem_cons_self)
  have ih := aGl (cells := cells) r fun x hx => h x (mem_cons_of_mem _ hx)
  cases k <;> first | exact (h1 rfl).elim | exact ih
section
variable {M : Model} {A : Around} {E : Value -> Shared -> Prop} {s : Shared} {env : Env}
def cpX (M : Model) (A : Around) (E : Value -> Shared -> Prop) (use : Option (Value -> Sem Unit)) (Q : Value -> Shared -> Prop) (acc : Value) (cenv : Env) (r : Result) (s' : Shared) : Prop := match r with
 | .ok f => compPost M A E use Q acc cenv.locals (.ok f) s'
 | .error x => ∃ m, s'.heap.Ns cenv.locals m /\ ∀ h', Heap.SameBut cenv.locals s'.heap h' -> wpAny M A (PySem.passOn "comprehension.variables-let-go" x cenv : Sem Value) (fun _ _ => False) E { s' with heap := h' }
theorem aI4 {scope : Scope}  {newAcc first : Sem Value} {g : Comprehension} {gs : List Comprehension} {use : Option (Value -> Sem Unit)} {Q : Value -> Shared -> Prop} (hcl : clausesOf e = g :: gs) (hs : ∀ x, foldedSetIterable g.iter env x = pure x)
  (hfree : ∀ x ∈ scope.names, x.2 ≠ .free) (hkind : scope.kind = .function) (hnames : ∀ x ∈ scope.names, x.2 = .local -> scope.names.lookup x.1 = some .local)
  (h : wpAny M A first (fun x s₁ => wpAny M A (pyIter x) (fun it s₂ => wpAny M A newAcc (fun acc s₃ => wpAny M A (newFunctionEnv scope env.globals [] [] env.qual none .none (some env)) (fun cenv s₄ =>
   codeAny M A (.compStart e 0 it acc { cenv with scope := scope }) (cpX M A E use Q acc { cenv with scope := scope }) s₄) E s₃) E s₂) E s₁) E s) :
  wpAny M A (comprehension e scope env pos newAcc false first use) Q E s := by
 cases use with
 | none =>
  refine wpAny_comprehension hcl hs hfree hkind hnames (wpAny_mono h (fun x s1 h1 => wpAny_mono h1 (fun it s2 h2 => wpAny_mono h2 (fun acc s3 h3 => wpAny_mono h3 (fun cenv s4 h4 => codeAny_mono h4 fun r s' hr => ?_) fun _ _ z => z) fun _ _ z => z) fun _ _ z => z) fun _ _ z => z)
  cases r with
  | ok f => exact hr
  | error x =>
   obtain ⟨m, hn, k⟩ := hr
   exact ⟨m, hn, fun h' hs' => wpAny_mono (k h' hs') (fun _ _ z => z.elim) fun _ _ z => z⟩
 | some u =>
  refine wpAny_comprehension_use hcl hs hfree hkind hnames (wpAny_mono h (fun x s1 h1 => wpAny_mono h1 (fun it s2 h2 => wpAny_mono h2 (fun acc s3 h3 => wpAny_mono h3 (fun cenv s4 h4 => codeAny_mono h4 fun r s' hr => ?_) fun _ _ z => z) fun _ _ z => z) fun _ _ z => z) fun _ _ z => z)
  cases r with
  | ok f => exact hr
  | error x =>
   obtain ⟨m, hn, k⟩ := hr
   exact ⟨m, hn, fun h' hs' => wpAny_mono (k h' hs') (fun _ _ z => z.elim) fun _ _ z => z⟩
end
theorem aI5 {iter : Expr}   {g : TG}  {it p : Addr} {fp : List Addr}   {R : Result -> Shared -> Prop}
  (T : Turn Y.prog Y.w Y.K tg J fp it tn) (hc : Y.calm = true) (hE : Y.xe = notedBy (model Y.prog Y.w) Y.A Y.env fun e s' => R (.error e) s') (hg : PG Y tg g) (he : PE Y elt te)
  (W : Nat -> Nat -> LSt -> List V -> Hp -> Prop)  (mono : ∀ τ H (Q Q' : VK), (∀ v H', Q v H' -> Q' v H') -> te τ H Q -> te τ H Q')
  (step : ∀ i m τ vs H, W i m τ vs H -> H p = some (.lst vs) /\ ((J.stop i H /\ Qe H) \/ (J.go i H /\ ∀ x H', J.yld i H x H' -> g x τ H' fun τ2 H2 => te τ2 H2 fun y H4 => H4 p = some (.lst vs) /\ vs.length < sizeLine /\ ∃ m', m' < m /\ W (i + 1) m' τ2 (vs ++ [y]) (upd H4 p (.lst (vs ++ [y]))))))
  (hR : ∀ τ H s, Inv Y [] τ H s -> Qe H -> R (.ok .next) s)      (I : Inv Y [] τ H s) (st : tn i s.heap) (fr : ∀ b ∈ fp, qP Y [] H b) (w : W i m τ vs H) :
  codeAny (model Y.prog Y.w) Y.A (.compLoop (.ListComp elt [⟨tg, iter, [], 0⟩] scope pos) 0 (.ref it) (.ref p) Y.env) R s := by
 have stat : ∀ {H' : Hp}, (∀ b ∈ fp, H' b = none) -> ∀ b ∈ fp, qP Y [] H' b := fun hn b hb => ⟨hn b hb, (fr b hb).2⟩
 refine codeAny_loop nY (fun n s' => ∃ i τ' vs' H', Inv Y [] τ' H' s' /\ tn i s'.heap /\ (∀ b ∈ fp, H' b = none) /\ W i n τ' vs' H') (fun n s3 hI => ?_) m ⟨i, τ, vs, H, I, st, fun b hb => (fr b hb).1, w⟩
 obtain ⟨i, τ3, vs3, H3, I3, st3, fr3, w3⟩ := hI
 show wpAny _ _ ((compTurn (.ListComp elt [⟨tg, iter, [], 0⟩] scope pos) 0 (.ref it) (.ref p) Y.env).onRaise (fun x => do noteFrame x Y.env; theTreesLotGoes x)) _ _ s3
 refine wpAny_noted ?_
 rw [rM]
 refine wpAny_bind (wpAny_standAt (wpAny_mono (E := Y.xe) (A := Y.A) ?_ (fun _ _ q => q) fun e s' q => by rw [hE] at q; exact q))
 obtain ⟨hp, hs⟩ := step i n τ3 vs3 H3 w3
 rcases hs with ⟨stop, qe⟩ | ⟨go, hs⟩
 ·refine wpAny_bind (thn (T.done Y rfl rfl rfl hc i [] s3 τ3 H3 Y.xe I3 (stat fr3) st3 stop) fun r s4 ⟨hr, I4⟩ => ?_)
  subst hr
  exact wpAny_pure (hR τ3 H3 s4 I4 qe)
 ·refine wpAny_bind (thn (T.item Y rfl rfl rfl hc i [] s3 τ3 H3 Y.xe I3 (stat fr3) st3 go) fun r s4 ⟨u, hr, h4⟩ => ?_)
  subst hr
  refine wpAny_bind (thn h4 fun _ s5 ⟨x, H5, I5, r5, y5, st5, fr5⟩ => ?_)
  have I5' := I5.pinned (stat fr5) (T.obj _ _ st5)
  refine wpAny_bind (thn (hg _ s5 τ3 H5 x u _ I5' r5 (hs x H5 y5)) fun _ s6 ⟨τ6, H6, I6, q6⟩ => ?_)
  refine aDh he (fun _ _ z => z) I6 (mono _ _ _ _ (fun y H4 ⟨a, b, m', hm, w7⟩ => ⟨a, b, fun s7 I7 => wpAny_pure ?_⟩) q6)
  refine ⟨rfl, m', hm, i + 1, τ6, _, _, I7.unpinned, T.keep _ _ _ st5 fun b hb o e => (I7.pin (b, o) (List.mem_append_right _ (List.mem_append_right _ (kW hb e)))).1, fun b hb => ?_, w7⟩
  obtain ⟨o, e, d⟩ := T.obj _ _ st5 b hb
  exact (I7.pin (b, o) (List.mem_append_right _ (List.mem_append_right _ (kW hb e)))).2.1
section
variable {X : Cx} {scope : Scope} {is : List Nat} {elt tg iter : Expr} {pos : Pos} {wi : TI} {g : TG} {te : TE} {W' : XW}
def aX9 (is : List Nat) (wi : TI) (g : TG) (te : TE) : TE := fun σ H Q => wi σ H fun J H1 => ∀ p, H1 p = none -> ∃ W : Nat -> Nat -> LSt -> List V -> Hp -> Prop, (∃ m, W 0 m (aCk is σ) [] (upd H1 p (.lst []))) /\
 ∀ i m τ vs H, W i m τ vs H -> H p = some (.lst vs) /\ ((J.stop i H /\ Q (.ref p) H) \/ (J.go i H /\ ∀ x H', J.yld i H x H' -> g x τ H' fun τ2 H2 =>
  te τ2 H2 fun y H4 => H4 p = some (.lst vs) /\ vs.length < sizeLine /\ ∃ m', m' < m /\ W (i + 1) m' τ2 (vs ++ [y]) (upd H4 p (.lst (vs ++ [y])))))
theorem aC8 {use : Option (Value -> Sem Unit)}      {H : Hp} {Q : VK} (S : CScope X scope is) (hc : X.calm = true) (hfree : ∀ x ∈ scope.names, x.2 ≠ .free) (hi : L2.PI X tg iter wi)
  (hst : X.stack = X.env :: X.outer /\ X.env.frame = some X.env.locals /\ X.ex = []) (hM : aOw X fun C σ' H' => σ' = σ /\ ∃ c bm, ExcAt X.K c C bm /\ W' (.exn c [] []) [] H')
  (hW : ∀ x τ H', W' x τ H' -> W' x [] H')
  (hg : ∀ C s₀ H₀ fp E, PG (pN (bR X scope C s₀ H₀ fp) [] E) tg g)
  (he : ∀ C s₀ H₀ fp E, qN (pN (bR X scope C s₀ H₀ fp) [] E) W' -> PE (pN (bR X scope C s₀ H₀ fp) [] E) elt te)
  (mono : ∀ τ H (Q Q' : VK), (∀ v H', Q v H' -> Q' v H') -> te τ H Q -> te τ H Q')
  (hs : ∀ x, foldedSetIterable iter X.env x = pure x) (I : Inv X pins σ H s) (h : aX9 is wi g te σ H Q)
  (hfin : ∀ C p H5 s5 m5 s3 H3 fp τ, s3.heap.objs.size <= C -> Inv X pins σ H3 s3 -> (∀ b ∈ fp, qP X pins H3 b) -> Inv (bR X scope C s3 H3 fp) [] τ H5 s5 -> s5.heap.Ns C m5 -> Q (.ref p) H5 -> compPost (model X.prog X.w) X.A X.xe use Qf (.ref p) C (.ok .next) s5) :
  wpAny (model X.prog X.w) X.A (comprehension (.ListComp elt [⟨tg, iter, [], 0⟩] scope pos) scope X.env ppos (newList []) false (eval iter X.env) use) Qf X.xe s := by
 refine aI4 (use := use) rfl hs hfree S.kind S.names ?_
 refine thn (hi pins s σ H _ I h) fun v s1 h1 => thn h1 fun itv s2 h2 => ?_
 obtain ⟨it, fp, tn, J, H2, e, I2, T, st2, f2, hQ⟩ := h2
 subst e
 refine wpAny_newObj_type (aDg fun h₁ hns₁ hkp hcl₁ => ?_)
 have I3 : Inv X pins σ (upd H2 s2.heap.objs.size (.lst [])) { s2 with heap := s2.heap.push { cls := .type "list", data := .seq ([] : List Value).toArray } } := I2.lnew (t' := s2.toks) .nil (zero_le _)
 obtain ⟨W, ⟨m, w0⟩, step⟩ := hQ s2.heap.objs.size I2.fresh
 have hob : ∀ b ∈ fp, b < s2.heap.objs.size := fun b hb => let ⟨o, e, _⟩ := T.obj 0 _ st2 b hb; Heap.lt_size e
 have hfp : ∀ b ∈ fp, qP X pins (upd H2 s2.heap.objs.size (.lst [])) b := fun b hb => ⟨by rw [aU (Nat.ne_of_lt (hob b hb))]; exact (f2 b hb).1, (f2 b hb).2⟩
 have hk : ∀ b o, (s2.heap.push { cls := .type "list", data := .seq ([] : List Value).toArray }).get? b = some o -> h₁.get? b = some o := hkp
 have Ic := aBt (t' := s2.toks) S hc I3 hfp (fun b hb => Nat.lt_of_lt_of_le (hob b hb) (by rw [Heap.size_push]; exact le_succ _)) hns₁ hk hcl₁
 have st4 : tn 0 h₁ := T.keep 0 _ _ st2 fun b _ o e => hk b o (Heap.get?_push_of_some _ e)
 have fr4 : ∀ b ∈ fp, qP (bR X scope _ _ _ fp) [] (upd H2 s2.heap.objs.size (.lst [])) b := fun b hb => ⟨(hfp b hb).1, (Ic.ok.exf b hb).1, Ic.ok.exfs b hb, .inl hb, fun x c e => (Ic.ok.exf b hb).2 x c e, fun p hp => absurd (show p ∈ ([] : List (Addr × Obj)) from hp) (by simp)⟩
 have e1 : relabel scope X.env = scope := aEy hfree
 have e2 : clo X.env.cells scope.names [] = [] := aGl _ hfree
 have hns : ∀ {C' : Addr} {h h2 : Heap} {H' : Hp} {Cc ea L : Addr} {h0 : Heap} {m5 : Str -> Option Value}, h.Ns C' m5 -> Heap.SameBut C' h h2 -> FlyM Cc h0 H' ea L h -> FlyM Cc h0 H' ea L h2 := by
  intro C' h h2 H' Cc ea L h0 m5 hn hs F
  obtain ⟨n0, nH, oe, vs, a0, T', oT, ts, he', hc', hd, hz, h1', hTe, hT, hdT, h3, nT, nHT⟩ := F
  obtain ⟨oC, es, ep, hoC, hdC, _⟩ := hn
  have n1 : ea ≠ C' := fun z => by rw [z, hoC] at he'; cases he'; rw [hdC] at hd; cases hd
  have n2 : T' ≠ C' := fun z => by rw [z, hoC] at hT; cases hT; rw [hdC] at hdT; cases hdT
  exact ⟨n0, nH, oe, vs, a0, T', oT, ts, (hs.2 _ n1).trans he', hc', hd, hz, h1', hTe, (hs.2 _ n2).trans hT, hdT, h3, nT, nHT⟩
 generalize hs3 : ({ s2 with heap := s2.heap.push { cls := .type "list", data := .seq ([] : List Value).toArray } } : Shared) = s3 at *
 have eC : (s2.heap.push { cls := .type "list", data := .seq ([] : List Value).toArray }).objs.size = s3.heap.objs.size := by rw [<- hs3]
 generalize hH3 : upd H2 s2.heap.objs.size (.lst []) = H3 at *
 let Y := bR X scope s3.heap.objs.size s3 H3 fp
 let R := cpX (model X.prog X.w) X.A X.xe use Qf (.ref s2.heap.objs.size) Y.env
 let E : Value -> Shared -> Prop := notedBy (model X.prog X.w) X.A Y.env fun e s' => R (.error e) s'
 have hL : qN (pN Y [] E) W' := by
  intro pins' τ Hc sc ea Cc H' s' J hos hbare un hok F ⟨c, bm, hc', hw⟩
  have J1 : Inv Y [] τ Hc sc := jF (X := Y) (pins := []) Ic.ok J
  have K1 : Inv Y [] τ H' s' := J1.call' (ch := []) hos un hok hbare fun _ z => nomatch z
  have fr : X.A.frames = some X.stack := K1.ok.frames
  have sk := K1.stack
  have fr' := fr
  rw [hst.1] at fr'
  have sk' := sk
  rw [show Y.stack = X.env :: X.outer from hst.1] at sk'
  show wpAny (model X.prog X.w) X.A (noteFrame (.ref ea) X.env) (fun _ s2 => R (.error (.ref ea)) s2) (fun e s2 => R (.error e) s2) s'
  refine aOu fr' sk' hst.2.1 (fun b o e => un.there b o e (by intro z; cases z)) (nO hok) F fun h' F' m' => ?_
  have un' : Un (frs X.stack) [] Hc H' sc.heap h' := aBz un m' (by rw [hst.1]; exact fun _ z => z)
  have K2 : Inv Y [] τ H' { s' with heap := h' } := J1.call' (s' := { s' with heap := h' }) (ch := []) hos un' (qM hok m' (by rw [<- hst.1]; exact K1.stkFree)) hbare fun _ z => nomatch z
  obtain ⟨m5, hn5, _⟩ := K2.loc
  refine ⟨m5, hn5, fun h2 hs2 => ?_⟩
  have K3 : Inv X pins σ H' { s' with heap := h2 } := uJ (s5 := { s' with heap := h' }) I3 hfp (Nat.le_refl _) K2 hs2
  have B0 : Inv X pins σ Hc { sc with heap := sc.heap } := uJ I3 hfp (Nat.le_refl _) J1 (.refl ..)
  have F2 := (hns hn5 hs2 F').back (h0 := X.s₀.heap) fun b o e => B0.base.there b o e (by rw [hst.2.2]; intro z; cases z)
  refine aOv (env := Y.env) (L := X.env.locals) hst.2.1 F2 fun h3 k3 F3 => hM pins σ H' _ ea Cc ?_ F3 ⟨rfl, c, bm, hc', hW _ _ _ hw⟩
  exact K3.call' (s' := { s' with heap := h3 }) (ch := []) rfl (Un.kept k3) (K3.hok.kept k3) hbare fun _ z => nomatch z
 have IcE : Inv (pN Y [] E) [] (aCk is σ) H3 { s2 with heap := h₁ } := aGf (X := Y) (pins := []) (by subst hs3; exact Ic)
 have loop := aI5 (Y := pN Y [] E) (elt := elt) (iter := iter) (scope := scope) (pos := pos) (p := s2.heap.objs.size) T rfl rfl (hg _ _ _ fp E) (he _ _ _ fp E hL) W mono step
  (R := R) (fun τ H5 s5 I5 q5 => by
   have I5' : Inv Y [] τ H5 s5 := jF (X := Y) (pins := []) Ic.ok I5
   obtain ⟨m5, hn5, _⟩ := I5'.loc
   exact hfin _ _ H5 s5 m5 _ _ fp τ (Nat.le_refl _) I3 hfp I5' hn5 q5) IcE st4 fr4 w0
 have eY : ({ scope := scope, locals := s3.heap.objs.size, globals := X.env.globals, cells := cellsFrom (s3.heap.objs.size + 1) scope.names [], qual := X.env.qual, func := none, code := X.env.code, frame := X.env.frame, builtins := X.env.builtins } : Env) = Y.env := by
  show _ = compEnvC scope (cellsFrom (s3.heap.objs.size + 1) scope.names (clo X.env.cells scope.names [])) s3.heap.objs.size X.env
  unfold compEnvC
  rw [e1, e2]
 have fin : codeAny (model X.prog X.w) X.A (.compStart (.ListComp elt [⟨tg, iter, [], 0⟩] scope pos) 0 (.ref it) (.ref s2.heap.objs.size) Y.env) (cpX (model X.prog X.w) X.A X.xe use Qf (.ref s2.heap.objs.size) Y.env) { s2 with heap := h₁ } := codeAny_compStart_list loop (T.self _ 0 _ _ _ st4 loop)
 rw [<- eY] at fin
 subst hs3
 exact fin
end
def aLl (K : Frag) (W : XW) (f : Ex) : TE := fun τ H Q => ∃ B, tIX K B W f τ H Q
theorem aDq {K : Frag}   (τ : LSt) (H : Hp) (Q Q' : VK) (m : ∀ v H', Q v H' -> Q' v H') (h : aLl K W f τ H Q) : aLl K W f τ H Q' := by
 obtain ⟨B, A, st, rs, q⟩ := h
 refine ⟨B, A, st, rs, ?_⟩
 cases e : f st with
 | ok d => rw [e] at q; exact fun v H' s r => m v H' (q v H' s r)
 | exc x => rw [e] at q; exact q
 | bad => rw [e] at q; exact q.elim
theorem aS4 (h : ∀ B, PE X e (tIX X.K B W f)) : PE X e (aLl X.K W f) := fun pins s σ H Q I ⟨B, q⟩ => h B pins s σ H Q I q
theorem aOx {K : Frag}        {st : PSt}  (rs : RS K B A H st σ) (hx : it st = .ok xs) (hl : xs.length <= big)  {Q : VK}
  (hb : cY (tgN j) aZ f (clr [j] st) xs ≠ .bad) (qx : ∀ x τ H', cY (tgN j) aZ f (clr [j] st) xs = .exc x -> aM H H' -> W' x τ H')
  (q : ∀ ys, cY (tgN j) aZ f (clr [j] st) xs = .ok ys -> ∀ p vs H1 H', aM H H1 -> H1 p = none -> aM H1 H' -> H' p = some (.lst vs) -> bA K (hide (A ++ p :: B) H') ys vs -> Q (.ref p) H') : aX9 [j] (tIt K B it) (tGx K (tgN j)) (aLl K W' f) σ H Q := by
 refine ⟨A, st, xs, rs, hx, fun J H1 s1 ito p hp => ?_⟩
 have rs1 := rs.mono s1
 refine ⟨fun i m τ vs H' => m = xs.length - i /\ i <= xs.length /\ vs.length <= i /\ H' p = some (.lst vs) /\ aM H1 H' /\ RS K (p :: B) A H' (clr [j] st) τ /\
   ∃ ds, bA K (hide (A ++ p :: B) H') ds vs /\ cY (tgN j) aZ f (clr [j] st) xs = (cY (tgN j) aZ f (clr [j] st) (xs.drop i)).bind fun rest => .ok (ds ++ rest), ⟨xs.length, by simp, zero_le _, zero_le _, bY, dB hp, (rs1.clr [j]).grow hp, [], .nil, ?_⟩, ?_⟩
 ·rw [drop_zero]
  cases cY (tgN j) aZ f (clr [j] st) xs <;> rfl
 rintro i m τ vs H' ⟨rfl, hi, hvl, hpv, s2, rs2, ds, rds, hr⟩
 refine ⟨hpv, ?_⟩
 have mv : ∀ a, a ∈ (p :: A) ++ B ↔ a ∈ A ++ p :: B := fun a => by
  rw [mem_mid]
  exact mem_cons
 have le : Le A H1 (p :: A) H' := fun b u z => by
  have z1 := aY _ _ _ _ z
  have hb : b ∉ A := fun w => by rw [eG w] at z; cases z
  have ne : b ≠ p := aK z1 hp
  rw [bI (show b ∉ p :: A from fun w => (List.mem_cons.mp w).elim ne hb)]
  exact s2 b u z1
 obtain ⟨i1, i2⟩ := ito (p :: A) H' le (fun a ha => rs2.own a ((mv a).mp ha)) i
 by_cases hlt : i < xs.length
 ·have hd' : xs[i]? = some xs[i] := List.getElem?_eq_getElem hlt
  obtain ⟨go, yl⟩ := i1 _ hd'
  rw [drop_eq_getElem_cons hlt] at hr
  have hr : cY (tgN j) aZ f (clr [j] st) xs = ((f ((clr [j] st).set j (some (.v xs[i])))).bind fun y => (cY (tgN j) aZ f (clr [j] st) (xs.drop (i + 1))).bind fun ys => .ok (y :: ys)).bind fun rest => .ok (ds ++ rest) := hr
  refine .inr ⟨go, fun x H2 y => ?_⟩
  obtain ⟨sm3, rx⟩ := yl x H2 y
  have hpv := sm3 _ _ hpv
  have s2 := s2.trans sm3
  have rs2 := rs2.mono sm3
  have rds := rds.mono (aM.hide sm3)
  have rx' : Rep K (hide (A ++ p :: B) H2) xs[i] x := rx.mono (dR fun a ha => (mv a).mpr ha)
  obtain ⟨sl, sg⟩ := jK (i := j) xs[i] (clr [j] st) _ rfl
  have back : ∀ (k : Nat) (z : Sl), (clr [j] st)[k]? = some (some z) -> ((clr [j] st).set j (some (.v xs[i])))[k]? = some (some z) := fun k z ez => by rw [sg k (xF [j] st k z ez).2]; exact ez
  refine ⟨p :: B, A, clr [j] st, xs[i], _, rs2, rx', rfl, fun τ2 rs3 => ⟨p :: B, A, _, rs3, ?_⟩⟩
  cases hf : f ((clr [j] st).set j (some (.v xs[i]))) with
  | ok y' =>
   rw [hf] at hr
   intro v H4 s4 r4
   refine ⟨s4 _ _ hpv, ?_, xs.length - (i + 1), by omega, rfl, hlt, by rw [length_append, length_singleton]; omega, bY, ?_, ?_, ds ++ [y'], ?_, ?_⟩
   ·have : sizeLine = 16777216 := by decide
    have hbg := jO
    omega
   ·exact fun b u z => by rw [aU (aK z hp)]; exact s4 _ _ (s2 b u z)
   ·exact ((rs3.mono s4).weaken (by rw [sl]) back).put
   ·rw [gW (mem_mid.mpr (.inl rfl))]
    exact (rds.mono (aM.hide s4)).append (.cons r4 .nil)
   ·rw [hr]
    show ((cY (tgN j) aZ f (clr [j] st) (xs.drop (i + 1))).bind fun ys => R.ok (y' :: ys)).bind _ = _
    cases cY (tgN j) aZ f (clr [j] st) (xs.drop (i + 1)) with
    | ok ys => show R.ok (ds ++ y' :: ys) = R.ok (ds ++ [y'] ++ ys); rw [List.append_assoc]; rfl
    | exc _ => rfl
    | bad => rfl
  | exc x =>
   rw [hf] at hr
   exact fun H4 s4 => qx x _ H4 hr ((s1.trans s2).trans s4)
  | bad => rw [hf] at hr; exact hb hr
 ·have e : i = xs.length := by omega
  subst e
  rw [drop_length] at hr
  have hr : cY (tgN j) aZ f (clr [j] st) xs = .ok (ds ++ []) := hr
  rw [append_nil] at hr
  exact .inl ⟨i2 (Nat.le_refl _), q ds hr p vs H1 H' s1 hp s2 hpv rds⟩
section
variable    {iter : Expr}    
theorem aDr {st : PSt} (h : match jD j it f st with | .bad => False | _ => True) : ∃ xs, it st = .ok xs /\ xs.length <= big /\ jD j it f st = (cY (tgN j) aZ f (clr [j] st) xs).bind fun ys => .ok (.lst ys) := by
 unfold jD at h ⊢
 cases e : it st with
 | ok xs =>
  rw [e] at h
  by_cases c : xs.length <= big
  ·exact ⟨xs, rfl, c, aG c⟩
  ·simp only [aH, if_neg c] at h
 | exc x => rw [e] at h; exact h.elim
 | bad => rw [e] at h; exact h.elim
theorem aR8 (j : Nat) (S : CScope X scope [j]) (hM : aI3 X W) (hi : L2.PI X tg iter (tIt X.K B it)) (hg : ∀ (B : List Addr) (C : Addr) (s₀ : Shared) (H₀ : Hp) (fp : List Addr) (E : Value -> Shared -> Prop), PG (pN (bR X scope C s₀ H₀ fp) [] E) tg (tG X.K B (tgN j)))
  (he : ∀ (B : List Addr) (C : Addr) (s₀ : Shared) (H₀ : Hp) (fp : List Addr) (E : Value -> Shared -> Prop) (W : XW), qN (pN (bR X scope C s₀ H₀ fp) [] E) W -> PE (pN (bR X scope C s₀ H₀ fp) [] E) elt (tIX X.K B W f)) (hc : X.calm = true)
  (hfree : ∀ x ∈ scope.names, x.2 ≠ .free := by decide) (hst : X.stack = X.env :: X.outer /\ X.env.frame = some X.env.locals /\ X.ex = [] := by exact ⟨rfl, rfl, rfl⟩) (hs : ∀ x, foldedSetIterable iter X.env x = pure x := by intro _; rfl) :
  PE X (.ListComp elt [⟨tg, iter, [], 0⟩] scope pos) (tIX X.K B W (jD j it f)) := by
 intro pins s σ H Q I ⟨A, st, rs, h⟩
 obtain ⟨xs, hx, hl, er⟩ := aDr (j := j) (it := it) (f := f) (st := st) (by
  cases e : jD j it f st <;> rw [e] at h
  ·trivial
  ·trivial
  ·exact h)
 rw [er] at h
 rw [eval_ListComp]
 refine aC8 (use := none) (Qf := EP X pins σ Q) (Q := Q) (W' := fun x _ H' => W x σ H') (te := aLl X.K (fun x _ H' => W x σ H') f) S hc hfree hi hst (fun pins' σ' H' s' ea C I' F ⟨e, c, bm, hc', hw⟩ => hM pins' σ' H' s' ea C I' F ⟨c, bm, hc', by rw [e]; exact hw⟩) (fun _ _ _ z => z)
  (fun C s₀ H₀ fp E => aQm fun B => hg B C s₀ H₀ fp E) (fun C s₀ H₀ fp E hL => aS4 fun B => he B C s₀ H₀ fp E _ hL) (fun τ H Q Q' m h => aDq τ H Q Q' m h) hs I
  (aOx rs hx hl (fun z => by rw [z] at h; exact h) (fun x τ H' z sm => by rw [z] at h; exact h H' sm) fun ys z p vs H1 H' s1 hp s2 hv r => ?_) fun C p H5 s5 m5 s3 H3 fp τ hC I3 hfp I5 hn5 q5 => ⟨m5, hn5, fun h' hs' => ⟨.ref p, H5, uJ I3 hfp hC I5 hs', rfl, q5⟩⟩
 rw [z] at h
 exact aEq rs h s1 hp s2 hv r
theorem aR9 (i : Nat) {x : Str}  (j : Nat) (S : CScope X scope [j]) (hM : aI3 X W) (hi : L2.PI X tg iter (tIt X.K B it)) (hg : ∀ (B : List Addr) (C : Addr) (s₀ : Shared) (H₀ : Hp) (fp : List Addr) (E : Value -> Shared -> Prop), PG (pN (bR X scope C s₀ H₀ fp) [] E) tg (tG X.K B (tgN j)))
  (he : ∀ (B : List Addr) (C : Addr) (s₀ : Shared) (H₀ : Hp) (fp : List Addr) (E : Value -> Shared -> Prop) (W : XW), qN (pN (bR X scope C s₀ H₀ fp) [] E) W -> PE (pN (bR X scope C s₀ H₀ fp) [] E) elt (tIX X.K B W f)) (hc : X.calm = true) (hN : X.N.Nodup)
  (hi' : X.N[i]? = some x := by rfl) (hx : Loc X.env.scope x := by first | exact Or.inl rfl | exact Or.inr rfl) (hsw : swapsWith (.ListComp elt [⟨tg, iter, [], 0⟩] scope pos) (some (.Name x px)) spos.line X.env = pure true := by rfl)
  (hf : X.fn x = true \/ X.env.scope.names.lookup x = some .local := by first | exact .inl rfl | exact .inr rfl | assumption)
  (hfree : ∀ x ∈ scope.names, x.2 ≠ .free := by decide) (hst : X.stack = X.env :: X.outer /\ X.env.frame = some X.env.locals /\ X.ex = [] := by exact ⟨rfl, rfl, rfl⟩) (hs : ∀ x, foldedSetIterable iter X.env x = pure x := by intro _; rfl) :
  PS X (.Assign [.Name x px] (.ListComp elt [⟨tg, iter, [], 0⟩] scope pos) spos) (tSX X.K B true W (eF i (jD j it f))) := by
 intro pins s σ H Dn I ⟨A, st, rs, h⟩
 have hb : eF i (jD j it f) st = (jD j it f st).bind fun d => .ok (.nx (st.set i (some (.v d)))) := rfl
 rw [hb] at h
 obtain ⟨xs, hx', hl, er⟩ := aDr (j := j) (it := it) (f := f) (st := st) (by
  cases e : jD j it f st <;> rw [e] at h
  ·trivial
  ·trivial
  ·exact h)
 rw [er] at h
 rw [exec_Assign_Name_used _ _ _ _ hsw]
 refine wpAny_bind (wpAny_standAt (wpAny_bind ?_))
 show wpAny _ X.A (do let _ <- comprehension (.ListComp elt [⟨tg, iter, [], 0⟩] scope pos) scope X.env _ (newList []) false (eval iter X.env) (some (assign (.Name x px) X.env))) _ _ s
 refine wpAny_bind (wpAny_mono (Q := fun _ s' => SP X pins Dn .next s') ?_ (fun _ s' hq => wpAny_pure (wpAny_pure hq)) fun _ _ e => e)
 refine aC8 (use := some (assign (.Name x px) X.env)) (Qf := fun _ s' => SP X pins Dn .next s') (Q := fun v H' => Dn.nx (σ.set i (some v)) H') (W' := fun x _ H' => W x σ H') (te := aLl X.K (fun x _ H' => W x σ H') f) S hc hfree hi hst (fun pins' σ' H' s' ea C I' F ⟨e, c, bm, hc', hw⟩ => hM pins' σ' H' s' ea C I' F ⟨c, bm, hc', by rw [e]; exact hw⟩) (fun _ _ _ z => z)
  (fun C s₀ H₀ fp E => aQm fun B => hg B C s₀ H₀ fp E) (fun C s₀ H₀ fp E hL => aS4 fun B => he B C s₀ H₀ fp E _ hL) (fun τ H Q Q' m h => aDq τ H Q Q' m h) hs I
  (aOx rs hx' hl (fun z => by rw [z] at h; exact h) (fun x τ H' z sm => by rw [z] at h; exact h A st σ H' (Le.of sm) (rs.mono sm) fun _ => rfl) fun ys z p vs H1 H' s1 hp s2 hv r => ?_) fun C p H5 s5 m5 s3 H3 fp τ hC I3 hfp I5 hn5 q5 => zK hN hi' hx hf hC I3 hfp I5 hn5 fun s' I' => ⟨_, _, I', q5⟩
 rw [z] at h
 exact aEq (Q := fun v H' => Dn.nx (σ.set i (some v)) H') rs (fun v H' sm rv => h A _ H' (Le.of sm) ((rs.mono sm).set i rv)) s1 hp s2 hv r
end
end Pu
namespace Pu
open PySem PySem.Spec PyProof.Rows L2
def tAX (K : Frag) (B : List Addr) (W : XW) (r : Exs) : TA := fun σ H Q => ∃ A st, RS K B A H st σ /\ (match r st with
 | .ok ds => ∀ vs H', aM H H' -> bA K (hide (A ++ B) H') ds vs -> Q vs H'
 | .exc x => ∀ H', aM H H' -> W x σ H'
 | .bad => False)
section
theorem aU2 : PA X [] (tAX X.K B W aV) := aEh gG (by
 rintro σ H Q ⟨A, st, rs, q⟩
 exact q [] H (aM.refl _) .nil)
theorem aJk (ha : PE X e (tIX X.K B W f)) (hr : PA X es (tAX X.K B W r)) (hs : starEach (e :: es) X.env = (false, eval e X.env) :: starEach es X.env := by rfl) : PA X (e :: es) (tAX X.K B W (aB f r)) := by
 refine aEh (dC ha hr hs) ?_
 rintro σ H Q ⟨A, st, rs, q⟩
 refine ⟨A, st, rs, ?_⟩
 unfold aB at q
 cases hf : f st with
 | ok d =>
  rw [hf] at q
  intro v H1 s1 r1
  refine ⟨A, st, rs.mono s1, ?_⟩
  cases hr : r st with
  | ok ds =>
   rw [R.bind_ok, hr] at q
   exact fun vs H2 s2 r2 => q _ H2 (s1.trans s2) (.cons (r1.mono (aM.hide s2)) r2)
  | exc x => rw [R.bind_ok, hr] at q; exact fun H' s' => q H' (s1.trans s')
  | bad => rw [R.bind_ok, hr] at q; exact q
 | exc x => rw [hf] at q; exact q
 | bad => rw [hf] at q; exact q
theorem aU3 (h : PA X es (tAX X.K B W r)) : PE X (.Tuple es x1 pos) (tIX X.K B W (aF8 r)) := by
 refine cW (aLy h) ?_
 rintro σ H Q ⟨A, st, rs, q⟩
 refine ⟨A, st, rs, ?_⟩
 unfold aF8 at q
 cases hr : r st with
 | ok ds =>
  rw [hr, R.bind_ok] at q
  by_cases c : ds.length <= big
  ·rw [aG c] at q
   exact fun vs H1 s1 r1 => ⟨by rw [r1.length]; exact lim c, fun p hp => q _ _ (s1.trans (dB hp)) (mK (rs.own.mono s1) hp r1)⟩
  ·simp only [aH, if_neg c] at q
 | exc x => rw [hr] at q; exact q
 | bad => rw [hr] at q; exact q
end
section
theorem aRa {orelse : List Stmt} {h₀ : ExceptHandler}   {tb : (Addr -> L2.St -> Hp -> Prop) -> TS} {th : Addr -> TS} {te : TS} (hst : X.stack = X.env :: X.outer /\ X.env.frame = some X.env.locals)
  (hb : ∀ (pn : List (Addr × Obj)) (E : Value -> Shared -> Prop) (W : Addr -> L2.St -> Hp -> Prop), aO2 (pN X pn E) W -> PSs (pN X pn E) body (tb W)) (hh : PH X (h₀ :: hs) th) (ho : PSs X orelse te) :
  PS X (.Try body (h₀ :: hs) orelse [] pos) (fun Dn σ H => tb (fun C σ' H' => th C Dn σ' H') { Dn with nx := te Dn } σ H) := by
 intro pins s σ H Dn I h
 refine wpAny_Try_except ?_
 have hL : aO2 (pN X (X.pn ++ pins) (onExc X (h₀ :: hs) pins Dn)) (fun C σ' H' => th C Dn σ' H') := by
  intro pins' σ' Hc sc ea C H' s' J hos hbare un hok F hW
  have J' := jF (pins := pins) I.ok J
  have K' : Inv X pins σ' H' s' := J'.call' (ch := []) hos un hok hbare fun _ z => nomatch z
  have fr := K'.ok.frames
  have sk := K'.stack
  rw [hst.1] at fr sk
  refine aO1 fr sk hst.2 (fun b o e => un.there b o e (by intro z; cases z)) (nO hok) F fun h' F' m => ?_
  have un' : Un (frs X.stack) [] Hc H' sc.heap h' := aBz un m (by rw [hst.1]; exact fun _ z => z)
  exact hh pins _ σ' H' Dn ea C ⟨Hc, sc, J', hos, hbare, un', qM hok m (by rw [<- hst.1]; exact K'.stkFree), F'⟩ hW
 refine wpAny_mono (hb _ _ _ hL [] s σ H { Dn with nx := te Dn } (aGf I) h) (fun f s1 z => ?_) fun e s1 z => z
 have z' := aL5 I.ok z
 cases f with
 | next => obtain ⟨σ', H', I', q⟩ := z'; exact ho pins s1 σ' H' Dn I' q
 | brk => exact z'
 | cont => exact z'
 | ret u => exact z'
theorem aU4 {orelse : List Stmt} {h₀ : ExceptHandler}  {b eb : Bd}  (hb : ∀ (pn : List (Addr × Obj)) (E : Value -> Shared -> Prop) (W : XW), qN (pN X pn E) W -> PSs (pN X pn E) body (tSX X.K B true W b)) (hh : PHD X B (h₀ :: hs) hl)
  (ho : PSs X orelse (tS X.K B eb)) (hst : X.stack = X.env :: X.outer /\ X.env.frame = some X.env.locals := by exact ⟨rfl, rfl⟩) : PS X (.Try body (h₀ :: hs) orelse [] pos) (tS X.K B (aD3 b hl eb)) := by
 refine fZ (aRa (tb := fun W' => tSX X.K B true (fun x σ' H' => ∀ C c bm, x = .exn c [] [] -> ExcAt X.K c C bm -> W' C σ' H') b) hst (fun pn E W' hL => hb pn E _ ?_) hh ho) ?_
 ·intro pins σ H s ea C H' s' I h1 h2 h3 h4 h5 ⟨c, bm, hc, hw⟩
  exact hL pins σ H s ea C H' s' I h1 h2 h3 h4 h5 (hw C c bm rfl hc)
 ·rintro Dn σ H ⟨A, st, r, rs, hr, p⟩
  refine ⟨A, st, rs, ?_⟩
  unfold aD3 at hr
  cases hb : b st with
  | ok r' =>
   rw [hb] at hr
   cases r' with
   | nx st' => exact fun A' σ' H' l rs' => ⟨A', st', r, rs', hr, p.mono l⟩
   | rt d => cases hr; exact p
   | bk st' => cases hr; exact p
   | ct st' => cases hr; exact p
  | bad => rw [hb] at hr; cases hr
  | exc x =>
   rw [hb] at hr
   intro A' st' σ' H' l rs' e C c bm ex hc
   subst ex
   have := e rfl
   subst this
   exact ⟨c, bm, A', st', r, hc, rs', hr, p.mono l⟩
end
end Pu
namespace Pu
open PySem PySem.Spec PyProof.Rows L2
theorem aJl {K : Frag}    (h : atom d = true) (r : Rep K H d v) : Rep K H' d v := (aC4 h r).mono fun b u (z : (none : Option HO) = some u) => nomatch z
def aDs (K : Frag) (B A Z : List Addr) (H : Hp) (r : Fl) (Dn : Ends) : Prop := match r with
 | .nx st => ∀ A' σ' H', LeN Z A H A' H' -> RS K B A' H' st σ' -> Dn.nx σ' H'
 | .rt d => ∀ A' v H', LeN Z A H A' H' -> Rep K (hide (A' ++ B) H') d v -> Dn.rt v H'
 | _ => False
theorem aDs.mono {K : Frag}   {r : Fl}  (l : LeN Z A H A1 H1) (h : aDs K B A Z H r Dn) : aDs K B A1 Z H1 r Dn := by
 cases r with
 | nx s => exact fun A' σ' H' l' => h A' σ' H' (l.trans l')
 | rt d => exact fun A' v H' l' => h A' v H' (l.trans l')
 | bk s => exact h
 | ct s => exact h
theorem aDs.post {K : Frag}   {r : Fl}  (l : LeN Z A H A1 H1) (h : aDs K B A Z H r Dn) : aBk K B A1 H1 r Dn := by
 cases r with
 | nx s => exact fun A' σ' H' l' => h A' σ' H' (l.trans (LeN.of l'))
 | rt d => exact fun A' v H' l' => h A' v H' (l.trans (LeN.of l'))
 | bk s => exact h.elim
 | ct s => exact h.elim
def tNP (K : Frag) (B : List Addr) (i : Nat) (nb : NP) : TS := fun Dn σ H => ∃ A Z st P ps xss r, NS K B A Z H st σ i P ps xss /\ nb xss st = .ok r /\ aDs K B A Z H r Dn
section
variable    {h : Ex}   {rest : List Stmt}   {pa pb : NP} 
theorem xM (h : PSs X rest (tS X.K B bd)) : PSs X rest (tNP X.K B i (pClose i bd)) := by
 intro pins s σ H Dn I ⟨A, Z, st, P, ps, xss, r, n, hr, q⟩
 exact h pins s σ H Dn I ⟨A, _, r, n.look, hr, q.post LeN.refl⟩
theorem aU5 (h : PS X sm (tNP X.K B i pa)) : PSs X [sm] (tNP X.K B i pa) := aAg h
theorem lX (h1 : PS X sm (tN X.K B i na)) (h2 : PSs X rest (tNP X.K B i pb)) : PSs X (sm :: rest) (tNP X.K B i (vH na pb)) := oU (pR h1 h2) (by
 rintro Dn σ H ⟨A, Z, st, P, ps, xss, r, n, hr, q⟩
 obtain ⟨r1, h1, h2⟩ := R.ok_of hr
 refine ⟨A, Z, st, P, ps, xss, r1, n, h1, ?_⟩
 cases r1 with
 | nx x s => exact fun A' σ' H' l n' => ⟨A', Z, s, P, ps, x, r, n', h2, q.mono l⟩
 | rt d => cases h2; exact q)
theorem aS5 {c : Expr} {t : Ex} {x : List Stmt} (hc : PT X c (tT X.K B t)) (ha : PSs X x (tNP X.K B i pa)) (hb : PSs X y (tNP X.K B i pb)) : PS X (.If c x y pos) (tNP X.K B i (pIf i t pa pb)) := by
 intro pins s σ H Dn I ⟨A, Z, st, P, ps, xss, r, n, hr, q⟩
 refine aIa hc ha hb pins s σ H Dn I ?_
 obtain ⟨d, hd, h3⟩ := R.ok_of hr
 obtain ⟨k, rfl, h4⟩ := qQ h3
 refine ⟨A, _, k, n.look, hd, fun H1 s1 => ?_⟩
 have lo := LeN.of (Z := Z) (Le.of (A := A) s1)
 cases k with
 | true => exact ⟨A, Z, st, P, ps, xss, r, n.same s1, h4, q.mono lo⟩
 | false => exact ⟨A, Z, st, P, ps, xss, r, n.same s1, h4, q.mono lo⟩
theorem aRb (h1 : PS X sm (tNP X.K B i pa)) (h2 : PSs X rest (tS X.K B bd)) : PSs X (sm :: rest) (tNP X.K B i (aIl pa bd)) := oU (pR h1 h2) (by
 rintro Dn σ H ⟨A, Z, st, P, ps, xss, r, n, hr, q⟩
 obtain ⟨r1, h1, h2⟩ := R.ok_of hr
 refine ⟨A, Z, st, P, ps, xss, r1, n, h1, ?_⟩
 cases r1 with
 | nx s => exact fun A' σ' H' l rs' => ⟨A', s, r, rs', h2, q.post l⟩
 | rt d => cases h2; exact q
 | bk s => cases h2; exact q
 | ct s => cases h2; exact q)
theorem aXa (h : PSs X rest (tNP X.K B i pa)) : PSs X rest (tN X.K B i (aMg pa)) := by
 intro pins s σ H Dn I ⟨A, Z, st, P, ps, xss, r, n, hr, q⟩
 obtain ⟨fl, hfl, h3⟩ := R.ok_of hr
 cases fl with
 | rt d => cases h3; exact h pins s σ H Dn I ⟨A, Z, st, P, ps, xss, .rt d, n, hfl, q⟩
 | nx s => cases h3
 | bk s => cases h3
 | ct s => cases h3
theorem aEz (j : Nat)   (he : PE X e (tI X.K B f)) (hN : X.N.Nodup) (hij : i ≠ j := by decide) (hi : X.N[j]? = some x := by rfl) (hx : Loc X.env.scope x := by first | exact Or.inl rfl | exact Or.inr rfl) (hs : swapsWith e (some (.Name x pos')) pos.line X.env = pure false := by rfl)
  (hf : X.fn x = true \/ X.env.scope.names.lookup x = some .local := by first | exact .inl rfl | exact .inr rfl | assumption) : PS X (.Assign [.Name x pos'] e pos) (tN X.K B i (aB3 i j f)) := by
 intro pins s σ H Dn I ⟨A, Z, st, P, ps, xss, r, n, hr, q⟩
 refine yE hN hi hx he hs hf pins s σ H Dn I ?_
 obtain ⟨d, hd, h3⟩ := R.ok_of hr
 obtain ⟨c, h4⟩ := aJ h3
 cases h4
 refine ⟨A, _, d, n.look, hd, fun v H1 s1 r1 => q A _ H1 (LeN.of (Le.of s1)) ?_⟩
 exact n.step (Le.of s1) ((n.rs.mono s1).set j (aJl c r1)) (by rw [aEw hij]; exact n.no) (by rw [aEw hij]; exact n.at_)
theorem aOy {ge he : Expr} {p3 : Pos} (hg : ∀ B, PE X ge (tP X.K B g)) (hh : PE X he (tP X.K B h)) (hf : PE X e (tI X.K B f)) (hN : X.N[i]? = some x := by rfl) (hv : Vis X.env.scope x := by first | exact Or.inl rfl | exact Or.inr (Or.inl rfl) | exact Or.inr (Or.inr rfl)) (hd : (x == ("__debug__" : Str)) = false := by decide)
  (hcd : (x == ("__classdict__" : Str)) = false := by decide) (hix : aAh ge := by intro _ _; rfl)
  (ha : ∀ v, assign (.Subscript (.Subscript (.Name x p1) ge p2) he p3) X.env v = (do
   let ov <- holding [v] (eval (.Subscript (.Name x p1) ge p2) X.env)
   let iv <- holding [v, ov] (eval he X.env)
   standAt p3
   holding [v, ov, iv] (setItem ov iv v)
   release [v, ov, iv] []) := by intro _; rfl)
  (hs : swapsWithSole [.Subscript (.Subscript (.Name x p1) ge p2) he p3] e pos.line X.env = pure false := by rfl) (hw : swappedStores [.Subscript (.Subscript (.Name x p1) ge p2) he p3] e X.env = pure none := by rfl)
  (h1 : (assignEach [.Subscript (.Subscript (.Name x p1) ge p2) he p3] X.env).map (·.2) = [assign (.Subscript (.Subscript (.Name x p1) ge p2) he p3) X.env] := by rfl) :
  PS X (.Assign [.Subscript (.Subscript (.Name x p1) ge p2) he p3] e pos) (tN X.K B i (aD2 i g h f)) := by
 intro pins s σ H Dn I ⟨A, Z, st, P, ps, xss, r, n, hr, q⟩
 refine aLu hf (aSh (aM1 aH4 (yC hN hv hd hcd) (hg (Z ++ B)) hix) hh set_list ha) hs hw h1 pins s σ H Dn I ?_
 obtain ⟨d, hd', h3⟩ := R.ok_of hr
 obtain ⟨cd, h3⟩ := aJ h3
 obtain ⟨a, hga, h4⟩ := R.ok_of h3
 obtain ⟨j, rfl, h5⟩ := rU h4
 obtain ⟨b, hhb, h6⟩ := R.ok_of h5
 obtain ⟨k, rfl, h7⟩ := rU h6
 obtain ⟨m, hm, h8⟩ := R.ok_of h7
 have hm' := sZ hm
 have hlt := aOg hm'
 rw [List.getElem?_eq_getElem hlt] at h8
 obtain ⟨l, hl, h9⟩ := R.ok_of (show (ofO (Pu.ixN (xss[m]).length k)).bind (fun l => .ok (.nx (xss.set m ((xss[m]).set l d)) st)) = .ok r from h8)
 cases h9
 refine ⟨A, _, d, n.look, hd', fun v H1 s1 rv => ?_⟩
 have n1 := n.same s1
 refine ⟨.ref P, n1.at_, A, st, .int j, n1.rs, hga, fun w H2 s2 r2 => ?_⟩
 have ev := r2.int
 subst ev
 have n2 := n1.same s2
 obtain ⟨p, vs, e1, e2, e3⟩ := n2.inn.get (List.getElem?_eq_getElem hlt)
 have hat : L2.atI (ps.map V.ref) j = some (V.ref p) := by
  have hl := n2.inn.len
  have : Pu.ixN (ps.map V.ref).length j = some m := by rw [length_map, hl]; exact hm'
  show (L2.ixN (ps.map V.ref).length j).bind (fun k => (ps.map V.ref)[k]?) = _
  rw [show L2.ixN (ps.map V.ref).length j = some m from this]
  show (ps.map V.ref)[m]? = _
  rw [List.getElem?_map, e1]; rfl
 refine .inl ⟨P, ps.map V.ref, j, .ref p, rfl, rfl, SqL.of n2.out, hat, A, _, .int k, n2.look, hhb, fun u H3 s3 r3 => ?_⟩
 have n3 := n2.same s3
 have e2' := s3 _ _ e2
 have hpZ : p ∈ Z := n.zs p (List.mem_of_getElem? e1)
 have hk : L2.ixN vs.length k = some l := by rw [e3.length, aFz]; exact sZ hl
 refine ⟨p, vs, k, l, rfl, r3.int, e2', hk, q A σ _ ?_ ?_⟩
 ·refine (LeN.of (Le.of (s1.trans (s2.trans s3)))).trans ?_
  show aM (hide (Z ++ A) H3) (hide (Z ++ A) (upd H3 p _))
  rw [gW (List.mem_append_left _ hpZ)]
  exact aM.refl _
 ·have hh : hide (A ++ (Z ++ B)) (upd H3 p (.lst (vs.set l v))) = hide (A ++ (Z ++ B)) H3 := gW (List.mem_append_right _ (List.mem_append_left _ hpZ))
  have ndp := List.nodup_cons.mp n.nd
  refine ⟨n3.rs.putB (List.mem_append_left _ hpZ), n3.no, n3.at_, ?_, ?_, n3.zb, n3.zp, n3.zs, n3.nd⟩
  ·rw [aU (fun z : P = p => ndp.1 (by rw [z]; exact List.mem_of_getElem? e1))]; exact n3.out
  ·rw [hh]
   exact n3.inn.put (bA.set (aJl cd rv) l (e3.mono (aM.hide s3))) ndp.2 e1
end
section
variable    {iter : Expr} {pl : Pos}  {r : Str} {rest : List Stmt}  
theorem aOz (j : Nat) {x : Str}  (hr : PSs X rest (tN X.K B i nb)) (S : CScope X scope [j]) (hi : L2.PI X (.Name r p2) iter (tIt X.K B (itE f))) (hg : ∀ (C : Addr) (s₀ : Shared) (H₀ : Hp) (fp : List Addr), PG (bR X scope C s₀ H₀ fp) (.Name r p2) (tgJ j))
  (he : ∀ (C : Addr) (s₀ : Shared) (H₀ : Hp) (fp : List Addr), PE (bR X scope C s₀ H₀ fp) (.Call (.Name "list" p0) [.Name r p1] [] pl) (teL X.K j)) (hc : X.calm = true) (hN : X.N.Nodup) (hi' : X.N[i]? = some x := by rfl) (hx : Loc X.env.scope x := by first | exact Or.inl rfl | exact Or.inr rfl)
  (hsw : swapsWith (.ListComp (.Call (.Name "list" p0) [.Name r p1] [] pl) [⟨.Name r p2, iter, [], 0⟩] scope pos) (some (.Name x px)) spos.line X.env = pure false := by rfl)
  (hf : X.fn x = true \/ X.env.scope.names.lookup x = some .local := by first | exact .inl rfl | exact .inr rfl | assumption) (hj : decide (j < X.N.length) = true := by rfl) (hs : ∀ x, foldedSetIterable iter X.env x = pure x := by intro _; rfl) :
  PSs X (.Assign [.Name x px] (.ListComp (.Call (.Name "list" p0) [.Name r p1] [] pl) [⟨.Name r p2, iter, [], 0⟩] scope pos) spos :: rest) (tS X.K B (vG i f nb)) := aDk hr hi' (fZ (yE hN hi' hx (aJc j S hi hg he hc (hj := hj) (hs := hs)) hsw hf) fun _ _ _ h => h)
end
end Pu
set_option maxHeartbeats 4000000
namespace Pu
open PySem PySem.Spec PyProof.Rows L2
def top (i : Nat) : Stmt := PySem.Challenge.pw_looprank_k16_texts_of_machines.main.body.getD i (.Pass ⟨0, 0, 0, 0⟩)
def inCls (s : Stmt) (j : Nat) : Stmt := match s with
 | .ClassDef _ _ _ b _ _ _ _ _ _ _ => b.getD j (.Pass ⟨0, 0, 0, 0⟩)
 | _ => .Pass ⟨0, 0, 0, 0⟩
abbrev tQ : Stmt := top 25
abbrev vU : Stmt := top 26
abbrev pO : Stmt := top 27
abbrev tR : Stmt := top 28
abbrev oA : Stmt := top 29
abbrev tU : Stmt := top 18
abbrev oE : Stmt := top 19
abbrev tV : Stmt := top 30
abbrev lD : Stmt := top 20
abbrev pP : Stmt := top 21
abbrev tW : Stmt := top 22
abbrev lE : Stmt := top 10
abbrev vV : Stmt := top 8
abbrev vW : Stmt := top 9
abbrev aC9 : Stmt := top 11
abbrev tX : Stmt := top 12
abbrev tY : Stmt := top 13
abbrev dH : Stmt := inCls (top 14) 0
abbrev oF : Stmt := top 23
abbrev tZ : Stmt := top 34
abbrev pQ : Stmt := top 31
abbrev uA : Stmt := top 32
abbrev jX : Stmt := top 33
abbrev xN : Stmt := top 35
theorem xO : FnScope ["_law_script", "_law_k"] ["_law_script", "_law_k"] (aL tQ) := ⟨rfl, rfl, rfl, by decide +kernel, rfl, by decide +kernel, by decide +kernel⟩
theorem aA9 : FnScope ["_law_cell_here", "_law_k", "_law_many", "_law_number"] ["_law_cell_here", "_law_k", "_law_many"] (aL vU) := ⟨rfl, rfl, rfl, by decide +kernel, rfl, by decide +kernel, by decide +kernel⟩
theorem uB : FnScope ["_law_cell_here", "_law_many", "_law_count", "_law_row", "_law_k"] ["_law_cell_here", "_law_many", "_law_count"] (aL pO) := ⟨rfl, rfl, rfl, by decide +kernel, rfl, by decide +kernel, by decide +kernel⟩
theorem xP : FnScope ["_law_script", "_law_most", "_law_first", "_law_many", "_law_count", "_law_steps", "_law_way", "_law_ranks", "_law_k", "_law_rank", "_law_j"] ["_law_script", "_law_most"] (aL tR) := ⟨rfl, rfl, rfl, by decide +kernel, rfl, by decide +kernel, by decide +kernel⟩
theorem rN : FnScope ["_law_steps", "_law_ranks", "_law_rank", "_law_step", "_law_room"] ["_law_steps", "_law_ranks"] (aL oA) := ⟨rfl, rfl, rfl, by decide +kernel, rfl, by decide +kernel, by decide +kernel⟩
theorem xQ : FnScope ["rank", "row", "rooms", "room"] ["rank", "row"] (aL tU) := ⟨rfl, rfl, rfl, by decide +kernel, rfl, by decide +kernel, by decide +kernel⟩
theorem rO : FnScope ["machine", "rank", "row"] ["machine"] (aL oE) := ⟨rfl, rfl, rfl, by decide +kernel, rfl, by decide +kernel, by decide +kernel⟩
theorem xR : FnScope ["_law_rows", "_law_row"] ["_law_rows"] (aL tV) := ⟨rfl, rfl, rfl, by decide +kernel, rfl, by decide +kernel, by decide +kernel⟩
theorem oW : FnScope ["text"] ["text"] (aL lD) := ⟨rfl, rfl, rfl, by decide +kernel, rfl, by decide +kernel, by decide +kernel⟩
theorem uC : FnScope ["text"] ["text"] (aL pP) := ⟨rfl, rfl, rfl, by decide +kernel, rfl, by decide +kernel, by decide +kernel⟩
theorem xT : FnScope ["piece", "parts", "part"] ["piece"] (aL tW) := ⟨rfl, rfl, rfl, by decide +kernel, rfl, by decide +kernel, by decide +kernel⟩
theorem oX : FnScope ["thing", "most"] ["thing", "most"] (aL lE) := ⟨rfl, rfl, rfl, by decide +kernel, rfl, by decide +kernel, by decide +kernel⟩
theorem aAa : FnScope ["thing"] ["thing"] (aL vV) := ⟨rfl, rfl, rfl, by decide +kernel, rfl, by decide +kernel, by decide +kernel⟩
theorem aAb : FnScope ["thing", "limit"] ["thing", "limit"] (aL vW) := ⟨rfl, rfl, rfl, by decide +kernel, rfl, by decide +kernel, by decide +kernel⟩
theorem aDt : FnScope ["thing", "letters", "rooms", "room"] ["thing", "letters", "rooms"] (aL aC9) := ⟨rfl, rfl, rfl, by decide +kernel, rfl, by decide +kernel, by decide +kernel⟩
theorem xU : FnScope ["thing", "row"] ["thing"] (aL tX) := ⟨rfl, rfl, rfl, by decide +kernel, rfl, by decide +kernel, by decide +kernel⟩
theorem xV : FnScope ["thing", "rooms", "rank"] ["thing", "rooms"] (aL tY) := ⟨rfl, rfl, rfl, by decide +kernel, rfl, by decide +kernel, by decide +kernel⟩
theorem mZ : FnScope ["self", "steps", "ranks", "row"] ["self", "steps", "ranks"] (aL dH) := ⟨rfl, rfl, rfl, by decide +kernel, rfl, by decide +kernel, by decide +kernel⟩
theorem rP : FnScope ["text", "rooms", "piece", "room"] ["text"] (aL oF) := ⟨rfl, rfl, rfl, by decide +kernel, rfl, by decide +kernel, by decide +kernel⟩
theorem xW : FnScope ["_law_text_here", "_law_found", "e", "_law_machine"] ["_law_text_here"] (aL tZ) := ⟨rfl, rfl, rfl, by decide +kernel, rfl, by decide +kernel, by decide +kernel⟩
theorem uD : FnScope ["_law_rows", "_law_cell_here", "_law_at", "_law_place", "_law_old", "_law_some", "_law_row"] ["_law_rows", "_law_cell_here"] (aL pQ) := ⟨rfl, rfl, rfl, by decide +kernel, rfl, by decide +kernel, by decide +kernel⟩
theorem xX : FnScope ["_law_rows", "_law_cell_here", "_law_text_here", "_law_at", "_law_ahead", "_law_behind", "_law_row", "_law_some"] ["_law_rows", "_law_cell_here"] (aL uA) := ⟨rfl, rfl, rfl, by decide +kernel, rfl, by decide +kernel, by decide +kernel⟩
theorem oG : FnScope ["_law_rows", "_law_cell_here", "_law_at", "_law_way", "_law_row", "_law_k"] ["_law_rows", "_law_cell_here"] (aL jX) := ⟨rfl, rfl, rfl, by decide +kernel, rfl, by decide +kernel, by decide +kernel⟩
theorem aP0 : FnScope ["_law_script", "_law_machine", "_law_rows", "_law_k", "_law_steps", "_law_ranks", "_law_cell_here", "_law_step"] ["_law_script"] (aL xN) := ⟨rfl, rfl, rfl, by decide +kernel, rfl, by decide +kernel, by decide +kernel⟩
section
variable {P : Program} {w : World} {K : Frag} {mg : Str -> Option Value} {base : Heap} {fa : Addr} {fd : FuncData} {dV : Value}
variable (cM : mg "len" = none)
include cM in
theorem aGm (F : FunD K "_law_cell" "_law_cell" tQ dV fa fd) : FnOk P w K mg base CX0 1 fa fd ["_law_script", "_law_k"] (spI K 2 cA) := by
 refine jL (k := 0) F xO 2 2 sH rfl rfl fun cdv A outer s H E B hr => ?_
 have nd := xO.nd
 refine cD ?_ ?_
 ·exact vO (fO aRf aJf (toP (aC 1)) (toP (gF cM (toP (aC 0)))) (dF _)) (cX (eO (nW hr.units (toP (aC 0)) (toP (aC 1))))) (mX)
 refine cD ?_ ?_
 ·exact vO (fO (mU hr.units) mV (toP (gF cM (toP (aC 0)))) (toP (bB)) (dF _)) (cX (eO (cC (toP (tL (toP (bB)) (toP (aC 1)))) (toP (bB))))) (mX)
 exact cX (eO (cC (toP (nW hr.units (toP (aC 0)) (toP (uY (toP (tL (toP (aC 1)) (toP (bB)))) (toP (gF cM (toP (aC 0)))))))) (toP (tL (toP (bB)) (toP (aC 1))))))
theorem aI6 (F : FunD K "_law_mix" "_law_mix" vU dV fa fd) : FnOk P w K mg base CX0 1 fa fd ["_law_cell_here", "_law_k", "_law_many"] (spI K 3 aR) := by
 refine jL (k := 0) F aA9 3 4 vJ rfl rfl fun cdv A outer s H E B hr => ?_
 have nd := aA9.nd
 refine cD ?_ ?_
 ·exact fP 3 (uY (toP (tL (toP (cC (toP (cC (toP (uY (toP (aC 0)) (toP (bB)))) (toP (tL (toP (bB)) (toP (aC 1)))))) (toP (bB)))) (toP (bB)))) (toP (bB))) nd
 refine cD ?_ ?_
 ·exact fP 3 (uY (toP (tL (toP (uY (toP (tL (toP (aC 3)) (toP (aC 3)))) (toP (bB)))) (toP (bB)))) (toP (bB))) nd
 exact cX (eO (uY (toP (uY (toP (tL (toP (aC 3)) (toP (aC 3)))) (toP (bB)))) (toP (aC 2))))
variable (eU : mg "range" = none)
include eU in
theorem aCl (F : FunD K "_law_digits" "_law_digits" pO dV fa fd) : FnOk P w K mg base CX0 1 fa fd ["_law_cell_here", "_law_many", "_law_count"] (spI K 3 iV) := by
 refine jL (k := 0) F uB 3 5 pH rfl rfl fun cdv A outer s H E B hr => ?_
 have nd := uB.nd
 refine cD ?_ ?_
 ·exact aNk 3 (aRu (aP)) nd
 refine cD ?_ ?_
 ·exact aNm (aA7 eU (toP (aC 2))) (dZ 4 nd) (cD (by exact aRy 3 (uY (toP (aC 0)) (toP (aC 1)))) (by exact cX (fP 0 (aTe (toP (aC 0)) (toP (aC 1))) nd))) PassesOwn.never rfl
 exact cX (aWw [3] (eO (aC 3)))
variable (dG : DefOk P w K mg base "_law_cell" 1 2 cA)
variable (bH : DefOk P w K mg base "_law_mix" 1 3 aR)
variable (lY : DefOk P w K mg base "_law_digits" 1 3 iV)
include eU dG bH lY in
theorem aGn (F : FunD K "_law_made" "_law_made" tR dV fa fd) : FnOk P w K mg base CX0 2 fa fd ["_law_script", "_law_most"] (spI K 2 mF) := by
 refine jL (k := 1) F xP 2 11 zW rfl rfl fun cdv A outer s H E B hr => ?_
 have nd := xP.nd
 refine cD ?_ ?_
 ·exact fP 2 (aX dG hr (by decide) (aA (aC 0) (aA (bB) (aP)))) nd
 refine cD ?_ ?_
 ·exact fP 3 (cC (toP (bB)) (toP (aX bH hr (by decide) (aA (aC 2) (aA (bB) (aA (aC 1) (aP))))))) nd
 refine cD ?_ ?_
 ·exact fP 4 (cC (toP (bB)) (toP (aX bH hr (by decide) (aA (aC 2) (aA (bB) (aA (bB) (aP))))))) nd
 refine cD ?_ ?_
 ·exact aHx 5 [8] jK (.of rfl) (aA7 eU (toP (aC 3))) (fun _ _ _ _ _ => dZ 8 nd) (fun _ _ _ _ _ => gJ [10] jK (.of rfl) (aA7 eU (toP (aC 4))) (fun _ _ _ _ _ => dZ 10 nd) (fun _ _ _ _ _ => aX bH hr (by decide) (aA (aX dG hr (by decide) (aA (aC 0) (aA (cC (toP (bB)) (toP (aC 8))) (aP)))) (aA (aC 10) (aA (aC 3) (aP))))) rfl) rfl nd
 refine cD ?_ ?_
 ·exact fP 6 (aX bH hr (by decide) (aA (aC 2) (aA (bB) (aA (bB) (aP))))) nd
 refine cD ?_ ?_
 ·exact vO (fO (mU hr.units) mV (toP (aC 6)) (toP (bB)) (dF _)) (cX (aHx 5 [8] jK (.of rfl) (aA7 eU (toP (aC 3))) (fun _ _ _ _ _ => dZ 8 nd) (fun _ _ _ _ _ => gJ [10] jK (.of rfl) (aA7 eU (toP (aC 4))) (fun _ _ _ _ _ => dZ 10 nd) (fun _ _ _ _ _ => uY (toP (cC (toP (aC 8)) (toP (aC 10)))) (toP (aC 3))) rfl) rfl nd)) (mX)
 refine cD ?_ ?_
 ·exact vO (fO aLw aHu (toP (aC 6)) (toP (bB)) (dF _)) (cX (aHx 5 [8] jK (.of rfl) (aA7 eU (toP (aC 3))) (fun _ _ _ _ _ => dZ 8 nd) (fun _ _ _ _ _ => aX lY hr (by decide) (aA (aX dG hr (by decide) (aA (aC 0) (aA (cC (toP (bB)) (toP (aC 8))) (aP)))) (aA (aC 3) (aA (aC 4) (aP))))) rfl nd)) (mX)
 refine cD ?_ ?_
 ·exact aNk 7 (aRu (aP)) nd
 refine cD ?_ ?_
 ·exact aNm (aA7 eU (toP (aC 3))) (dZ 8 nd) (cD (by exact fP 9 (aX bH hr (by decide) (aA (aX dG hr (by decide) (aA (aC 0) (aA (cC (toP (bB)) (toP (aC 8))) (aP)))) (aA (bB) (aA (bB) (aP))))) nd) (by exact cD (by exact vO (fO (mU hr.units) mV (toP (aX bH hr (by decide) (aA (aX dG hr (by decide) (aA (aC 0) (aA (cC (toP (bB)) (toP (aC 8))) (aP)))) (aA (bB) (aA (bB) (aP)))))) (toP (bB)) (dF _)) (cX (fP 9 (uY (toP (aX dG hr (by decide) (aA (aC 0) (aA (cC (toP (bB)) (toP (aC 8))) (aP))))) (toP (aWq (toP (bB)) (toP (bB))))) nd)) (mX)) (by exact cX (aRy 7 (aC 9))))) PassesOwn.never rfl
 exact cX (aWw [7] (eO (iZ (aA (aC 5) (aA (aC 7) (aP))))))
variable (aCa : mg "zip" = none)
variable (oY : mg "str" = none)
include aCa oY in
theorem aCb (F : FunD K "_law_numbers" "_law_numbers" oA dV fa fd) : FnOk P w K mg base CX0 1 fa fd ["_law_steps", "_law_ranks"] (spI K 2 jP) := by
 refine jL (k := 0) F rN 2 5 sI rfl rfl fun cdv A outer s H E B hr => ?_
 have nd := rN.nd
 exact cX (eO (gJ [2, 3] aRv (.of rfl) (aJj aCa (aC 1) (aC 0)) (fun _ _ _ _ _ => aNl rfl (uI 2 (uI 3 (aHw) nd) nd)) (fun _ _ _ _ _ => cC (toP (iZ (aA (aAt oY (toP (aC 2))) (aP)))) (toP (gJ [4] jK (.of rfl) (rT (aC 3)) (fun _ _ _ _ _ => dZ 4 nd) (fun _ _ _ _ _ => aAt oY (toP (aC 4))) rfl))) rfl))
include oY in
theorem aGo (F : FunD K "show_room" "show_room" tU dV fa fd) : FnOk P w K mg base CX0 1 fa fd ["rank", "row"] (spI K 2 oK) := by
 refine jL (k := 0) F xQ 2 4 zX rfl rfl fun cdv A outer s H E B hr => ?_
 have nd := xQ.nd
 refine cD ?_ ?_
 ·exact fP 2 (zL (toP (bZ [32])) (aA (gJ [3] jK (.of rfl) (rT (aC 1)) (fun _ _ _ _ _ => dZ 3 nd) (fun _ _ _ _ _ => aAt oY (toP (aC 3))) rfl) (aP))) nd
 exact cX (eO (aTw (aEv (aS2 (aC 0)) (aEv (bZ [58, 32]) (aEv (aS2 (aC 2)) (aTv))))))
variable (oZ : DefOk P w K mg base "show_room" 1 2 oK)
variable {A_Machine : Addr} (c_Machine : ClsAt K "Machine" A_Machine)
variable (bO : iI K A_Machine (Str.ofString "ranks"))
variable (bQ : iI K A_Machine (Str.ofString "steps"))
include aCa oZ c_Machine bO bQ in
theorem aCc (F : FunD K "show_machine" "show_machine" oE dV fa fd) : FnOk P w K mg base CX0 2 fa fd ["machine"] (spI K 1 jQ) := by
 refine jL (k := 1) F rO 1 3 sJ rfl rfl fun cdv A outer s H E B hr => ?_
 have nd := rO.nd
 exact cX (eO (zL (toP (bZ [59, 32])) (aA (gJ [1, 2] aRv (.of rfl) (aJj aCa (aDi c_Machine bO (toP (aC 0))) (aDi c_Machine bQ (toP (aC 0)))) (fun _ _ _ _ _ => aNl rfl (uI 1 (uI 2 (aHw) nd) nd)) (fun _ _ _ _ _ => aX oZ hr (by decide) (aA (aC 1) (aA (aC 2) (aP)))) rfl) (aP))))
theorem aGp (F : FunD K "_law_text" "_law_text" tV dV fa fd) : FnOk P w K mg base CX0 1 fa fd ["_law_rows"] (spI K 1 dJ) := by
 refine jL (k := 0) F xR 1 2 zY rfl rfl fun cdv A outer s H E B hr => ?_
 have nd := xR.nd
 exact cX (eO (zL (toP (bZ [59, 32])) (aA (gJ [1] jK (.of rfl) (rT (aC 0)) (fun _ _ _ _ _ => dZ 1 nd) (fun _ _ _ _ _ => cC (toP (cC (toP (nW hr.units (toP (aC 1)) (toP (bB)))) (toP (bZ [58, 32])))) (toP (zL (toP (bZ [32])) (aA (aQi (toP (aC 1)) (aEn (toP (bB))) (aEm)) (aP))))) rfl) (aP))))
variable {t_MOST_FIGURES : Tok} (g_MOST_FIGURES : mg "MOST_FIGURES" = some (.int 30 t_MOST_FIGURES))
variable {t_FIGURES : Tok} (g_FIGURES : mg "FIGURES" = some (.str "0123456789" t_FIGURES))
include cM g_MOST_FIGURES g_FIGURES in
theorem zP (F : FunD K "is_number_text" "is_number_text" lD dV fa fd) : FnOk P w K mg base CX0 1 fa fd ["text"] (spI K 1 gZ) := by
 refine jL (k := 0) F oW 1 1 qC rfl rfl fun cdv A outer s H E B hr => ?_
 have nd := oW.nd
 refine cD ?_ ?_
 ·exact vO (PW.pt (aQb (fO (mU hr.units) mV (toP (aC 0)) (toP (bZ [])) (dF _)) (aQb (fO aLw aHu (toP (gF cM (toP (aC 0)))) (toP (aHr g_MOST_FIGURES)) (dF _)) (aNi (fO (tE hr.units) tH (toP (aQr (toP (aC 0)) (aA (aTd [48, 49, 50, 51, 52, 53, 54, 55, 56, 57] g_FIGURES) (aP)))) (toP (bZ [])) (dF _)))))) (cX (eO (rR))) (mX)
 exact cX (eO (aZ5 (rB (mU hr.units) mV (toP (aC 0)) (toP (bZ [48])) (dF _)) (aWs (aRt (aEx (toP (aC 0)) (aA (bZ [48]) (aP)))))))
variable (iG : DefOk P w K mg base "is_number_text" 1 1 gZ)
variable {X_NoText : Addr} {bm_NoText : List Value} (e_NoText : ExcAt K "NoText" X_NoText bm_NoText)
variable (dU : mg (Str.ofString "NoText") = some (.ref X_NoText))
variable (aCd : mg "int" = none)
include iG e_NoText dU aCd in
theorem aCm (F : FunD K "read_number" "read_number" pP dV fa fd) : FnOk P w K mg base (CX1 P w) 2 fa fd ["text"] (spE K 1 fD) := by
 refine aZ9 (k := 1) (sm := false) F uC 1 1 uT rfl rfl fun cdv A outer s H E B W hr hL => ?_
 have nd := uC.nd
 refine aC2 (s1 := false) (s2 := false) ?_ ?_
 ·exact xJ (aTu (s1 := false) (aBl (vN (aX iG hr (by decide) (aA (aC 0) (aP))))) (aC1 (xJ (x_raise hL e_NoText dU rfl (aA (bZ [97, 32, 110, 117, 109, 98, 101, 114, 32, 105, 115, 32, 111, 110, 101, 32, 116, 111, 32, 116, 104, 105, 114, 116, 121, 32, 102, 105, 103, 117, 114, 101, 115, 44, 32, 119, 105, 116, 104, 111, 117, 116, 32, 97, 32, 110, 111, 117, 103, 104, 116, 32, 97, 104, 101, 97, 100]) (aP))))) (aO5))
 exact aC1 (aO4 (s1 := false) (eO (aU0 aCd (toP (aC 0)))))
variable (jA : DefOkX P w K mg base "read_number" 2 1 fD)
include e_NoText dU jA in
theorem aGq (F : FunD K "read_room" "read_room" tW dV fa fd) : FnOk P w K mg base (CX1 P w) 3 fa fd ["piece"] (spE K 1 fW) := by
 refine aS3 (k := 2) (sm := false) F xT 1 3 zZ rfl rfl fun cdv A outer s H E B W hr hL hM => ?_
 have nd := xT.nd
 refine aC2 (s1 := false) (s2 := false) ?_ ?_
 ·exact aO4 (s1 := false) (fP 1 (aGg (toP (aC 0)) (aA (bZ [58, 32]) (aP))) nd)
 refine aC2 (s1 := false) (s2 := false) ?_ ?_
 ·exact xJ (aTu (s1 := false) (fO (mU hr.units) mV (toP (nW hr.units (toP (aC 1)) (toP (bB)))) (toP (bZ [])) (dF _)) (aC1 (xJ (x_raise hL e_NoText dU rfl (aA (bZ [97, 32, 114, 111, 111, 109, 32, 105, 115, 32, 105, 116, 115, 32, 114, 97, 110, 107, 44, 32, 97, 32, 99, 111, 108, 111, 110, 32, 97, 110, 100, 32, 97, 32, 98, 108, 97, 110, 107, 44, 32, 97, 110, 100, 32, 116, 104, 101, 32, 114, 111, 111, 109, 115, 32, 116, 111, 32, 119, 104, 105, 99, 104, 32, 105, 116, 115, 32, 108, 101, 116, 116, 101, 114, 115, 32, 108, 101, 97, 100]) (aP))))) (aO5))
 exact aC1 (xJ (aRz (aU3 (aJk (aAp jA hL hr (by decide) (aA (nW hr.units (toP (aC 1)) (toP (bB))) (aP))) (aJk (aR8 2 (.of rfl) hM (rT (aJh (toP (nW hr.units (toP (aC 1)) (toP (bB)))) (aA (bZ [32]) (aP)))) (fun _ _ _ _ _ _ => dZ 2 nd) (fun _ _ _ _ _ _ _ hLc => aAp jA hLc hr (by decide) (aA (aC 2) (aP))) rfl) (aU2))))))
variable (bL : mg "isinstance" = none)
variable (eZ : mg "list" = none)
include cM bL eZ in
theorem zQ (F : FunD K "is_filled_list" "is_filled_list" lE dV fa fd) : FnOk P w K mg base CX0 1 fa fd ["thing", "most"] (spI K 2 bT) := by
 refine jL (k := 0) F oX 2 2 iB rfl rfl fun cdv A outer s H E B hr => ?_
 have nd := oX.nd
 exact cX (eO (aA6 (tK ty_list bL eZ (toP (aC 0))) (aA6 (rB aLx aHv (toP (gF cM (toP (aC 0)))) (toP (bB)) (dF _)) (zH (rB aV6 aTf (toP (gF cM (toP (aC 0)))) (toP (aC 1)) (dF _))))))
variable (aF0 : mg "bool" = none)
include aCd bL aF0 in
theorem aI7 (F : FunD K "is_whole" "is_whole" vV dV fa fd) : FnOk P w K mg base CX0 1 fa fd ["thing"] (spI K 1 gQ) := by
 refine jL (k := 0) F aAa 1 1 qT rfl rfl fun cdv A outer s H E B hr => ?_
 have nd := aAa.nd
 exact cX (eO (aA6 (tK ty_int bL aCd (toP (aC 0))) (zH (aRt (tK ty_bool bL aF0 (toP (aC 0)))))))
variable (jG : DefOk P w K mg base "is_whole" 1 1 gQ)
include jG in
theorem aI8 (F : FunD K "is_below" "is_below" vW dV fa fd) : FnOk P w K mg base CX0 2 fa fd ["thing", "limit"] (spI K 2 jE) := by
 refine jL (k := 1) F aAb 2 2 qU rfl rfl fun cdv A outer s H E B hr => ?_
 have nd := aAb.nd
 exact cX (eO (aA6 (aX jG hr (by decide) (aA (aC 0) (aP))) (aA6 (rB aLx aHv (toP (aC 0)) (toP (bB)) (dF _)) (zH (rB aRf aJf (toP (aC 0)) (toP (aC 1)) (dF _))))))
variable (rH : DefOk P w K mg base "is_below" 2 2 jE)
variable (uE : mg "all" = none)
include cM rH uE in
theorem aP1 (F : FunD K "is_row" "is_row" aC9 dV fa fd) : FnOk P w K mg base CX0 3 fa fd ["thing", "letters", "rooms"] (spI K 3 sO) := by
 refine jL (k := 2) F aDt 3 4 wH rfl rfl fun cdv A outer s H E B hr => ?_
 have nd := aDt.nd
 exact cX (eO (aA6 (rB (mU hr.units) mV (toP (gF cM (toP (aC 0)))) (toP (aC 1)) (dF _)) (zH (aJa uE rfl (toP (gJ [3] jK (.of rfl) (rT (aC 0)) (fun _ _ _ _ _ => dZ 3 nd) (fun _ _ _ _ _ => aX rH hr (by decide) (aA (aC 3) (aA (aC 2) (aP)))) rfl))))))
variable (fU : DefOk P w K mg base "is_filled_list" 1 2 bT)
variable (xY : DefOk P w K mg base "is_row" 3 3 sO)
variable {t_MOST_ROOMS : Tok} (g_MOST_ROOMS : mg "MOST_ROOMS" = some (.int 8 t_MOST_ROOMS))
variable {t_MOST_LETTERS : Tok} (g_MOST_LETTERS : mg "MOST_LETTERS" = some (.int 3 t_MOST_LETTERS))
include cM uE fU xY g_MOST_ROOMS g_MOST_LETTERS in
theorem aGr (F : FunD K "are_steps" "are_steps" tX dV fa fd) : FnOk P w K mg base CX0 4 fa fd ["thing"] (spI K 1 fX) := by
 refine jL (k := 3) F xU 1 2 mG rfl rfl fun cdv A outer s H E B hr => ?_
 have nd := xU.nd
 refine cD ?_ ?_
 ·exact vO (aBl (vN (aX fU hr (by decide) (aA (aC 0) (aA (aHr g_MOST_ROOMS) (aP)))))) (cX (eO (rR))) (mX)
 refine cD ?_ ?_
 ·exact vO (aBl (vN (aJa uE rfl (toP (gJ [1] jK (.of rfl) (rT (aC 0)) (fun _ _ _ _ _ => dZ 1 nd) (fun _ _ _ _ _ => aX fU hr (by decide) (aA (aC 1) (aA (aHr g_MOST_LETTERS) (aP)))) rfl))))) (cX (eO (rR))) (mX)
 exact cX (eO (aJa uE rfl (toP (gJ [1] jK (.of rfl) (rT (aC 0)) (fun _ _ _ _ _ => dZ 1 nd) (fun _ _ _ _ _ => aX xY hr (by decide) (aA (aC 1) (aA (gF cM (toP (nW hr.units (toP (aC 0)) (toP (bB))))) (aA (gF cM (toP (aC 0))) (aP))))) rfl))))
include cM bL eZ jG uE in
theorem aGs (F : FunD K "are_ranks" "are_ranks" tY dV fa fd) : FnOk P w K mg base CX0 2 fa fd ["thing", "rooms"] (spI K 2 oM) := by
 refine jL (k := 1) F xV 2 3 sS rfl rfl fun cdv A outer s H E B hr => ?_
 have nd := xV.nd
 refine cD ?_ ?_
 ·exact vO (PW.pt (aQb (aBl (vN (tK ty_list bL eZ (toP (aC 0))))) (aNi (fO (tE hr.units) tH (toP (gF cM (toP (aC 0)))) (toP (aC 1)) (dF _))))) (cX (eO (rR))) (mX)
 exact cX (eO (aJa uE rfl (toP (gJ [2] jK (.of rfl) (rT (aC 0)) (fun _ _ _ _ _ => dZ 2 nd) (fun _ _ _ _ _ => aA6 (aX jG hr (by decide) (aA (aC 2) (aP))) (zH (rB aLx aHv (toP (aC 2)) (toP (bB)) (dF _)))) rfl))))
variable (pA : DefOk P w K mg base "are_steps" 4 1 fX)
variable (pB : DefOk P w K mg base "are_ranks" 2 2 oM)
variable (jB : iI K A_Machine (Str.ofString "many"))
variable (gA : iI K A_Machine (Str.ofString "letters"))
variable {X_NoMachine : Addr} {bm_NoMachine : List Value} (e_NoMachine : ExcAt K "NoMachine" X_NoMachine bm_NoMachine)
variable (eH : mg (Str.ofString "NoMachine") = some (.ref X_NoMachine))
include cM c_Machine bO bQ eZ pA pB jB gA e_NoMachine eH in
theorem vX (F : FunD K "__init__" "Machine.__init__" dH dV fa fd) : FnOk P w K mg base (CX1 P w) 5 fa fd ["self", "steps", "ranks"] (aLb K "Machine" 2 bD) := by
 refine aOm (k := 4) F mZ "Machine" 2 4 cO rfl rfl fun cdv A outer s H E x W hr hL => ?_
 have nd := mZ.nd
 refine aC6 ?_ ?_
 ·exact aX8 (aBl (vN (aX pA hr (by decide) (aA (aC 1) (aP))))) (aOl (aJd hL e_NoMachine eH rfl (aA (bZ [115, 116, 101, 112, 115, 32, 97, 114, 101, 32, 111, 110, 101, 32, 116, 111, 32, 101, 105, 103, 104, 116, 32, 108, 105, 115, 116, 115, 32, 111, 102, 32, 111, 110, 101, 32, 116, 111, 32, 116, 104, 114, 101, 101, 32, 114, 111, 111, 109, 115, 44, 32, 97, 108, 108, 32, 97, 115, 32, 108, 111, 110, 103]) (aP)))) (aS1)
 refine aC6 ?_ ?_
 ·exact aX8 (aBl (vN (aX pB hr (by decide) (aA (aC 2) (aA (gF cM (toP (aC 1))) (aP)))))) (aOl (aJd hL e_NoMachine eH rfl (aA (bZ [114, 97, 110, 107, 115, 32, 97, 114, 101, 32, 97, 32, 108, 105, 115, 116, 32, 119, 105, 116, 104, 32, 97, 32, 119, 104, 111, 108, 101, 32, 110, 117, 109, 98, 101, 114, 32, 102, 114, 111, 109, 32, 48, 32, 111, 110, 32, 102, 111, 114, 32, 101, 97, 99, 104, 32, 114, 111, 111, 109]) (aP)))) (aS1)
 refine aC6 ?_ ?_
 ·exact aJe c_Machine bQ (aR2 (aJc 3 (.of rfl) (rT (aC 1)) (fun _ _ _ _ => g_row 3 nd) (fun _ _ _ _ => aOj 3 eZ) rfl))
 refine aC6 ?_ ?_
 ·exact aJe c_Machine bO (aR3 eZ (aC 2))
 refine aC6 ?_ ?_
 ·exact aJe c_Machine jB (aOi (gF cM (toP (aC 1))))
 exact aOl (aJe c_Machine gA (aOi (gF cM (toP (nW hr.units (toP (aC 1)) (toP (bB)))))))
variable (pC : DefOkX P w K mg base "read_room" 3 1 fW)
variable (lF : MakeOkX P w K mg base "Machine" 5 2 bD)
include oY e_NoText dU bL pC lF in
theorem aCe (F : FunD K "read_machine" "read_machine" oF dV fa fd) : FnOk P w K mg base (CX1 P w) 7 fa fd ["text"] (spE K 1 cB) := by
 refine aS3 (k := 6) (sm := false) F rP 1 4 gU rfl rfl fun cdv A outer s H E B W hr hL hM => ?_
 have nd := rP.nd
 refine aC2 (s1 := false) (s2 := false) ?_ ?_
 ·exact xJ (aTu (s1 := false) (aBl (vN (tK ty_str bL oY (toP (aC 0))))) (aC1 (xJ (x_raise hL e_NoText dU rfl (aA (bZ [97, 32, 109, 97, 99, 104, 105, 110, 101, 32, 105, 115, 32, 114, 101, 97, 100, 32, 102, 114, 111, 109, 32, 97, 32, 116, 101, 120, 116]) (aP))))) (aO5))
 refine aC2 (s1 := false) (s2 := false) ?_ ?_
 ·exact xJ (aR9 1 2 (.of rfl) hM (rT (aJh (toP (aC 0)) (aA (bZ [59, 32]) (aP)))) (fun _ _ _ _ _ _ => dZ 2 nd) (fun _ _ _ _ _ _ _ hLc => aAp pC hLc hr (by decide) (aA (aC 2) (aP))) rfl nd)
 exact aC1 (xJ (aRz (aR4 lF hL hr (by decide) (aA (gJ [3] jK (.of rfl) (rT (aC 1)) (fun _ _ _ _ _ => dZ 3 nd) (fun _ _ _ _ _ => nW hr.units (toP (aC 3)) (toP (bB))) rfl) (aA (gJ [3] jK (.of rfl) (rT (aC 1)) (fun _ _ _ _ _ => dZ 3 nd) (fun _ _ _ _ _ => nW hr.units (toP (aC 3)) (toP (bB))) rfl) (aP))))))
variable (jY : DefOkX P w K mg base "read_machine" 7 1 cB)
variable {X_RankError : Addr} {bm_RankError : List Value} (e_RankError : ExcAt K "RankError" X_RankError bm_RankError)
variable (jZ : mg (Str.ofString "RankError") = some (.ref X_RankError))
variable (gB : IsA K X_NoMachine true "NoMachine")
variable (iM : IsA K X_NoMachine false "NoText")
variable (lG : IsA K X_NoText true "NoText")
variable (iQ : IsA K X_NoText false "NoMachine")
variable (lH : IsK K (.ref X_NoText) true "NoText")
variable (iR : IsK K (.ref X_NoText) false "NoMachine")
variable (gC : IsK K (.ref X_RankError) true "NoMachine")
variable (iT : IsK K (.ref X_RankError) true "NoText")
variable (gD : IsK K (.ref X_NoMachine) true "NoMachine")
variable (iU : IsK K (.ref X_NoMachine) false "NoText")
include c_Machine bO bQ e_NoText dU bL e_NoMachine eH jY e_RankError jZ gB iM lG iQ lH iR gC iT gD iU in
theorem aGt (F : FunD K "_law_read" "_law_read" tZ dV fa fd) : FnOk P w K mg base CX0 8 fa fd ["_law_text_here"] (spI K 1 cR) := by
 refine jL (k := 7) F xW 1 4 mH rfl rfl fun cdv A outer s H E B hr => ?_
 have nd := xW.nd
 refine cD ?_ ?_
 ·exact fP 1 (iZ (aP)) nd
 refine cD ?_ ?_
 ·exact aU4 (fun _ _ _ hL1 => aC1 (aX3 3 (aAp jY hL1 hr (by decide) (aA (aC 0) (aP))) nd)) (aO9 2 e_NoText dU (by intro c hc; simp only [mem_cons, not_mem_nil, or_false] at hc; rcases hc with rfl <;> assumption) (by intro c hc; simp only [mem_cons, not_mem_nil, or_false] at hc; rcases hc with rfl <;> assumption) nd (fun _ => cX (fP 1 (iZ (aA (bZ [116, 101, 120, 116]) (aA (aEs jZ bL (by intro c hc; simp only [mem_cons, not_mem_nil, or_false] at hc; rcases hc with rfl | rfl <;> assumption) (by intro c hc; cases hc) (toP (aC 2))) (aA (aEs eH bL (by intro c hc; simp only [mem_cons, not_mem_nil, or_false] at hc; rcases hc with rfl <;> assumption) (by intro c hc; simp only [mem_cons, not_mem_nil, or_false] at hc; rcases hc with rfl <;> assumption) (toP (aC 2))) (aP))))) nd)) (aO9 2 e_NoMachine eH (by intro c hc; simp only [mem_cons, not_mem_nil, or_false] at hc; rcases hc with rfl <;> assumption) (by intro c hc; simp only [mem_cons, not_mem_nil, or_false] at hc; rcases hc with rfl <;> assumption) nd (fun _ => cX (fP 1 (iZ (aA (bZ [109, 97, 99, 104, 105, 110, 101]) (aA (aEs jZ bL (by intro c hc; simp only [mem_cons, not_mem_nil, or_false] at hc; rcases hc with rfl | rfl <;> assumption) (by intro c hc; cases hc) (toP (aC 2))) (aA (aEs dU bL (by intro c hc; simp only [mem_cons, not_mem_nil, or_false] at hc; rcases hc with rfl <;> assumption) (by intro c hc; simp only [mem_cons, not_mem_nil, or_false] at hc; rcases hc with rfl <;> assumption) (toP (aC 2))) (aP))))) nd)) (aQx))) (cX (fP 1 (iZ (aA (aDi c_Machine bQ (toP (aC 3))) (aA (aDi c_Machine bO (toP (aC 3))) (aP)))) nd))
 exact cX (eO (aC 1))
variable (cH : DefOk P w K mg base "_law_text" 1 1 dJ)
include cM bH eZ cH in
theorem aCn (F : FunD K "_law_spoilt" "_law_spoilt" pQ dV fa fd) : FnOk P w K mg base CX0 2 fa fd ["_law_rows", "_law_cell_here"] (spI K 2 lM) := by
 refine jL (k := 1) F uD 2 7 uU rfl rfl fun cdv A outer s H E B hr => ?_
 have nd := uD.nd
 exact aR5 (i := 0) 6 (by exact aXa (by exact lX (by exact aEz 2 (aX bH hr (by decide) (aA (aC 1) (aA (bB) (aA (gF cM (toP (aC 0))) (aP))))) nd) (by exact lX (by exact aEz 3 (aX bH hr (by decide) (aA (aC 1) (aA (bB) (aA (gF cM (toP (nW hr.units (toP (aC 0)) (toP (aC 2))))) (aP))))) nd) (by exact lX (by exact aEz 4 (nW hr.units (toP (nW hr.units (toP (aC 0)) (toP (aC 2)))) (toP (aC 3))) nd) (by exact lX (by exact aOf 5 (fun _ => iZ (aA (cC (toP (bZ [48])) (toP (aC 4))) (aA (cC (toP (bZ [43])) (toP (aC 4))) (aA (cC (toP (bZ [45])) (toP (aC 4))) (aA (cC (toP (aC 4)) (toP (bZ [120]))) (aA (bZ []) (aA (cC (toP (bZ [32])) (toP (aC 4))) (aA (cC (toP (aC 4)) (toP (bZ [32]))) (aA (aX2 (toP (bZ [57])) (toP (bB))) (aA (cC (toP (aC 4)) (toP (bZ [58]))) (aA (cC (toP (aC 4)) (toP (bZ [59]))) (aP)))))))))))) nd) (by exact lX (by exact aOf 5 (fun _ => cC (toP (aC 5)) (toP (iZ (aA (cC (toP (cC (toP (aQi (toP (aC 4)) (aEm) (aEn (toP (bB))))) (toP (bZ [95])))) (toP (aC 4))) (aA (cC (toP (aC 4)) (toP (bZ [46, 48]))) (aA (cC (toP (aC 4)) (toP (bZ [101, 49]))) (aA (cC (toP (cC (toP (bZ [43])) (toP (aC 4)))) (toP (bZ [95]))) (aP)))))))) nd) (by exact lX (by exact aOy (fun _ => toP (aC 2)) (toP (aC 3)) (nW hr.units (toP (aC 5)) (toP (aX bH hr (by decide) (aA (aC 1) (aA (bB) (aA (gF cM (toP (aC 5))) (aP)))))))) (by exact xM (cX (eO (aX cH hr (by decide) (aA (aC 0) (aP))))))))))))) (.of rfl) (rT (aC 0)) (fun _ _ _ _ => g_row 6 nd) (fun _ _ _ _ => aOj 6 eZ) rfl nd
include cM bH cH in
theorem aGu (F : FunD K "_law_torn" "_law_torn" uA dV fa fd) : FnOk P w K mg base CX0 2 fa fd ["_law_rows", "_law_cell_here"] (spI K 2 oN) := by
 refine jL (k := 1) F xX 2 8 aA0 rfl rfl fun cdv A outer s H E B hr => ?_
 have nd := xX.nd
 refine cD ?_ ?_
 ·exact fP 2 (aX cH hr (by decide) (aA (aC 0) (aP))) nd
 refine cD ?_ ?_
 ·exact fP 3 (aX bH hr (by decide) (aA (aC 1) (aA (bB) (aA (gF cM (toP (aC 0))) (aP))))) nd
 refine cD ?_ ?_
 ·exact fP 4 (zL (toP (bZ [59, 32])) (aA (cC (toP (gJ [6] jK (.of rfl) (rT (aQi (toP (aC 0)) (aEm) (aEn (toP (aC 3))))) (fun _ _ _ _ _ => dZ 6 nd) (fun _ _ _ _ _ => aX cH hr (by decide) (aA (iZ (aA (aC 6) (aP))) (aP))) rfl)) (toP (iZ (aA (bZ []) (aP))))) (aP))) nd
 refine cD ?_ ?_
 ·exact fP 5 (zL (toP (bZ [59, 32])) (aA (cC (toP (iZ (aA (bZ []) (aP)))) (toP (gJ [6] jK (.of rfl) (rT (aQi (toP (aC 0)) (aEn (toP (cC (toP (aC 3)) (toP (bB))))) (aEm))) (fun _ _ _ _ _ => dZ 6 nd) (fun _ _ _ _ _ => aX cH hr (by decide) (aA (iZ (aA (aC 6) (aP))) (aP))) rfl))) (aP))) nd
 refine cD ?_ ?_
 ·exact fP 6 (nW hr.units (toP (aC 0)) (toP (aC 3))) nd
 refine cD ?_ ?_
 ·exact fP 7 (iZ (aA (bZ []) (aA (cC (toP (aC 2)) (toP (bZ [59, 32]))) (aA (cC (toP (bZ [59, 32])) (toP (aC 2))) (aA (cC (toP (aC 2)) (toP (bZ [59]))) (aA (cC (toP (aC 2)) (toP (bZ [32]))) (aA (cC (toP (bZ [32])) (toP (aC 2))) (aA (cC (toP (aC 2)) (toP (bZ [126]))) (aA (cC (toP (cC (toP (aC 2)) (toP (bZ [59])))) (toP (aC 2))) (aP)))))))))) nd
 refine cD ?_ ?_
 ·exact fP 7 (cC (toP (aC 7)) (toP (iZ (aA (cC (toP (cC (toP (aC 4)) (toP (nW hr.units (toP (aC 6)) (toP (bB)))))) (toP (aC 5))) (aA (cC (toP (cC (toP (cC (toP (cC (toP (aC 4)) (toP (nW hr.units (toP (aC 6)) (toP (bB)))))) (toP (bZ [58])))) (toP (nW hr.units (toP (aC 6)) (toP (bB)))))) (toP (aC 5))) (aA (cC (toP (cC (toP (cC (toP (aC 4)) (toP (nW hr.units (toP (aC 6)) (toP (bB)))))) (toP (bZ [32, 58, 32, 48])))) (toP (aC 5))) (aP))))))) nd
 exact cX (eO (nW hr.units (toP (aC 7)) (toP (aX bH hr (by decide) (aA (aC 1) (aA (bB) (aA (gF cM (toP (aC 7))) (aP))))))))
include cM eU bH oY eZ cH in
theorem xZ (F : FunD K "_law_no_machine" "_law_no_machine" jX dV fa fd) : FnOk P w K mg base CX0 2 fa fd ["_law_rows", "_law_cell_here"] (spI K 2 dN) := by
 refine jL (k := 1) F oG 2 6 oO rfl rfl fun cdv A outer s H E B hr => ?_
 have nd := oG.nd
 exact aOz (i := 0) 4 (by exact aXa (by exact lX (by exact aEz 2 (aX bH hr (by decide) (aA (aC 1) (aA (bB) (aA (gF cM (toP (aC 0))) (aP))))) nd) (by exact lX (by exact aOf 3 (fun _ => aX bH hr (by decide) (aA (aC 1) (aA (bB) (aA (bB) (aP))))) nd) (by exact aRb (by exact aS5 (fO (mU hr.units) mV (toP (aC 3)) (toP (bB)) (dF _)) (lX (by exact aOy (fun _ => toP (aC 2)) (toP (cC (toP (bB)) (toP (aX bH hr (by decide) (aA (aC 1) (aA (bB) (aA (aNh (toP (gF cM (toP (nW hr.units (toP (aC 0)) (toP (aC 2)))))) (toP (bB))) (aP)))))))) (aAt oY (toP (cC (toP (gF cM (toP (aC 0)))) (toP (aX bH hr (by decide) (aA (aC 1) (aA (bB) (aA (bB) (aP)))))))))) (by exact xM (mX))) (aU5 (aS5 (PW.pt (aWt (fO (mU hr.units) mV (toP (aC 3)) (toP (bB)) (dF _)) (aTh (fO aLw aHu (toP (gF cM (toP (aC 0)))) (toP (bB)) (dF _))))) (lX (by exact aX7 (fun _ => toP (aC 2)) (fun _ => bZ [48])) (by exact xM (mX))) (xM (cX (vO (fO (mU hr.units) mV (toP (aC 3)) (toP (bB)) (dF _)) (cX (fP 0 (gJ [4] jK (.of rfl) (rT (aC 0)) (fun _ _ _ _ _ => dZ 4 nd) (fun _ _ _ _ _ => cC (toP (aC 4)) (toP (aTz (aA (bZ [48]) (aP)) (toP (aNh (toP (bB)) (toP (gF cM (toP (aC 4))))))))) rfl) nd)) (cX (fP 0 (cC (toP (aC 0)) (toP (gJ [5] jK (.of rfl) (aA7 eU (toP (aNh (toP (bB)) (toP (gF cM (toP (aC 0))))))) (fun _ _ _ _ _ => dZ 5 nd) (fun _ _ _ _ _ => aHy eZ (toP (nW hr.units (toP (aC 0)) (toP (bB))))) rfl))) nd)))))))) (by exact cX (eO (aX cH hr (by decide) (aA (aC 0) (aP))))))))) (.of rfl) (rT (aC 0)) (fun _ _ _ _ => g_row 4 nd) (fun _ _ _ _ => aOj 4 eZ) rfl nd
variable (pD : DefOk P w K mg base "_law_made" 2 2 mF)
variable (kE : DefOk P w K mg base "_law_numbers" 1 2 jP)
variable (kI : DefOk P w K mg base "show_machine" 2 1 jQ)
variable (fY : DefOk P w K mg base "_law_read" 8 1 cR)
variable (lZ : DefOk P w K mg base "_law_spoilt" 2 2 lM)
variable (pF : DefOk P w K mg base "_law_torn" 2 2 oN)
variable (gM : DefOk P w K mg base "_law_no_machine" 2 2 dN)
variable (aJm : mg "max" = none)
variable (aJn : mg "min" = none)
include cM eU dG bH c_Machine bO bQ eZ lF cH pD kE kI fY lZ pF gM aJm aJn in
theorem aXb (F : FunD K "law" "law" xN dV fa fd) : FnOk P w K mg base CX0 9 fa fd ["_law_script"] (spI K 1 aD4) := by
 refine jL (k := 8) F aP0 1 8 aRm rfl rfl fun cdv A outer s H E B hr => ?_
 have nd := aP0.nd
 refine cD ?_ ?_
 ·exact aWx (aX pD hr (by decide) (aA (aC 0) (aA (bB) (aP)))) (aNl rfl (uI 4 (uI 5 (aHw) nd) nd))
 refine cD ?_ ?_
 ·exact fP 1 (aTt (MakeOkX.calm lF) hr (by decide) (aA (gJ [7] jK (.of rfl) (rT (aC 4)) (fun _ _ _ _ _ => dZ 7 nd) (fun _ _ _ _ _ => aHy eZ (toP (aC 7))) rfl) (aA (aHy eZ (toP (aC 5))) (aP)))) nd
 refine cD ?_ ?_
 ·exact fP 2 (aX kE hr (by decide) (aA (aC 4) (aA (aC 5) (aP)))) nd
 refine cD ?_ ?_
 ·exact vO (PW.pt (aQb (fO (tE hr.units) tH (toP (aX kI hr (by decide) (aA (aC 1) (aP)))) (toP (aX cH hr (by decide) (aA (aC 2) (aP)))) (dF _)) (aNi (fO (tE hr.units) tH (toP (aX fY hr (by decide) (aA (aX cH hr (by decide) (aA (aC 2) (aP))) (aP)))) (toP (iZ (aA (aC 4) (aA (aC 5) (aP))))) (dF _))))) (cX (eO (rR))) (mX)
 refine cD ?_ ?_
 ·exact aNm (aWy eU (toP (bB)) (toP (aTr aJm rfl (toP (bB)) (toP (aTs aJn rfl (toP (bB)) (toP (gF cM (toP (aC 0))))))))) (dZ 3 nd) (cD (by exact fP 6 (aX dG hr (by decide) (aA (aC 0) (aA (aC 3) (aP)))) nd) (by exact cD (by exact vO (fO (tE hr.units) tH (toP (aX fY hr (by decide) (aA (aX lZ hr (by decide) (aA (aC 2) (aA (aC 6) (aP)))) (aP)))) (toP (iZ (aA (bZ [116, 101, 120, 116]) (aA (rR) (aA (rR) (aP)))))) (dF _)) (cX (eO (rR))) (mX)) (by exact cD (by exact vO (fO (tE hr.units) tH (toP (aX fY hr (by decide) (aA (aX pF hr (by decide) (aA (aC 2) (aA (aC 6) (aP)))) (aP)))) (toP (iZ (aA (bZ [116, 101, 120, 116]) (aA (rR) (aA (rR) (aP)))))) (dF _)) (cX (eO (rR))) (mX)) (by exact cD (by exact vO (fO (tE hr.units) tH (toP (aX fY hr (by decide) (aA (aX gM hr (by decide) (aA (aC 2) (aA (aC 6) (aP)))) (aP)))) (toP (iZ (aA (bZ [109, 97, 99, 104, 105, 110, 101]) (aA (rR) (aA (rR) (aP)))))) (dF _)) (cX (eO (rR))) (mX)) (by exact cX (vO (fO (tE hr.units) tH (toP (aX fY hr (by decide) (aA (nW hr.units (toP (iZ (aA (aWo) (aA (bB) (aA (iZ (aP)) (aA (aWu (aA (bZ [49, 58, 32, 48]) (aP))) (aA (rR) (aP)))))))) (toP (aX bH hr (by decide) (aA (aC 6) (aA (bB) (aA (bB) (aP))))))) (aP)))) (toP (iZ (aA (bZ [116, 101, 120, 116]) (aA (rR) (aA (rR) (aP)))))) (dF _)) (cX (eO (rR))) (mX))))))) PassesOwn.never rfl
 exact cX (eO (aA6 (rB (mU hr.units) mV (toP (aDi c_Machine bQ (toP (aC 1)))) (toP (aC 4)) (dF _)) (zH (rB (mU hr.units) mV (toP (aDi c_Machine bO (toP (aC 1)))) (toP (aC 5)) (dF _)))))
end
theorem all_mk {l : OpenLaw}  {K : Frag}    {BE newE initE : String} {bmE : List Value} (FE : ExcBaseFacts BE newE initE bmE) (X : K.In h) (G : h.Ns mainGlobals mg) (hfa : mg "law" = some (.ref fa))
        {f18 : Addr} {od18 an18 : Option Addr} {sl18 : Array (Option Value)} {oc18 kV18 dc18 pm18 cd18 ct18 : Value} {f24 : Addr} {od24 an24 : Option Addr} {sl24 : Array (Option Value)} {oc24 kV24 dc24 pm24 cd24 ct24 : Value}    
  (x_Machine : nsIn K mainGlobals (Str.ofString "Machine") = some (some (.ref A_Machine)))
  (x1_Machine : PySem.W.plainGet K A_Machine Str.empty = true)
  (x2_Machine : PySem.W.hasDictIn K A_Machine = true)
  (x3_Machine : PySem.W.plainOver K A_Machine = true)
  (x4_Machine : findIn K (.ref A_Machine) "__setattr__" = some (some (.builtin "object.__setattr__")))
  (x5_Machine : PySem.W.makesIn K A_Machine = true)
  (x6_Machine : keepIn K (.ref A_Machine) = true)
  (w_Machine_letters : findIn K (.ref A_Machine) (Str.ofString "letters") = some none)
  (w_Machine_many : findIn K (.ref A_Machine) (Str.ofString "many") = some none)
  (w_Machine_ranks : findIn K (.ref A_Machine) (Str.ofString "ranks") = some none)
  (w_Machine_steps : findIn K (.ref A_Machine) (Str.ofString "steps") = some none)
  (y3 : specialIn K (.builtin "object.__class__") "__get__" = some (some (.builtin "getset_descriptor.__get__")))
  (y4 : takesIn K (.builtin "object.__class__") = some true)
  (Y_NoMachine : XA K "NoMachine" X_NoMachine bmE newE)
  (Y_NoText : XA K "NoText" X_NoText bmE newE)
  (Y_RankError : XA K "RankError" X_RankError bmE newE)
  (ja_NoMachine_NoMachine : mroIn K X_NoMachine (.ref X_NoMachine) = some true)
  (ja_NoMachine_NoText : mroIn K X_NoText (.ref X_NoMachine) = some false)
  (ja_NoText_NoMachine : mroIn K X_NoMachine (.ref X_NoText) = some false)
  (ja_NoText_NoText : mroIn K X_NoText (.ref X_NoText) = some true)
  (jk_NoMachine_NoMachine : kitOne K (.ref X_NoMachine) (.ref X_NoMachine) = some true)
  (jk_NoMachine_NoText : kitOne K (.ref X_NoText) (.ref X_NoMachine) = some false)
  (jk_NoText_NoMachine : kitOne K (.ref X_NoMachine) (.ref X_NoText) = some false)
  (jk_NoText_NoText : kitOne K (.ref X_NoText) (.ref X_NoText) = some true)
  (jk_RankError_NoMachine : kitOne K (.ref X_NoMachine) (.ref X_RankError) = some true)
  (jk_RankError_NoText : kitOne K (.ref X_NoText) (.ref X_RankError) = some true)
  (D1 : DA K "_law_cell" tQ)
  (D2 : DA K "_law_mix" vU)
  (D3 : DA K "_law_digits" pO)
  (D4 : DA K "_law_made" tR)
  (D5 : DA K "_law_numbers" oA)
  (D6 : DA K "show_room" tU)
  (D7 : DA K "show_machine" oE)
  (D8 : DA K "_law_text" tV)
  (D9 : DA K "is_number_text" lD)
  (D10 : DA K "read_number" pP)
  (D11 : DA K "read_room" tW)
  (D12 : DA K "is_filled_list" lE)
  (D13 : DA K "is_whole" vV)
  (D14 : DA K "is_below" vW)
  (D15 : DA K "is_row" aC9)
  (D16 : DA K "are_steps" tX)
  (D17 : DA K "are_ranks" tY)
  (a18 : findIn K (.ref A_Machine) (Str.ofString "__init__") = some (some (.ref f18)))
  (e18 : PySem.W.isFn K (.ref f18) = true)
  (l18 : K.lookup f18 = some ⟨oc18, od18, .func (fnOf "__init__" "Machine.__init__" (nA dH) (gK dH) (aL dH) .none kV18 dc18 pm18 an18 cd18 ct18), sl18⟩)
  (c18 : codeIn K cd18 "Machine.__init__" = true)
  (k18 : keepIn K (.ref f18) = true)
  (D19 : DA K "read_machine" oF)
  (D20 : DA K "_law_read" tZ)
  (D21 : DA K "_law_spoilt" pQ)
  (D22 : DA K "_law_torn" uA)
  (D23 : DA K "_law_no_machine" jX)
  (a24 : nsIn K mainGlobals "law" = some (some (.ref f24)))
  (l24 : K.lookup f24 = some ⟨oc24, od24, .func (fnOf "law" "law" (nA xN) (gK xN) (aL xN) .none kV24 dc24 pm24 an24 cd24 ct24), sl24⟩)
  (c24 : codeIn K cd24 "law" = true)
  (k24 : keepIn K (.ref f24) = true)
  (v_FIGURES : nsIn K mainGlobals "FIGURES" = some (some (.str "0123456789" t_FIGURES)))
  (v_MOST_FIGURES : nsIn K mainGlobals "MOST_FIGURES" = some (some (.int 30 t_MOST_FIGURES)))
  (v_MOST_LETTERS : nsIn K mainGlobals "MOST_LETTERS" = some (some (.int 3 t_MOST_LETTERS)))
  (v_MOST_ROOMS : nsIn K mainGlobals "MOST_ROOMS" = some (some (.int 8 t_MOST_ROOMS)))
  (z_all : nsIn K mainGlobals "all" = some none)
  (z_bool : nsIn K mainGlobals "bool" = some none)
  (z_int : nsIn K mainGlobals "int" = some none)
  (z_isinstance : nsIn K mainGlobals "isinstance" = some none)
  (z_len : nsIn K mainGlobals "len" = some none)
  (z_list : nsIn K mainGlobals "list" = some none)
  (z_max : nsIn K mainGlobals "max" = some none)
  (z_min : nsIn K mainGlobals "min" = some none)
  (z_range : nsIn K mainGlobals "range" = some none)
  (z_str : nsIn K mainGlobals "str" = some none)
  (z_zip : nsIn K mainGlobals "zip" = some none) :
  ∃ fd : FuncData, (∀ (s : Shared) (v : Value), BindsTo s fd ⟨[v], []⟩ [("_law_script", v)]) /\ ∀ base : Heap, K.In base -> base.Ns mainGlobals mg -> FnOk l.prog w K mg base CX0 9 fa fd ["_law_script"] (spI K 1 aD4) := by
 have e := hfa.symm.trans (mg_of X G a24)
 cases e
 have c_Machine : ClsAt K "Machine" A_Machine := ⟨x_Machine, x1_Machine, x2_Machine, x3_Machine, x4_Machine⟩
 have gA : iI K A_Machine (Str.ofString "letters") := w_Machine_letters
 have jB : iI K A_Machine (Str.ofString "many") := w_Machine_many
 have bO : iI K A_Machine (Str.ofString "ranks") := w_Machine_ranks
 have bQ : iI K A_Machine (Str.ofString "steps") := w_Machine_steps
 obtain ⟨bm_NoMachine, e_NoMachine⟩ := Y_NoMachine.at FE y3 y4
 have y_NoMachine := Y_NoMachine.a
 have eH := mg_of X G y_NoMachine
 obtain ⟨bm_NoText, e_NoText⟩ := Y_NoText.at FE y3 y4
 have y_NoText := Y_NoText.a
 have dU := mg_of X G y_NoText
 obtain ⟨bm_RankError, e_RankError⟩ := Y_RankError.at FE y3 y4
 have y_RankError := Y_RankError.a
 have jZ := mg_of X G y_RankError
 have gB : IsA K X_NoMachine true "NoMachine" := aEt X y_NoMachine ja_NoMachine_NoMachine
 have iM : IsA K X_NoMachine false "NoText" := aEt X y_NoText ja_NoMachine_NoText
 have iQ : IsA K X_NoText false "NoMachine" := aEt X y_NoMachine ja_NoText_NoMachine
 have lG : IsA K X_NoText true "NoText" := aEt X y_NoText ja_NoText_NoText
 have gD := zM y_NoMachine jk_NoMachine_NoMachine
 have iU := zM y_NoText jk_NoMachine_NoText
 have iR := zM y_NoMachine jk_NoText_NoMachine
 have lH := zM y_NoText jk_NoText_NoText
 have gC := zM y_NoMachine jk_RankError_NoMachine
 have iT := zM y_NoText jk_RankError_NoText
 have F18 := aEr (st := dH) l18 c18 k18
 have b18 := F18.binds0 (ps := ["self", "steps", "ranks"]) fun _ _ _ _ _ _ => aAr (fun _ _ _ => rfl)
 have F24 := aEr (st := xN) l24 c24 k24
 have b24 := F24.binds0 (ps := ["_law_script"]) fun _ _ _ _ _ _ => jV (fun _ => rfl)
 have uE := mg_none_of X G z_all
 have aF0 := mg_none_of X G z_bool
 have aCd := mg_none_of X G z_int
 have bL := mg_none_of X G z_isinstance
 have cM := mg_none_of X G z_len
 have eZ := mg_none_of X G z_list
 have aJm := mg_none_of X G z_max
 have aJn := mg_none_of X G z_min
 have eU := mg_none_of X G z_range
 have oY := mg_none_of X G z_str
 have aCa := mg_none_of X G z_zip
 have g_FIGURES := mg_of X G v_FIGURES
 have g_MOST_FIGURES := mg_of X G v_MOST_FIGURES
 have g_MOST_LETTERS := mg_of X G v_MOST_LETTERS
 have g_MOST_ROOMS := mg_of X G v_MOST_ROOMS
 refine ⟨fnOf "law" "law" (nA xN) (gK xN) (aL xN) .none kV24 dc24 pm24 an24 cd24 ct24, fun s v => .of_eq rfl, fun base _ _ => ?_⟩
 have C : Ct l.prog w K mg base h := ⟨X, G⟩
 have dG := D1.ok C (aGm cM) fun _ _ _ _ _ _ => jW (fun _ _ => rfl)
 have bH := D2.ok C (aI6) fun _ _ _ _ _ _ => aAr (fun _ _ _ => rfl)
 have lY := D3.ok C (aCl eU) fun _ _ _ _ _ _ => aAr (fun _ _ _ => rfl)
 have pD := D4.ok C (aGn eU dG bH lY) fun _ _ _ _ _ _ => jW (fun _ _ => rfl)
 have kE := D5.ok C (aCb aCa oY) fun _ _ _ _ _ _ => jW (fun _ _ => rfl)
 have oZ := D6.ok C (aGo oY) fun _ _ _ _ _ _ => jW (fun _ _ => rfl)
 have kI := D7.ok C (aCc aCa oZ c_Machine bO bQ) fun _ _ _ _ _ _ => jV (fun _ => rfl)
 have cH := D8.ok C (aGp) fun _ _ _ _ _ _ => jV (fun _ => rfl)
 have iG := D9.ok C (zP cM g_MOST_FIGURES g_FIGURES) fun _ _ _ _ _ _ => jV (fun _ => rfl)
 have jA := D10.okX C (aCm iG e_NoText dU aCd) fun _ _ _ _ _ _ => jV (fun _ => rfl)
 have pC := D11.okX C (aGq e_NoText dU jA) fun _ _ _ _ _ _ => jV (fun _ => rfl)
 have fU := D12.ok C (zQ cM bL eZ) fun _ _ _ _ _ _ => jW (fun _ _ => rfl)
 have jG := D13.ok C (aI7 aCd bL aF0) fun _ _ _ _ _ _ => jV (fun _ => rfl)
 have rH := D14.ok C (aI8 jG) fun _ _ _ _ _ _ => jW (fun _ _ => rfl)
 have xY := D15.ok C (aP1 cM rH uE) fun _ _ _ _ _ _ => aAr (fun _ _ _ => rfl)
 have pA := D16.ok C (aGr cM uE fU xY g_MOST_ROOMS g_MOST_LETTERS) fun _ _ _ _ _ _ => jV (fun _ => rfl)
 have pB := D17.ok C (aGs cM bL eZ jG uE) fun _ _ _ _ _ _ => jW (fun _ _ => rfl)
 have f_Machine___init__ := vX (P := l.prog) (w := w) (mg := mg) (base := base) cM c_Machine bO bQ eZ pA pB jB gA e_NoMachine eH F18
 have lF := MakeOkX.of c_Machine ⟨x5_Machine, a18, e18, x6_Machine⟩ f_Machine___init__ b18 (mg_of X G x_Machine)
 have jY := D19.okX C (aCe oY e_NoText dU bL pC lF) fun _ _ _ _ _ _ => jV (fun _ => rfl)
 have fY := D20.ok C (aGt c_Machine bO bQ e_NoText dU bL e_NoMachine eH jY e_RankError jZ gB iM lG iQ lH iR gC iT gD iU) fun _ _ _ _ _ _ => jV (fun _ => rfl)
 have lZ := D21.ok C (aCn cM bH eZ cH) fun _ _ _ _ _ _ => jW (fun _ _ => rfl)
 have pF := D22.ok C (aGu cM bH cH) fun _ _ _ _ _ _ => jW (fun _ _ => rfl)
 have gM := D23.ok C (xZ cM eU bH oY eZ cH) fun _ _ _ _ _ _ => jW (fun _ _ => rfl)
 have f_law := aXb (P := l.prog) (w := w) (mg := mg) (base := base) cM eU dG bH c_Machine bO bQ eZ lF cH pD kE kI fY lZ pF gM aJm aJn F24
 exact f_law
theorem aRc {q : Program}   {K : Params -> Frag} {as : List Addr} {t : Nat} {r : PySem.W.RowW} {d : DefRec} {kwd : List (Str × Expr)} {run : Value -> List Value -> Sem Value} (e : ∀ P, as = (K P).map (·.1)) (h : WalkO q loose XP (InK K) r d kwd run) : PySem.W.WalkX q loose XP (PySem.W.X.obsZ as) (PySem.W.X.valZ K n t) r d kwd run :=
 fun w s₀ s₁ mg mb G y a o pm cd doc dV kV h1 h2 h3 h4 h5 h6 args vals as' L h7 h8 h9 h10 h11 => h w s₀ s₁ mg mb G (PySem.W.InK.keeps w _ _ (PySem.W.X.z_facts e y).2.1 L.keeps) a o pm cd doc dV kV h1 h2 h3 h4 h5 h6 args vals as' h7 h8 h9 h10 h11
theorem walk {l : OpenLaw} {q : Program}   {YP : World -> Heap -> Prop} {d : DefRec} {K : Params -> Frag} (hn : l.most = some 63) (hdf : d.params.defaults = [])
  (hY : ∀ (w : World) (h : Heap), YP w h -> (K w.params).In h)
  (hlaw : ∀ ns : List Int, ns.length <= 63 -> aD4 [.lst (ns.map D.int)] = .ok (.bl true))
  (F : ∀ (w : World) (mg : Str -> Option Value) (fa : Addr) (h : Heap), (K w.params).In h -> h.Ns mainGlobals mg -> mg d.name = some (.ref fa) ->
   ∃ fd : FuncData, (∀ (s : Shared) (u : Value), BindsTo s fd ⟨[u], []⟩ [("_law_script", u)]) /\ ∀ base : Heap, (K w.params).In base -> base.Ns mainGlobals mg -> FnOk l.prog w (K w.params) mg base CX0 9 fa fd ["_law_script"] (spI (K w.params) 1 aD4)) :
  WalkO q loose XP YP l.row.toRowW d [] (fun f vs => PySem.call f vs) :=
 L2.walk_of (n := 63) (k := 9) (x := "_law_script") (CX := fun _ => CX0) (sp := fun w => spI (K w.params) 1 aD4) hn (by decide) hdf ⟨rfl, by decide, by decide⟩ hY F (fun _ _ a ns hl _ hS => aTp hS (hlaw ns hl)) fun _ _ _ _ _ z => z
end Pu
namespace PySem.W.Fast
def tw11911274986048042789:=0
def tw16337990548410340715:=0
def tw6028595063466746527:=0
def tw2408797236596787444:=0
def tw7513183212331520691:=0
def tw8062436334939236768:=0
def tw1793755556024342609:=0
def tw12837137814656125843:=0
def tw17959992781055464766:=0
def tw6596990713837789798:=0
def tw17885579863398355106:=0
def tw15504339869891233140:=0
def tw646317301041504728:=0
def tw2886339952776954083:=0
def tw15583707430281831423:=0
def tw8647146360844821178:=0
def tw2457340954480631877:=0
def tw15458263414497788820:=0
def tw8165866036624207803:=0
def tw8442215064099370362:=0
def tw14711909005856007216:=0
def tw6126251488187571196:=0
def tw2687931100824850567:=0
def tw6568467039107628428:=0
def tw11215638181456792812:=0
def tw7746276492835402048:=0
def tw63354757379744390:=0
def tw10131657621950370201:=0
def tw3042705423754337667:=0
def tw16704316402796956374:=0
def tw7770107990522296859:=0
def tw1494455507948806590:=0
def tw13586598830291448827:=0
def tw4940606837150660918:=0
def tw5631875111037822055:=0
def tw15273429022590720540:=0
def tw13555782410996601425:=0
def tw15371851861514740476:=0
def tw3428246626429461484:=0
def tw3232258149969950557:=0
def tw15464235090073639260:=0
def tw9587908304748943736:=0
def tw7101016077687201705:=0
def tw16044147804194767047:=0
def tw9292193404212581618:=0
def tw7676790224827798203:=0
def tw11735724516804203582:=0
def tw75062960317239028:=0
def tw15603362054603222463:=0
def tw7427264021933684091:=0
def tw1870131099042684447:=0
def tw8856523306973546734:=0
def tw5389504379523125976:=0
def tw13208546186551000554:=0
def tw11697467111074352829:=0
def tw210424065480361187:=0
def tw6335415415426832989:=0
def tw7167029798364506899:=0
def tw1492690833905053749:=0
def tw2447864957716478193:=0
def tw10842412143568238829:=0
end PySem.W.Fast
open PySem PySem.W PyProof.Rows
set_option maxRecDepth 100000 in
set_option maxHeartbeats 0 in
theorem PySem.Challenge.cw_looprank_k16_texts_of_machines_holds : PySem.Challenge.rw_looprank_k16_texts_of_machines.Holds := by
 w_on; o_law; z_head; (case hw => w_witness2)
 k_fill
 refine Pu.aRc (fun P => by kernel_rfl) (Pu.walk (l := PySem.Challenge.rw_looprank_k16_texts_of_machines) rfl rfl (fun w h Y => Y) Pu.law_true ?F)
 case F =>
  intro w mg fa h KX G hmg
  refine' Pu.all_mk PySem.F.excBase_ValueError KX G hmg ?x_Machine ?x1_Machine ?x2_Machine ?x3_Machine ?x4_Machine ?x5_Machine ?x6_Machine ?w_Machine_letters ?w_Machine_many ?w_Machine_ranks ?w_Machine_steps ?y3 ?y4 (Pu.XA.mk ?y_NoMachine ?y0_NoMachine ?y1_NoMachine ?y6_NoMachine ?y7_NoMachine ?y2_NoMachine ?y5_NoMachine) (Pu.XA.mk ?y_NoText ?y0_NoText ?y1_NoText ?y6_NoText ?y7_NoText ?y2_NoText ?y5_NoText) (Pu.XA.mk ?y_RankError ?y0_RankError ?y1_RankError ?y6_RankError ?y7_RankError ?y2_RankError ?y5_RankError) ?ja_NoMachine_NoMachine ?ja_NoMachine_NoText ?ja_NoText_NoMachine ?ja_NoText_NoText ?jk_NoMachine_NoMachine ?jk_NoMachine_NoText ?jk_NoText_NoMachine ?jk_NoText_NoText ?jk_RankError_NoMachine ?jk_RankError_NoText (Pu.iH ?a1 ?l1 ?c1 ?k1) (Pu.iH ?a2 ?l2 ?c2 ?k2) (Pu.iH ?a3 ?l3 ?c3 ?k3) (Pu.iH ?a4 ?l4 ?c4 ?k4) (Pu.iH ?a5 ?l5 ?c5 ?k5) (Pu.iH ?a6 ?l6 ?c6 ?k6) (Pu.iH ?a7 ?l7 ?c7 ?k7) (Pu.iH ?a8 ?l8 ?c8 ?k8) (Pu.iH ?a9 ?l9 ?c9 ?k9) (Pu.iH ?a10 ?l10 ?c10 ?k10) (Pu.iH ?a11 ?l11 ?c11 ?k11) (Pu.iH ?a12 ?l12 ?c12 ?k12) (Pu.iH ?a13 ?l13 ?c13 ?k13) (Pu.iH ?a14 ?l14 ?c14 ?k14) (Pu.iH ?a15 ?l15 ?c15 ?k15) (Pu.iH ?a16 ?l16 ?c16 ?k16) (Pu.iH ?a17 ?l17 ?c17 ?k17) ?a18 ?e18 ?l18 ?c18 ?k18 (Pu.iH ?a19 ?l19 ?c19 ?k19) (Pu.iH ?a20 ?l20 ?c20 ?k20) (Pu.iH ?a21 ?l21 ?c21 ?k21) (Pu.iH ?a22 ?l22 ?c22 ?k22) (Pu.iH ?a23 ?l23 ?c23 ?k23) ?a24 ?l24 ?c24 ?k24 ?v_FIGURES ?v_MOST_FIGURES ?v_MOST_LETTERS ?v_MOST_ROOMS ?z_all ?z_bool ?z_int ?z_isinstance ?z_len ?z_list ?z_max ?z_min ?z_range ?z_str ?z_zip
  (case x_Machine | x1_Machine | x2_Machine | x3_Machine | x4_Machine | x5_Machine | x6_Machine | w_Machine_letters | w_Machine_many | w_Machine_ranks | w_Machine_steps | y3 | y4 | y_NoMachine => k_is)
  (case y0_NoMachine => k_exc)
  (case y1_NoMachine | y6_NoMachine | y7_NoMachine | y2_NoMachine | y5_NoMachine | y_NoText => k_is)
  (case y0_NoText => k_exc)
  (case y1_NoText | y6_NoText | y7_NoText | y2_NoText | y5_NoText | y_RankError => k_is)
  (case y0_RankError => k_exc)
  (case y1_RankError | y6_RankError | y7_RankError | y2_RankError | y5_RankError | ja_NoMachine_NoMachine | ja_NoMachine_NoText | ja_NoText_NoMachine | ja_NoText_NoText => k_is)
  (case jk_NoMachine_NoMachine | jk_NoMachine_NoText | jk_NoText_NoMachine | jk_NoText_NoText | jk_RankError_NoMachine | jk_RankError_NoText => kit_is)
  (case a1 | l1 | c1 | k1 | a2 | l2 | c2 | k2 | a3 | l3 | c3 | k3 | a4 | l4 | c4 | k4 | a5 | l5 | c5 | k5 | a6 | l6 | c6 | k6 => k_is)
  (case a7 | l7 | c7 | k7 | a8 | l8 | c8 | k8 | a9 | l9 | c9 | k9 | a10 | l10 | c10 | k10 | a11 | l11 | c11 | k11 | a12 | l12 | c12 | k12 => k_is)
  (case a13 | l13 | c13 | k13 | a14 | l14 | c14 | k14 | a15 | l15 | c15 | k15 | a16 | l16 | c16 | k16 | a17 | l17 | c17 | k17 | a18 | e18 | l18 | c18 => k_is)
  (case k18 | a19 | l19 | c19 | k19 | a20 | l20 | c20 | k20 | a21 | l21 | c21 | k21 | a22 | l22 | c22 | k22 | a23 | l23 | c23 | k23 | a24 | l24 | c24 => k_is)
  (case k24 | v_FIGURES | v_MOST_FIGURES | v_MOST_LETTERS | v_MOST_ROOMS | z_all | z_bool | z_int | z_isinstance | z_len | z_list | z_max | z_min | z_range | z_str | z_zip => k_is)
