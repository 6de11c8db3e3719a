import PyProof.Rows.All
import Wide.All
import OpenK.AllK
import Wide.FinOn
import Lean
import PyProof.EqAt
import PyProof.EqKinds
import PyProof.TupleCall
import PyProof.P3Eq
import PyProof.NeKinds
import PyProof.NsDelKeeps
import PyProof.RulesAs
import PyProof.ExcAttrAll.ValueError
import PySem.Challenge.RW_looprank_k82_writings
set_option Elab.async false
set_option linter.all false
set_option maxRecDepth 100000
namespace L2
open PySem PySem.Spec PyProof.Rows
abbrev Key := Sum Int Str
def keyIs : Key -> Value -> Bool
 | .inl k, v => Value.isInt k v
 | .inr x, v => Value.isStrOf x v
def keyH (w : World) : Key -> Int
 | .inl k => hashInt k
 | .inr x => hashStr w x
theorem keyIs_shape : ∀ {k : Key} {v : Value}, keyIs k v = true -> (∃ i t, k = Sum.inl i /\ v = Value.int i t) \/ (∃ x t, k = Sum.inr x /\ v = Value.str x t)
 | .inl i, v, h => by
  obtain ⟨t, e⟩ := Value.isInt_shape (k := i) (v := v) h
  exact .inl ⟨i, t, rfl, e⟩
 | .inr x, v, h => by
  obtain ⟨t, e⟩ := Value.isStrOf_shape (x := x) (v := v) h
  exact .inr ⟨x, t, rfl, e⟩
theorem keyIs_int (i : Int) (t : Tok) : keyIs (.inl i) (.int i t) = true := by simp [keyIs, Value.isInt]
theorem keyIs_str (x : Str) (t : Tok) : keyIs (.inr x) (.str x t) = true := by simp [keyIs, Value.isStrOf]
theorem key_ll (a b : Int) : decide ((Sum.inl a : Key) = Sum.inl b) = (a == b) := by
 by_cases e : a = b
 ·subst e; simp
 ·have h : ¬ (Sum.inl a : Key) = Sum.inl b := fun q => e (Sum.inl.inj q)
  rw [decide_eq_false h]
  exact (beq_eq_false_iff_ne.mpr e).symm
theorem key_rr (a b : Str) : decide ((Sum.inr a : Key) = Sum.inr b) = decide (a = b) := by
 by_cases e : a = b
 ·subst e; simp
 ·have h : ¬ (Sum.inr a : Key) = Sum.inr b := fun q => e (Sum.inr.inj q)
  rw [decide_eq_false h, decide_eq_false e]
theorem key_lr (a : Int) (b : Str) : decide ((Sum.inl a : Key) = Sum.inr b) = false := decide_eq_false (fun q => nomatch q)
theorem key_rl (a : Str) (b : Int) : decide ((Sum.inr a : Key) = Sum.inl b) = false := decide_eq_false (fun q => nomatch q)
def mixKind (prog : Program) (w : World) : PySem.KeyKind prog w Key where
 is := keyIs
 hash := keyH w
 inj := fun v a b ha hb => by
  rcases keyIs_shape ha with ⟨i, t, rfl, rfl⟩ | ⟨x, t, rfl, rfl⟩
  ·rcases keyIs_shape hb with ⟨j, u, rfl, e⟩ | ⟨y, u, rfl, e⟩
   ·injection e with e1 _; rw [e1]
   ·exact nomatch e
  ·rcases keyIs_shape hb with ⟨j, u, rfl, e⟩ | ⟨y, u, rfl, e⟩
   ·exact nomatch e
   ·injection e with e1 _; rw [e1]
 byValue := fun k v h => by
  rcases keyIs_shape h with ⟨i, t, rfl, rfl⟩ | ⟨x, t, rfl, rfl⟩ <;> rfl
 pyHash := fun hv h => by
  rcases keyIs_shape hv with ⟨i, t, rfl, rfl⟩ | ⟨x, t, rfl, rfl⟩
  ·exact wpAny_pyHash_int h
  ·exact wpAny_pyHash_str h
 eqBool := fun hu hv h => by
  rcases keyIs_shape hu with ⟨i, t, rfl, rfl⟩ | ⟨x, t, rfl, rfl⟩
  ·rcases keyIs_shape hv with ⟨j, u, rfl, rfl⟩ | ⟨y, u, rfl, rfl⟩
   ·rw [key_ll] at h; exact wpAny_eqBool_int h
   ·rw [key_lr] at h; exact SeqAt.EqAt.int_str i t y u _ _ _ _ h
  ·rcases keyIs_shape hv with ⟨j, u, rfl, rfl⟩ | ⟨y, u, rfl, rfl⟩
   ·rw [key_rl] at h; exact SeqAt.EqAt.str_int x t j u _ _ _ _ h
   ·rw [key_rr] at h; exact wpAny_eqBool_str h
 «strs» := fun k x t v h => by
  rcases keyIs_shape h with ⟨i, u, rfl, e⟩ | ⟨y, u, rfl, e⟩
  ·exact nomatch e
  ·injection e with e1 _
   subst e1
   cases v <;> rfl
theorem mixKind_int (prog : Program) (w : World) (i : Int) (t : Tok) : (mixKind prog w).is (.inl i) (.int i t) = true := keyIs_int i t
theorem mixKind_str (prog : Program) (w : World) (x : Str) (t : Tok) : (mixKind prog w).is (.inr x) (.str x t) = true := keyIs_str x t
end L2
namespace L2
open PySem PySem.Spec PyProof.Rows
inductive V where
 | non | bl (b : Bool) | int (i : Int) | str (x : Str) | byt (b : Array UInt8) | flt (b : UInt64) | ref (a : Addr) | ty (n : String)
 deriving DecidableEq
def RelV : V -> Value -> Prop
 | .non, u => u = Value.none
 | .bl b, u => u = Value.bool b
 | .int i, u => ∃ t, u = Value.int i t
 | .str x, u => ∃ t, u = Value.str x t
 | .byt b, u => ∃ t, u = Value.bytes b t
 | .flt b, u => ∃ t, u = Value.float b t
 | .ref a, u => u = Value.ref a
 | .ty n, u => u = Value.type n
abbrev Vals : List V -> List Value -> Prop := Paired RelV
theorem Vals.length {xs : List V} {us : List Value} (r : Vals xs us) : xs.length = us.length := Paired.length r
theorem Vals.get : ∀ {xs : List V} {us : List Value} {i : Nat} {x : V}, Vals xs us -> xs[i]? = some x -> ∃ u, us[i]? = some u /\ RelV x u
 | _, _, _, _, .nil, e => by simp at e
 | _, _, 0, _, .cons r _, e => by simp at e; subst e; exact ⟨_, rfl, r⟩
 | _, _, i + 1, x, .cons _ t, e => by
  obtain ⟨u, h1, h2⟩ := Vals.get (i := i) (x := x) t (by simpa using e)
  exact ⟨u, by simpa using h1, h2⟩
theorem Vals.set {x : V} {u : Value} (r : RelV x u) : ∀ {xs : List V} {us : List Value} (i : Nat), Vals xs us -> Vals (xs.set i x) (us.set i u)
 | _, _, _, .nil => .nil
 | _, _, 0, .cons _ t => .cons r t
 | _, _, i + 1, .cons q t => .cons q (Vals.set r i t)
theorem Vals.append : ∀ {xs ys : List V} {us ws : List Value}, Vals xs us -> Vals ys ws -> Vals (xs ++ ys) (us ++ ws)
 | _, _, _, _, .nil, s => s
 | _, _, _, _, .cons r t, s => .cons r (Vals.append t s)
theorem Vals.take : ∀ {xs : List V} {us : List Value} (n : Nat), Vals xs us -> Vals (xs.take n) (us.take n)
 | _, _, 0, _ => .nil
 | _, _, _ + 1, .nil => .nil
 | _, _, n + 1, .cons r t => .cons r (Vals.take n t)
theorem Vals.drop : ∀ {xs : List V} {us : List Value} (n : Nat), Vals xs us -> Vals (xs.drop n) (us.drop n)
 | _, _, 0, r => r
 | _, _, _ + 1, .nil => .nil
 | _, _, n + 1, .cons _ t => Vals.drop n t
def RelO : Option V -> Option Value -> Prop
 | some v, some u => RelV v u
 | none, none => True
 | _, _ => False
def KV {κ : Type} : List (κ × V) -> List (κ × Value) -> Prop := Paired fun (p : κ × V) (q : κ × Value) => p.1 = q.1 /\ RelV p.2 q.2
def kV : Key -> V
 | .inl i => .int i
 | .inr x => .str x
inductive HO where
 | lst (xs : List V)
 | tup (xs : List V)
 | dK (kvs : List (Key × V)) | dT (kvs : List (List Key × V))
 | set (S : Int -> Bool) (n : Nat)
 | ins (C dx : Addr) (fs : List (Str × V))
 | own (x : Addr)
 | xd (fs : List (Str × V))
 | met (f x : Addr)
 | rng (lo hi : Int)
 | frz (o : Obj) (u : HO)
 | tbl (ps : Array Value)
 | ext (φ : Heap -> Prop)
abbrev Hp := Addr -> Option HO
def upd (H : Hp) (a : Addr) (o : HO) : Hp := fun b => if b = a then some o else H b
theorem upd_same {H : Hp} {a : Addr} {o : HO} : upd H a o a = some o := by unfold upd; rw [if_pos rfl]
theorem upd_ne {H : Hp} {a b : Addr} {o : HO} (h : b ≠ a) : upd H a o b = H b := by unfold upd; rw [if_neg h]
theorem ne_of {H : Hp} {a b : Addr} {o u : HO} (h : H a = some o) (h' : H b = some u) (d : o ≠ u) : a ≠ b := by
 intro e; subst e; rw [h] at h'; exact d (Option.some.inj h')
theorem ne_of_none {H : Hp} {a b : Addr} {o : HO} (h : H a = some o) (h' : H b = none) : a ≠ b := by
 intro e; subst e; rw [h] at h'; cases h'
section
variable (P : Program) (w : World)
def ObjOk (H : Hp) (h : Heap) (a : Addr) : HO -> Prop
 | .lst xs => xs.length <= sizeLine /\ ∃ (its : List Value) (n : Nat), Vals xs its /\ h.get? a = some { cls := .type "list", data := .seq its.toArray n }
 | .tup xs => xs.length <= sizeLine /\ ∃ its : List Value, Vals xs its /\ IsTup h a its.toArray
 | .dK kvs => kvs.length <= sizeLine /\ (a == sysModules) = false /\ ∃ vs, KV kvs vs /\ h.DictOf (mixKind P w) a vs
 | .dT kvs => kvs.length <= sizeLine /\ (a == sysModules) = false /\ ∃ xs : List (List Key × Addr × Value),
   Paired (fun (p : List Key × V) (q : List Key × Addr × Value) => p.1 = q.1 /\ H q.2.1 = some (.tup (p.1.map kV)) /\ RelV p.2 q.2.2) kvs xs /\
   ∃ o es ep, h.get? a = some o /\ o.ExactDict /\ o.data = .dict es ep /\ es.toList = xs.map (entryOfKey (tupleKind (mixKind P w))) /\ (xs.map (·.1)).Nodup
 | .set S n => h.SetOf (intKind P w) a S n
 | .ins C dx fs => H dx = some (.own a) /\ fs.length <= 1000 /\ dx ≠ a /\ h.get? a = some (PySem.W.instObj C dx) /\
   ∃ mA, h.Ns1 dx mA /\ (∀ f, RelO (fs.lookup f) (mA f)) /\ PySem.Within mA (fs.map (·.1))
 | .own _ => ∃ o, h.get? a = some o
 | .xd fs => ∃ mA, h.Ns1 a mA /\ ∀ f, RelO (fs.lookup f) (mA f)
 | .rng lo hi => ∃ t u v, h.get? a = some { cls := .type "range", data := .fields #[.int lo t, .int hi u, .int 1 v] }
 | .frz o u => h.get? a = some o /\ ObjOk H h a u
 | .tbl ps => h.get? a = some { cls := .none, data := .fields ps }
 | .met f x => h.get? a = some (PySem.W.methodObj (.ref f) (.ref x))
 | .ext φ => φ h /\ (∃ o, h.get? a = some o) /\ ∀ h1 h2 : Heap, φ h1 -> (∀ o, h1.get? a = some o -> h2.get? a = some o) -> φ h2
def HOk (H : Hp) (h : Heap) : Prop := ∀ a o, H a = some o -> ObjOk P w H h a o
end
section
variable {P : Program} {w : World} {H H' : Hp} {h h' : Heap} {a : Addr} {o : HO}
theorem ObjOk.lt (x : ObjOk P w H h a o) : a < h.objs.size := by
 cases o with
 | lst xs => obtain ⟨_, _, _, _, e⟩ := x; exact Heap.lt_size e
 | tup xs => obtain ⟨_, _, _, p⟩ := x; exact p.lt
 | dK kvs => obtain ⟨_, _, _, _, o, _, _, e, _⟩ := x; exact Heap.lt_size e
 | dT kvs => obtain ⟨_, _, _, _, o, _, _, e, _⟩ := x; exact Heap.lt_size e
 | set S n => obtain ⟨o, _, _, _, e, _⟩ := x; exact Heap.lt_size e
 | ins C dx fs => obtain ⟨_, _, _, e, _⟩ := x; exact Heap.lt_size e
 | own y => obtain ⟨_, e⟩ := x; exact Heap.lt_size e
 | xd fs => obtain ⟨_, ⟨_, _, _, e, _⟩, _⟩ := x; exact Heap.lt_size e
 | rng lo hi => obtain ⟨_, _, _, e⟩ := x; exact Heap.lt_size e
 | frz ob u => obtain ⟨e, _⟩ := x; exact Heap.lt_size e
 | tbl ps => exact Heap.lt_size (show h.get? a = some _ from x)
 | met f y => exact Heap.lt_size (show h.get? a = some _ from x)
 | ext φ => obtain ⟨_, ⟨_, e⟩, _⟩ := x; exact Heap.lt_size e
theorem Paired.mapP {α β : Type} {F G : α -> β -> Prop} : ∀ {l₁ : List α} {l₂ : List β}, Paired F l₁ l₂ -> (∀ a b, F a b -> G a b) -> Paired G l₁ l₂
 | _, _, .nil, _ => .nil
 | _, _, .cons r t, f => .cons (f _ _ r) (Paired.mapP t f)
theorem ObjOk.stay (x : ObjOk P w H h a o) (k : ∀ b u, (b = a \/ H b = some (.own a)) -> h.get? b = some u -> h'.get? b = some u)
  (ho : ∀ b, H b = some (.own a) -> H' b = some (.own a)) (ht : ∀ b xs, H b = some (.tup xs) -> H' b = some (.tup xs)) : ObjOk P w H' h' a o := by
 induction o with
 | lst xs => obtain ⟨z, its, n, r, e⟩ := x; exact ⟨z, its, n, r, k _ _ (.inl rfl) e⟩
 | tup xs => obtain ⟨z, its, r, ob, e, c⟩ := x; exact ⟨z, its, r, ob, k _ _ (.inl rfl) e, c⟩
 | dK kvs => obtain ⟨z, y, vs, r, ob, es, ep, e, c⟩ := x; exact ⟨z, y, vs, r, ob, es, ep, k _ _ (.inl rfl) e, c⟩
 | dT kvs =>
  obtain ⟨z, y, xs, r, ob, es, ep, e, c⟩ := x
  exact ⟨z, y, xs, Paired.mapP r fun p q z => ⟨z.1, ht _ _ z.2.1, z.2.2⟩, ob, es, ep, k _ _ (.inl rfl) e, c⟩
 | set S n => obtain ⟨ob, es, ep, t, e, c⟩ := x; exact ⟨ob, es, ep, t, k _ _ (.inl rfl) e, c⟩
 | ins C dx fs =>
  obtain ⟨d, z, ne, e, mA, ⟨od, es, ep, e2, c⟩, r⟩ := x
  exact ⟨ho _ d, z, ne, k _ _ (.inl rfl) e, mA, ⟨od, es, ep, k _ _ (.inr d) e2, c⟩, r⟩
 | own y => obtain ⟨ob, e⟩ := x; exact ⟨ob, k _ _ (.inl rfl) e⟩
 | xd fs => obtain ⟨mA, ⟨od, es, ep, e, c⟩, r⟩ := x; exact ⟨mA, ⟨od, es, ep, k _ _ (.inl rfl) e, c⟩, r⟩
 | rng lo hi => obtain ⟨t, u, v, e⟩ := x; exact ⟨t, u, v, k _ _ (.inl rfl) e⟩
 | frz ob u ih => obtain ⟨e, q⟩ := x; exact ⟨k _ _ (.inl rfl) e, ih q⟩
 | tbl ps =>
  have e : h.get? a = some { cls := .none, data := .fields ps } := x
  show h'.get? a = some { cls := .none, data := .fields ps }
  exact k a _ (.inl rfl) e
 | met f y =>
  have e : h.get? a = some (PySem.W.methodObj (.ref f) (.ref y)) := x
  show h'.get? a = some (PySem.W.methodObj (.ref f) (.ref y))
  exact k a _ (.inl rfl) e
 | ext φ => obtain ⟨p, ⟨o, e⟩, st⟩ := x; exact ⟨st _ _ p fun o q => k _ _ (.inl rfl) q, ⟨o, k _ _ (.inl rfl) e⟩, st⟩
theorem HOk.lt (x : HOk P w H h) (e : H a = some o) : a < h.objs.size := (x a o e).lt
theorem HOk.fresh (x : HOk P w H h) (e : h.objs.size <= a) : H a = none := by
 cases q : H a with
 | none => rfl
 | some u => exact absurd (Nat.lt_of_lt_of_le (x.lt q) e) (Nat.lt_irrefl _)
theorem HOk.kept (x : HOk P w H h) (k : ∀ b u, h.get? b = some u -> h'.get? b = some u) : HOk P w H h' := fun a o e =>
 (x a o e).stay (fun b u _ q => k b u q) (fun _ q => q) fun _ _ q => q
theorem HOk.laid (x : HOk P w H h) (k : ∀ b u, h.get? b = some u -> h'.get? b = some u) (hp : h.objs.size <= a) (new : ObjOk P w (upd H a o) h' a o) : HOk P w (upd H a o) h' := fun b u e => by
 have hn := x.fresh hp
 by_cases hb : b = a
 ·subst hb; rw [upd_same] at e; cases e; exact new
 ·rw [upd_ne hb] at e
  exact (x b u e).stay (fun c v _ q => k c v q) (fun c q => by rw [upd_ne (ne_of_none q hn)]; exact q) fun c xs q => by rw [upd_ne (ne_of_none q hn)]; exact q
end
def Rd (H : Hp) (a : Addr) (u : HO) : Prop := H a = some u \/ ∃ o, H a = some (.frz o u)
theorem Rd.of {H : Hp} {a : Addr} {u : HO} (h : H a = some u) : Rd H a u := .inl h
theorem Rd.ok {P : Program} {w : World} {H : Hp} {h : Heap} {a : Addr} {u : HO} (r : Rd H a u) (x : HOk P w H h) : ObjOk P w H h a u := by
 rcases r with r | ⟨o, r⟩
 ·exact x a u r
 ·obtain ⟨_, q⟩ := x a _ r
  exact q
def Mut : Option HO -> Prop
 | some (.lst _) => True
 | some (.dK _) => True
 | some (.dT _) => True
 | some (.set _ _) => True
 | some (.ins _ _ _) => True
 | some (.ext _) => True
 | _ => False
section
variable {P : Program} {w : World} {H : Hp} {h h' : Heap} {x e : Addr} {o' : HO}
theorem HOk.write (ok : HOk P w H h) (mu : Mut (H x)) (he : e = x \/ H e = some (.own x)) (k : ∀ b u, b ≠ e -> h.get? b = some u -> h'.get? b = some u) (heo : ∃ u, h'.get? e = some u)
  (new : ObjOk P w (upd H x o') h' x o') : HOk P w (upd H x o') h' := fun b u q => by
 have nown : ∀ c y, H c = some (.own y) -> c ≠ x := fun c y r z => by subst z; rw [r] at mu; exact mu
 have ntup : ∀ c xs, H c = some (.tup xs) -> c ≠ x := fun c xs r z => by subst z; rw [r] at mu; exact mu
 by_cases hb : b = x
 ·subst hb; rw [upd_same] at q; cases q; exact new
 ·rw [upd_ne hb] at q
  by_cases hbe : b = e
  ·have q' : H b = some (.own x) := by
    rcases he with z | z
    ·exact absurd (hbe.trans z) hb
    ·rw [hbe]; exact z
   rw [q] at q'; cases q'
   obtain ⟨v, hv⟩ := heo
   exact ⟨v, by rw [hbe]; exact hv⟩
  ·refine (ok b u q).stay (fun c v hc r => k c v ?_ r) (fun c r => by rw [upd_ne (nown c b r)]; exact r) fun c xs r => by rw [upd_ne (ntup c xs r)]; exact r
   rcases hc with rfl | hc
   ·exact hbe
   ·rintro rfl
    rcases he with z | z
    ·exact nown c b hc z
    ·rw [hc] at z; cases z; exact hb rfl
end
structure Un (fs ex : List Addr) (H H' : Hp) (h h' : Heap) : Prop where
 keep : ∀ b o, h.get? b = some o -> H b = none -> b ∉ fs -> b ∉ ex -> h'.get? b = some o
 slot : ∀ b o, h.get? b = some o -> H b = none -> b ∈ fs -> b ∉ ex -> ∃ sl, h'.get? b = some { o with slots := sl }
 free : ∀ b o, h.get? b = some o -> H b = none -> b ∉ ex -> H' b = none
 there : ∀ b o, h.get? b = some o -> b ∉ ex -> ∃ o', h'.get? b = some o'
 tups : ∀ b xs, H b = some (.tup xs) -> H' b = some (.tup xs)
 frzs : ∀ b o u, H b = some (.frz o u) -> H' b = some (.frz o u)
 tbls : ∀ b ps, H b = some (.tbl ps) -> ∃ more, H' b = some (.tbl (ps ++ more))
section
variable {fs fs' ex ex' : List Addr} {H H1 H2 : Hp} {h h1 h2 h' : Heap} {a x e : Addr} {o : HO}
theorem Un.any (u : Un fs ex H H1 h h1) {b : Addr} {ob : Obj} (q : h.get? b = some ob) (n : H b = none) (hx : b ∉ ex) : ∃ sl, h1.get? b = some { ob with slots := sl } := by
 by_cases hb : b ∈ fs
 ·exact u.slot b ob q n hb hx
 ·exact ⟨ob.slots, u.keep b ob q n hb hx⟩
theorem Un.trans (a : Un fs ex H H1 h h1) (b : Un fs ex H1 H2 h1 h2) : Un fs ex H H2 h h2 where
 keep := fun c ob q n hc hx => b.keep c ob (a.keep c ob q n hc hx) (a.free c ob q n hx) hc hx
 slot := fun c ob q n hc hx => by
  obtain ⟨sl, e1⟩ := a.slot c ob q n hc hx
  obtain ⟨sl', e2⟩ := b.slot c _ e1 (a.free c ob q n hx) hc hx
  exact ⟨sl', e2⟩
 free := fun c ob q n hx => by
  obtain ⟨o', e1⟩ := a.there c ob q hx
  exact b.free c o' e1 (a.free c ob q n hx) hx
 there := fun c ob q hx => by
  obtain ⟨o', e1⟩ := a.there c ob q hx
  exact b.there c o' e1 hx
 tups := fun c xs q => b.tups c xs (a.tups c xs q)
 frzs := fun c ob xs q => b.frzs c ob xs (a.frzs c ob xs q)
 tbls := fun c ps q => by
  obtain ⟨m1, e1⟩ := a.tbls c ps q
  obtain ⟨m2, e2⟩ := b.tbls c _ e1
  exact ⟨m1 ++ m2, by rw [e2, Array.append_assoc]⟩
theorem Un.kept (k : ∀ b u, h.get? b = some u -> h'.get? b = some u) : Un fs ex H H h h' :=
 ⟨fun b ob q _ _ _ => k b ob q, fun b ob q _ _ _ => ⟨ob.slots, k b ob q⟩, fun _ _ _ n _ => n, fun b ob q _ => ⟨ob, k b ob q⟩, fun _ _ q => q, fun _ _ _ q => q, fun _ ps q => ⟨#[], by rw [q]; simp⟩⟩
theorem Un.refl : Un fs ex H H h h := Un.kept fun _ _ q => q
theorem Un.laid (k : ∀ b u, h.get? b = some u -> h'.get? b = some u) (hp : h.objs.size <= a) (hn : H a = none) : Un fs ex H (upd H a o) h h' where
 keep := fun b u q _ _ _ => k b u q
 slot := fun b u q _ _ _ => ⟨u.slots, k b u q⟩
 free := fun b u q n _ => by rw [upd_ne (Nat.ne_of_lt (Nat.lt_of_lt_of_le (Heap.lt_size q) hp))]; exact n
 there := fun b u q _ => ⟨u, k b u q⟩
 tups := fun b xs q => by rw [upd_ne (ne_of_none q hn)]; exact q
 frzs := fun b u xs q => by rw [upd_ne (ne_of_none q hn)]; exact q
 tbls := fun b ps q => ⟨#[], by rw [upd_ne (ne_of_none q hn), q]; simp⟩
theorem Un.write (mu : Mut (H x)) (he : e = x \/ H e = some (.own x)) (k : ∀ b u, b ≠ e -> h.get? b = some u -> h'.get? b = some u) (heo : ∃ u, h'.get? e = some u) : Un fs ex H (upd H x o) h h' := by
 have hx : ∀ b, H b = none -> b ≠ x := fun b n z => by subst z; rw [n] at mu; exact mu
 have hb : ∀ b, H b = none -> b ≠ e := fun b n z => by
  subst z
  rcases he with r | r
  ·exact hx b n r
  ·rw [n] at r; cases r
 have hm : ∀ b u, H b = some u -> ¬ Mut (some u) -> b ≠ x := fun b u q nm z => by subst z; rw [q] at mu; exact nm mu
 refine ⟨fun b u q n _ _ => k b u (hb b n) q, fun b u q n _ _ => ⟨u.slots, k b u (hb b n) q⟩, fun b u q n _ => by rw [upd_ne (hx b n)]; exact n, fun b u q _ => ?_,
  fun b xs q => by rw [upd_ne (hm b _ q fun z => z)]; exact q, fun b u xs q => by rw [upd_ne (hm b _ q fun z => z)]; exact q, fun b ps q => ⟨#[], by rw [upd_ne (hm b _ q fun z => z), q]; simp⟩⟩
 by_cases hbe : b = e
 ·subst hbe; exact heo
 ·exact ⟨u, k b u hbe q⟩
theorem Un.mono (u : Un fs ex H H1 h h1) (hs : ∀ b ∈ fs, b ∈ fs') (hx : ∀ b ∈ ex, b ∈ ex') : Un fs' ex' H H1 h h1 :=
 ⟨fun b ob q n hb he => u.keep b ob q n (fun z => hb (hs b z)) fun z => he (hx b z), fun _ _ q n _ he => u.any q n fun z => he (hx _ z), fun b ob q n he => u.free b ob q n fun z => he (hx b z), fun b ob q he => u.there b ob q fun z => he (hx b z), u.tups, u.frzs, u.tbls⟩
end
def trk (h : Heap) (H : Hp) : List Addr := (List.range h.objs.size).filter fun a => (H a).isSome
def hidT (h : Heap) (H : Hp) : Heap := PySem.W.hideAll h (trk h H)
theorem hidT_size (h : Heap) (H : Hp) : (hidT h H).objs.size = h.objs.size := PySem.W.hideAll_size _ _
theorem hidT_get {h : Heap} {H : Hp} {b : Addr} {o : Obj} (e : h.get? b = some o) (n : H b = none) : (hidT h H).get? b = some o :=
 PySem.W.hideAll_get _ e fun hm => by
  have q : (H b).isSome = true := (List.mem_filter.mp hm).2
  rw [n] at q; simp at q
theorem of_hidT {h : Heap} {H : Hp} {b : Addr} {o : Obj} (e : (hidT h H).get? b = some o) : h.get? b = some o /\ H b = none := by
 have e' : h.get? b = some o := PySem.W.of_hideAll (trk h H) e
 refine ⟨e', ?_⟩
 cases q : H b with
 | none => rfl
 | some x =>
  have hm : b ∈ trk h H := List.mem_filter.mpr ⟨List.mem_range.mpr (Heap.lt_size e'), by simp [q]⟩
  have z : (hidT h H).get? b = none := PySem.W.hideAll_none (trk h H) hm
  rw [z] at e; cases e
def allNews (g h : Heap) (L : Addr) : List (Addr × Obj) := (List.range h.objs.size).filterMap fun a => if a = L \/ (g.get? a).isSome = true then none else (h.get? a).map fun o => (a, o)
def rest (g h : Heap) (L d : Addr) : List (Addr × Obj) := (allNews g h L).filter fun p => decide (p.1 ≠ d)
end L2
namespace L2
open PySem PySem.Spec PyProof.Rows
structure Mod (K : PySem.W.Frag) (mg : Str -> Option Value) (base : Heap) : Prop where
 kin : K.In base
 glob : base.Ns mainGlobals mg
 blt : ∃ mb, base.Ns builtinsNs mb /\ ∀ x : Str, x ≠ "__name__" -> mb x = bootBuiltins x
 nolimit : base.NoLimit
structure Cx where
 prog : Program
 w : World
 K : PySem.W.Frag
 mg : Str -> Option Value
 base : Heap
 A : Around
 N : List Str
 s₀ : Shared
 H₀ : Hp
 env : Env
 outer : List Env
 stack : List Env
 ex : List Addr
 fn : Str -> Bool
 calm : Bool
 pn : List (Addr × Obj)
 xe : Value -> Shared -> Prop
def frs (l : List Env) : List Addr := l.filterMap (·.frame)
abbrev Cx.fs (X : Cx) : List Addr := frs X.outer
def Vis (sc : Scope) (x : Str) : Prop := sc.names.lookup x = some .local \/ sc.names.lookup x = some .cell \/ sc.names.lookup x = some .free
def Loc (sc : Scope) (x : Str) : Prop := sc.names.lookup x = some .local \/ sc.names.lookup x = some .cell
def Look (env : Env) (h : Heap) (m : Str -> Option Value) (x : Str) (u : Value) : Prop :=
 (env.kindOf x = some .local /\ m x = some u) \/ ((env.kindOf x = some .cell \/ env.kindOf x = some .free) /\ ∃ c, env.cells.lookup x = some c /\ h.IsCell c (some u))
structure Cx.Ok (X : Cx) : Prop where
 mod : Mod X.K X.mg X.base
 kind : X.env.scope.kind = .function
 glob : X.env.globals = mainGlobals
 blt : X.env.builtins = builtinsNs
 above : X.s₀.heap.objs.size <= X.env.locals
 inj : ∀ x y c, X.env.cells.lookup x = some c -> X.env.cells.lookup y = some c -> x = y
 has : ∀ x, (X.env.kindOf x = some .cell \/ X.env.kindOf x = some .free) -> ∃ c, X.env.cells.lookup x = some c
 cab : ∀ x c, X.fn x = true -> X.env.cells.lookup x = some c -> X.s₀.heap.objs.size <= c
 hd : X.calm = true -> X.A.handled = none
 frames : X.A.frames = some X.stack
 stk : X.stack = X.outer \/ (X.stack = X.env :: X.outer /\ X.env.frame = some X.env.locals)
 exf : ∀ b ∈ X.ex, b ≠ X.env.locals /\ ∀ x c, X.env.cells.lookup x = some c -> c ≠ b
 bs : ∀ b o, X.base.get? b = some o -> X.s₀.heap.get? b = some o /\ X.H₀ b = none
 bsz : X.base.objs.size <= X.s₀.heap.objs.size
 noex : ∀ b o, X.base.get? b = some o -> b ∉ X.ex
 exfs : ∀ b ∈ X.ex, b ∉ X.fs
 funs : X.s₀.heap.FunFrames X.base X.outer
 frf : ∀ b ∈ X.fs, X.H₀ b = none
structure Inv (X : Cx) (pins : List (Addr × Obj)) (σ : List (Option V)) (H : Hp) (s : Shared) : Prop where
 ok : X.Ok
 os : s.os = X.s₀.os
 bare : AllBare s.gens
 base : Un X.fs X.ex X.H₀ H X.s₀.heap s.heap
 loc : ∃ m, s.heap.Ns X.env.locals m /\ ∀ (i : Nat) (x : Str) (v : V), X.N[i]? = some x -> σ[i]? = some (some v) -> Vis X.env.scope x -> ∃ u, RelV v u /\ Look X.env s.heap m x u
 cell : ∀ x c, X.env.cells.lookup x = some c -> ∃ v, s.heap.IsCell c v
 free : H X.env.locals = none
 freeC : ∀ x c, X.env.cells.lookup x = some c -> H c = none
 pin : ∀ p ∈ X.pn ++ pins, s.heap.get? p.1 = some p.2 /\ H p.1 = none /\ p.1 ≠ X.env.locals /\ p.1 ∉ X.fs /\ ∀ v, p.2.data ≠ .cell v
 hok : HOk X.prog X.w H s.heap
 len : σ.length = X.N.length
section
variable {X : Cx} {pins : List (Addr × Obj)} {σ : List (Option V)} {H H' : Hp} {s : Shared} {h' : Heap}
theorem Cx.Ok.nofr (ok : X.Ok) {b : Addr} {o : Obj} (e : X.base.get? b = some o) : b ∉ X.fs := fun hb => by
 have := (ok.funs.mem hb).1
 rw [e] at this; cases this
theorem Inv.bs (I : Inv X pins σ H s) : ∀ b o, X.base.get? b = some o -> s.heap.get? b = some o /\ H b = none := fun b o e =>
 ⟨I.base.keep b o (I.ok.bs b o e).1 (I.ok.bs b o e).2 (I.ok.nofr e) (I.ok.noex b o e), I.base.free b o (I.ok.bs b o e).1 (I.ok.bs b o e).2 (I.ok.noex b o e)⟩
theorem Inv.bk (I : Inv X pins σ H s) : ∀ b o, X.base.get? b = some o -> s.heap.get? b = some o := fun b o e => (I.bs b o e).1
theorem Inv.mod (I : Inv X pins σ H s) : Mod X.K X.mg X.base := I.ok.mod
theorem Inv.kIn (I : Inv X pins σ H s) : X.K.In s.heap := I.ok.mod.kin.keeps I.bk
theorem Inv.nolimit (I : Inv X pins σ H s) : s.heap.NoLimit := I.ok.mod.nolimit.keeps I.bk
theorem Inv.fr (I : Inv X pins σ H s) : ∃ m, Fr X.base X.env.locals s.heap m :=
 let ⟨m, hn, _⟩ := I.loc
 ⟨m, hn, I.bk, Nat.le_trans I.ok.bsz I.ok.above⟩
theorem Inv.lt (I : Inv X pins σ H s) : X.env.locals < s.heap.objs.size := let ⟨_, hn, _⟩ := I.loc; hn.lt
theorem Inv.sz (I : Inv X pins σ H s) : X.s₀.heap.objs.size <= s.heap.objs.size := Nat.le_trans I.ok.above (Nat.le_of_lt I.lt)
theorem Inv.nofs (I : Inv X pins σ H s) {a : Addr} (h : s.heap.objs.size <= a) : a ∉ X.fs := fun hb => by
 obtain ⟨_, o, ho, _⟩ := I.ok.funs.mem hb
 exact absurd (Nat.lt_of_lt_of_le (Heap.lt_size ho) (Nat.le_trans I.sz h)) (Nat.lt_irrefl _)
theorem Inv.cne (I : Inv X pins σ H s) : ∀ x c, X.env.cells.lookup x = some c -> c ≠ X.env.locals := fun x c e z => by
 obtain ⟨v, o, ho, hd⟩ := I.cell x c e
 obtain ⟨m, ⟨o', es, ep, ho', hd', _⟩, _⟩ := I.loc
 rw [z, ho'] at ho; cases ho; rw [hd'] at hd; cases hd
theorem Inv.funs (I : Inv X pins σ H s) : s.heap.FunFrames X.base X.outer := by
 have all : ∀ (l : List Env), (∀ b ∈ frs l, b ∈ X.fs) -> X.s₀.heap.FunFrames X.base l -> s.heap.FunFrames X.base l := by
  intro l
  induction l with
  | nil => intro _ _; trivial
  | cons env r ih =>
   intro hs hl
   obtain ⟨hk, ⟨L, o, hf, hn, ho, hd⟩, hr⟩ := hl
   have hL : L ∈ X.fs := hs L (by unfold frs; rw [List.filterMap_cons, hf]; exact List.mem_cons_self)
   obtain ⟨sl, e⟩ := I.base.slot L o ho (I.ok.frf L hL) hL fun z => I.ok.exfs L z hL
   exact ⟨hk, ⟨L, _, hf, hn, e, hd⟩, ih (fun b hb => hs b (by unfold frs; rw [List.filterMap_cons, hf]; exact List.mem_cons_of_mem _ hb)) hr⟩
 exact all X.outer (fun _ hb => hb) I.ok.funs
theorem Inv.stack (I : Inv X pins σ H s) : s.heap.FunFrames X.base X.stack := by
 rcases I.ok.stk with e | ⟨e, hf⟩
 ·rw [e]; exact I.funs
 ·rw [e]
  obtain ⟨m, hn, _⟩ := I.loc
  refine .cons (by rw [I.ok.kind]; decide) hf hn ?_ I.funs
  exact Heap.get?_none_of_le (Nat.le_trans I.ok.bsz I.ok.above)
theorem Inv.stkSub (I : Inv X pins σ H s) : ∀ b ∈ frs X.stack, b ∈ X.env.locals :: X.fs := fun b hb => by
 rcases I.ok.stk with e | ⟨e, hf⟩
 ·rw [e] at hb; exact List.mem_cons_of_mem _ hb
 ·rw [e] at hb
  unfold frs at hb
  rw [List.filterMap_cons, hf] at hb
  exact hb
theorem Inv.stkFree (I : Inv X pins σ H s) : ∀ b ∈ frs X.stack, H b = none := fun b hb => by
 rcases List.mem_cons.mp (I.stkSub b hb) with e | hb
 ·rw [e]; exact I.free
 ·obtain ⟨_, o, ho, _⟩ := I.ok.funs.mem hb
  exact I.base.free b o ho (I.ok.frf b hb) fun z => I.ok.exfs b z hb
theorem Inv.step {g' : Array GenState} {t' : Nat} {d' : Drawn} {ch : List Addr} (I : Inv X pins σ H s)
  (hch : ∀ b ∈ ch, (b ∈ X.ex \/ X.s₀.heap.objs.size <= b) /\ b ≠ X.env.locals /\ (∀ x c, X.env.cells.lookup x = some c -> c ≠ b) /\ ∀ p ∈ X.pn ++ pins, p.1 ≠ b)
  (keep : ∀ b o, b ≠ X.env.locals -> b ∉ X.fs -> b ∉ ch -> s.heap.get? b = some o -> H b = none -> h'.get? b = some o)
  (slot : ∀ b o, b ≠ X.env.locals -> b ∈ X.fs -> b ∉ ch -> s.heap.get? b = some o -> H b = none -> ∃ sl, h'.get? b = some { o with slots := sl }) (free : ∀ b o, b ∉ ch -> s.heap.get? b = some o -> H b = none -> H' b = none)
  (there : ∀ b o, b ∉ ch -> s.heap.get? b = some o -> ∃ o', h'.get? b = some o')
  (tups : ∀ b xs, H b = some (.tup xs) -> H' b = some (.tup xs)) (frzs : ∀ b o u, H b = some (.frz o u) -> H' b = some (.frz o u)) (tbls : ∀ b ps, H b = some (.tbl ps) -> ∃ more, H' b = some (.tbl (ps ++ more)))
  (ns : ∀ m, s.heap.Ns X.env.locals m -> h'.Ns X.env.locals m) (hok : HOk X.prog X.w H' h') (hg : AllBare g') :
  Inv X pins σ H' { s with heap := h', gens := g', drawn := d', toks := t' } := by
 have neL : ∀ b o, X.s₀.heap.get? b = some o -> b ≠ X.env.locals := fun b o e => Nat.ne_of_lt (Nat.lt_of_lt_of_le (Heap.lt_size e) I.ok.above)
 have neC : ∀ b o, X.s₀.heap.get? b = some o -> b ∉ X.ex -> b ∉ ch := fun b o e hx hb => by
  rcases (hch b hb).1 with z | z
  ·exact hx z
  ·exact absurd (Nat.lt_of_lt_of_le (Heap.lt_size e) z) (Nat.lt_irrefl _)
 have cellK : ∀ x c, X.env.cells.lookup x = some c -> ∀ v, s.heap.IsCell c v -> h'.IsCell c v := fun x c e v ⟨o, ho, hd⟩ => by
  have nch : c ∉ ch := fun z => (hch c z).2.2.1 x c e rfl
  by_cases hc : c ∈ X.fs
  ·obtain ⟨sl, q⟩ := slot c o (I.cne x c e) hc nch ho (I.freeC x c e)
   exact ⟨_, q, hd⟩
  ·exact ⟨o, keep c o (I.cne x c e) hc nch ho (I.freeC x c e), hd⟩
 refine ⟨I.ok, I.os, hg, ⟨fun b o e n hb hx => ?_, fun b o e n hb hx => ?_, fun b o e n hx => ?_, fun b o e hx => ?_, fun b xs e => tups b xs (I.base.tups b xs e), fun b o xs e => frzs b o xs (I.base.frzs b o xs e), fun b ps e => ?_⟩, ?_, fun x c e => ?_, ?_, fun x c e => ?_, fun p hp => ?_, hok, I.len⟩
 ·exact keep b o (neL b o e) hb (neC b o e hx) (I.base.keep b o e n hb hx) (I.base.free b o e n hx)
 ·obtain ⟨sl, e1⟩ := I.base.slot b o e n hb hx
  obtain ⟨sl', e2⟩ := slot b _ (neL b o e) hb (neC b o e hx) e1 (I.base.free b o e n hx)
  exact ⟨sl', e2⟩
 ·obtain ⟨o', e1⟩ := I.base.there b o e hx
  exact free b o' (neC b o e hx) e1 (I.base.free b o e n hx)
 ·obtain ⟨o', e1⟩ := I.base.there b o e hx
  exact there b o' (neC b o e hx) e1
 ·obtain ⟨m1, e1⟩ := I.base.tbls b ps e
  obtain ⟨m2, e2⟩ := tbls b _ e1
  exact ⟨m1 ++ m2, by rw [e2, Array.append_assoc]⟩
 ·obtain ⟨m, hn, hl⟩ := I.loc
  refine ⟨m, ns m hn, fun i x v e1 e2 e3 => ?_⟩
  obtain ⟨u, r, l⟩ := hl i x v e1 e2 e3
  refine ⟨u, r, ?_⟩
  rcases l with l | ⟨k, c, e, z⟩
  ·exact .inl l
  ·exact .inr ⟨k, c, e, cellK x c e _ z⟩
 ·obtain ⟨v, z⟩ := I.cell x c e
  exact ⟨v, cellK x c e v z⟩
 ·obtain ⟨m, ⟨o, _, _, ho, _⟩, _⟩ := I.loc
  exact free _ o (fun z => (hch _ z).2.1 rfl) ho I.free
 ·obtain ⟨v, o, ho, hd⟩ := I.cell x c e
  exact free c o (fun z => (hch c z).2.2.1 x c e rfl) ho (I.freeC x c e)
 ·obtain ⟨e, n, ne, nf, d⟩ := I.pin p hp
  have nch : p.1 ∉ ch := fun z => (hch p.1 z).2.2.2 p hp rfl
  exact ⟨keep p.1 p.2 ne nf nch e n, free p.1 p.2 nch e n, ne, nf, d⟩
theorem Inv.un {t' : Nat} (I : Inv X pins σ H s) (u : Un X.fs [] H H' s.heap h') (hok : HOk X.prog X.w H' h') : Inv X pins σ H' { s with heap := h', toks := t' } := by
 obtain ⟨m, ⟨o, es, ep, ho, r⟩, _⟩ := id I.loc
 obtain ⟨sl, hL⟩ := u.any ho I.free (by simp)
 exact I.step (g' := s.gens) (d' := s.drawn) (ch := []) (fun _ z => nomatch z) (fun b o _ hb _ e n => u.keep b o e n hb (by simp)) (fun b o _ hb _ e n => u.slot b o e n hb (by simp)) (fun b o _ e n => u.free b o e n (by simp)) (fun b o _ e => u.there b o e (by simp)) u.tups u.frzs u.tbls (fun m' hm => by
  obtain ⟨o', es', ep', ho', r'⟩ := hm
  rw [ho] at ho'; cases ho'
  exact ⟨_, es', ep', hL, r'⟩) hok I.bare
theorem Inv.call {g' : Array GenState} {t' : Nat} {d' : Drawn} {ch : List Addr} (I : Inv X pins σ H s) (u : Un (frs X.stack) ch H H' s.heap h') (hok : HOk X.prog X.w H' h') (hg : AllBare g')
  (hch : ∀ b ∈ ch, (b ∈ X.ex \/ X.s₀.heap.objs.size <= b) /\ b ≠ X.env.locals /\ (∀ x c, X.env.cells.lookup x = some c -> c ≠ b) /\ ∀ p ∈ X.pn ++ pins, p.1 ≠ b) :
  Inv X pins σ H' { s with heap := h', gens := g', drawn := d', toks := t' } := by
 obtain ⟨m, ⟨o, es, ep, ho, r⟩, _⟩ := id I.loc
 obtain ⟨sl, hL⟩ := u.any ho I.free fun z => (hch _ z).2.1 rfl
 exact I.step (ch := ch) hch (fun b o hL hb hc e n => u.keep b o e n (fun z => (List.mem_cons.mp (I.stkSub b z)).elim hL hb) hc) (fun b o _ _ hc e n => u.any e n hc) (fun b o hc e n => u.free b o e n hc) (fun b o hc e => u.there b o e hc) u.tups u.frzs u.tbls (fun m' hm => by
  obtain ⟨o', es', ep', ho', r'⟩ := hm
  rw [ho] at ho'; cases ho'
  exact ⟨_, es', ep', hL, r'⟩) hok hg
theorem Inv.turned {t' : Nat} {it : Addr} (I : Inv X pins σ H s) (k : ∀ b o, b ≠ it -> s.heap.get? b = some o -> h'.get? b = some o) (hn : H it = none) (hL : it ≠ X.env.locals)
  (h1 : it ∈ X.ex \/ X.s₀.heap.objs.size <= it) (h2 : ∀ x c, X.env.cells.lookup x = some c -> c ≠ it) (h3 : ∀ p ∈ X.pn ++ pins, p.1 ≠ it) : Inv X pins σ H { s with heap := h', toks := t' } := by
 have nit : ∀ b u, H b = some u -> b ≠ it := fun b u e z => by rw [z, hn] at e; cases e
 refine I.step (g' := s.gens) (d' := s.drawn) (ch := [it]) (fun b hb => ?_) (fun b o _ _ hc e _ => k b o (fun z => hc (by simp [z])) e) (fun b o _ _ hc e _ => ⟨o.slots, k b o (fun z => hc (by simp [z])) e⟩) (fun _ _ _ _ n => n)
  (fun b o hc e => ⟨o, k b o (fun z => hc (by simp [z])) e⟩) (fun _ _ e => e) (fun _ _ _ e => e) (fun b ps e => ⟨#[], by rw [e]; simp⟩) (fun m hm => ?_) (fun b u e => ?_) I.bare
 ·have e : b = it := by simpa using hb
  subst e
  exact ⟨h1, hL, h2, h3⟩
 ·obtain ⟨o, es, ep, ho, r⟩ := hm
  exact ⟨o, es, ep, k _ o (Ne.symm hL) ho, r⟩
 ·refine (I.hok b u e).stay (fun c v hc q => k c v ?_ q) (fun _ q => q) fun _ _ q => q
  rcases hc with z | z
  ·rw [z]; exact nit b u e
  ·exact nit c _ z
theorem Inv.tok (I : Inv X pins σ H s) (t : Nat) : Inv X pins σ H { s with toks := t } := I.un (h' := s.heap) (t' := t) Un.refl I.hok
theorem Inv.kept {t' : Nat} (I : Inv X pins σ H s) (k : ∀ b u, s.heap.get? b = some u -> h'.get? b = some u) : Inv X pins σ H { s with heap := h', toks := t' } := I.un (Un.kept k) (I.hok.kept k)
theorem Inv.laid {a : Addr} {o : HO} {t' : Nat} (I : Inv X pins σ H s) (k : ∀ b u, s.heap.get? b = some u -> h'.get? b = some u) (hp : s.heap.objs.size <= a) (new : ObjOk X.prog X.w (upd H a o) h' a o) :
  Inv X pins σ (upd H a o) { s with heap := h', toks := t' } := I.un (Un.laid k hp (I.hok.fresh hp)) (I.hok.laid k hp new)
theorem Inv.write {x e : Addr} {o : HO} {t' : Nat} (I : Inv X pins σ H s) (mu : Mut (H x)) (he : e = x \/ H e = some (.own x)) (k : ∀ b u, b ≠ e -> s.heap.get? b = some u -> h'.get? b = some u) (heo : ∃ u, h'.get? e = some u)
  (new : ObjOk X.prog X.w (upd H x o) h' x o) : Inv X pins σ (upd H x o) { s with heap := h', toks := t' } := I.un (Un.write mu he k heo) (I.hok.write mu he k heo new)
theorem Inv.pins_of {pins' : List (Addr × Obj)} (I : Inv X pins σ H s) (h : ∀ p ∈ pins', s.heap.get? p.1 = some p.2 /\ H p.1 = none /\ p.1 ≠ X.env.locals /\ p.1 ∉ X.fs /\ ∀ v, p.2.data ≠ .cell v) : Inv X pins' σ H s :=
 ⟨I.ok, I.os, I.bare, I.base, I.loc, I.cell, I.free, I.freeC, fun p hp => (List.mem_append.mp hp).elim (fun z => I.pin p (List.mem_append_left _ z)) (h p), I.hok, I.len⟩
theorem nodup_ix {N : List Str} (hN : N.Nodup) {i j : Nat} {x : Str} (a : N[i]? = some x) (b : N[j]? = some x) : i = j := by
 obtain ⟨h1, e1⟩ := List.getElem?_eq_some_iff.mp a
 obtain ⟨h2, e2⟩ := List.getElem?_eq_some_iff.mp b
 exact (List.getElem_inj hN).mp (e1.trans e2.symm)
theorem store_ok2 {M : Model} {A : Around} {E : Value -> Shared -> Prop} {i : Nat} {x : Str} {v : V} {u : Value} {Q : Unit -> Shared -> Prop} (I : Inv X pins σ H s) (hN : X.N.Nodup) (hi : X.N[i]? = some x) (hx : Loc X.env.scope x) (r : RelV v u)
  (h : ∀ s', Inv X pins (σ.set i (some v)) H s' -> (∃ a, Heap.SameBut a s.heap s'.heap /\ (a = X.env.locals \/ X.env.cells.lookup x = some a)) -> Q () s') (hf : X.fn x = true \/ X.env.scope.names.lookup x = some .local := by first | exact .inl rfl | exact .inr rfl | assumption) : wpAny M A (storeName X.env x u) Q E s := by
 obtain ⟨m, hn, hl⟩ := id I.loc
 have hcls : (X.env.scope.kind == .class || (X.env.scope.kind == .module && X.env.locals != X.env.globals)) = false := by rw [I.ok.kind]; rfl
 have hiσ : i < σ.length := by rw [I.len]; exact (List.getElem?_eq_some_iff.mp hi).1
 have cne := I.cne
 have tracked : ∀ {a : Addr} {h' : Heap}, (∃ o, s.heap.get? a = some o /\ H a = none) -> Heap.SameBut a s.heap h' -> HOk X.prog X.w H h' := fun {a h'} ha hs b ob e => by
  obtain ⟨_, _, hfree⟩ := ha
  refine (I.hok b ob e).stay (fun c w' hc q => (hs.2 c ?_).trans q) (fun _ q => q) fun _ _ q => q
  rintro rfl
  rcases hc with rfl | hc
  ·rw [hfree] at e; cases e
  ·rw [hfree] at hc; cases hc
 rcases hx with hk | hk
 ·refine wpAny_storeName_local hk hn (fun h' hn' hs => ?_) hcls
  obtain ⟨oL, _, _, hoL, _⟩ := id hn
  refine h _ ⟨I.ok, I.os, I.bare, ⟨fun b o e n hb hx => ?_, fun b o e n hb hx => ?_, I.base.free, fun b o e hx => ?_, I.base.tups, I.base.frzs, I.base.tbls⟩, ⟨_, hn', fun j y v' e1 e2 e3 => ?_⟩, fun y c e => ?_, I.free, I.freeC, fun p hp => ?_, tracked ⟨oL, hoL, I.free⟩ hs, by simpa using I.len⟩ ⟨_, hs, .inl rfl⟩
  ·exact (hs.2 b (Nat.ne_of_lt (Nat.lt_of_lt_of_le (Heap.lt_size e) I.ok.above))).trans (I.base.keep b o e n hb hx)
  ·obtain ⟨sl, e1⟩ := I.base.slot b o e n hb hx
   exact ⟨sl, (hs.2 b (Nat.ne_of_lt (Nat.lt_of_lt_of_le (Heap.lt_size e) I.ok.above))).trans e1⟩
  ·obtain ⟨o', e1⟩ := I.base.there b o e hx
   exact ⟨o', (hs.2 b (Nat.ne_of_lt (Nat.lt_of_lt_of_le (Heap.lt_size e) I.ok.above))).trans e1⟩
  ·by_cases hj : j = i
   ·subst hj
    rw [hi] at e1; cases e1
    rw [List.getElem?_set_self hiσ] at e2
    cases e2
    exact ⟨u, r, .inl ⟨hk, by simp⟩⟩
   ·rw [List.getElem?_set_ne (Ne.symm hj)] at e2
    obtain ⟨u', r', q⟩ := hl j y v' e1 e2 e3
    refine ⟨u', r', ?_⟩
    rcases q with ⟨k, e⟩ | ⟨k, c, e, z⟩
    ·refine .inl ⟨k, ?_⟩
     have : y ≠ x := fun e => hj (nodup_ix hN e1 (e ▸ hi))
     simp [this, e]
    ·exact .inr ⟨k, c, e, z.sameBut hs (cne y c e)⟩
  ·obtain ⟨w', z⟩ := I.cell y c e
   exact ⟨w', z.sameBut hs (cne y c e)⟩
  ·obtain ⟨e, n, ne, nf, d⟩ := I.pin p hp
   exact ⟨(hs.2 p.1 ne).trans e, n, ne, nf, d⟩
 ·have hfn : X.fn x = true := by
   rcases hf with z | z
   ·exact z
   ·rw [z] at hk; cases hk
  obtain ⟨c, hc⟩ := I.ok.has x (.inl hk)
  obtain ⟨w', z⟩ := I.cell x c hc
  refine wpAny_storeName_cell I.ok.kind hk hc z (fun h' hc' hs => ?_)
  obtain ⟨oc, hoc, hocd⟩ := id z
  refine h { s with heap := h' } ⟨I.ok, I.os, I.bare, ⟨fun b o e n hb hx => ?_, fun b o e n hb hx => ?_, I.base.free, fun b o e hx => ?_, I.base.tups, I.base.frzs, I.base.tbls⟩, ⟨m, hn.sameBut hs (Ne.symm (cne x c hc)), fun j y v' e1 e2 e3 => ?_⟩, fun y c' e => ?_, I.free, I.freeC, fun p hp => ?_, tracked ⟨oc, hoc, I.freeC x c hc⟩ hs, by simpa using I.len⟩ ⟨c, hs, .inr hc⟩
  ·exact (hs.2 b (Nat.ne_of_lt (Nat.lt_of_lt_of_le (Heap.lt_size e) (I.ok.cab x c hfn hc)))).trans (I.base.keep b o e n hb hx)
  ·obtain ⟨sl, e1⟩ := I.base.slot b o e n hb hx
   exact ⟨sl, (hs.2 b (Nat.ne_of_lt (Nat.lt_of_lt_of_le (Heap.lt_size e) (I.ok.cab x c hfn hc)))).trans e1⟩
  ·obtain ⟨o', e1⟩ := I.base.there b o e hx
   exact ⟨o', (hs.2 b (Nat.ne_of_lt (Nat.lt_of_lt_of_le (Heap.lt_size e) (I.ok.cab x c hfn hc)))).trans e1⟩
  ·by_cases hj : j = i
   ·subst hj
    rw [hi] at e1; cases e1
    rw [List.getElem?_set_self hiσ] at e2
    cases e2
    exact ⟨u, r, .inr ⟨.inl hk, c, hc, hc'⟩⟩
   ·rw [List.getElem?_set_ne (Ne.symm hj)] at e2
    obtain ⟨u', r', q⟩ := hl j y v' e1 e2 e3
    refine ⟨u', r', ?_⟩
    rcases q with q | ⟨k, c', e, z'⟩
    ·exact .inl q
    ·refine .inr ⟨k, c', e, z'.sameBut hs ?_⟩
     rintro rfl
     exact hj (nodup_ix hN e1 (I.ok.inj _ _ _ e hc ▸ hi))
  ·by_cases hcc : c' = c
   ·subst hcc; exact ⟨_, hc'⟩
   ·obtain ⟨w2, z2⟩ := I.cell y c' e
    exact ⟨w2, z2.sameBut hs hcc⟩
  ·obtain ⟨e, n, ne, nf, d⟩ := I.pin p hp
   refine ⟨(hs.2 p.1 ?_).trans e, n, ne, nf, d⟩
   intro q
   rw [q, hoc] at e
   have q' : oc = p.2 := Option.some.inj e
   exact d w' (by rw [<- q']; exact hocd)
theorem store_ok {M : Model} {A : Around} {E : Value -> Shared -> Prop} {i : Nat} {x : Str} {v : V} {u : Value} {Q : Unit -> Shared -> Prop} (I : Inv X pins σ H s) (hN : X.N.Nodup) (hi : X.N[i]? = some x) (hx : Loc X.env.scope x) (r : RelV v u)
  (h : ∀ s', Inv X pins (σ.set i (some v)) H s' -> Q () s') (hf : X.fn x = true \/ X.env.scope.names.lookup x = some .local := by first | exact .inl rfl | exact .inr rfl | assumption) : wpAny M A (storeName X.env x u) Q E s :=
 store_ok2 I hN hi hx r (fun s' I' _ => h s' I') hf
theorem Inv.call' {s' : Shared} {ch : List Addr} (I : Inv X pins σ H s) (ho : s'.os = s.os) (u : Un (frs X.stack) ch H H' s.heap s'.heap) (hok : HOk X.prog X.w H' s'.heap) (hg : AllBare s'.gens)
  (hch : ∀ b ∈ ch, (b ∈ X.ex \/ X.s₀.heap.objs.size <= b) /\ b ≠ X.env.locals /\ (∀ x c, X.env.cells.lookup x = some c -> c ≠ b) /\ ∀ p ∈ X.pn ++ pins, p.1 ≠ b) : Inv X pins σ H' s' := by
 obtain ⟨h', g', d', t', o'⟩ := s'
 have e : o' = s.os := ho
 subst e
 exact I.call (g' := g') (t' := t') (d' := d') u hok hg hch
end
abbrev XK := Value -> Option Addr -> Hp -> Prop
abbrev St := List (Option V)
abbrev VK := V -> Hp -> Prop
abbrev TE := St -> Hp -> VK -> Prop
abbrev TT := St -> Hp -> (Bool -> Hp -> Prop) -> Prop
abbrev TA := St -> Hp -> (List V -> Hp -> Prop) -> Prop
structure Ends where
 nx : St -> Hp -> Prop
 rt : VK
 bk : St -> Hp -> Prop := fun _ _ => False
 ct : St -> Hp -> Prop := fun _ _ => False
abbrev TS := Ends -> St -> Hp -> Prop
def EP (X : Cx) (pins : List (Addr × Obj)) (σ : St) (Q : VK) (u : Value) (s' : Shared) : Prop := ∃ v H', Inv X pins σ H' s' /\ RelV v u /\ Q v H'
def TP (X : Cx) (pins : List (Addr × Obj)) (σ : St) (Q : Bool -> Hp -> Prop) (b : Bool) (s' : Shared) : Prop := ∃ H', Inv X pins σ H' s' /\ Q b H'
def AP (X : Cx) (pins : List (Addr × Obj)) (σ : St) (Q : List V -> Hp -> Prop) (us : List Value) (s' : Shared) : Prop := ∃ vs H', Inv X pins σ H' s' /\ Vals vs us /\ Q vs H'
def SP (X : Cx) (pins : List (Addr × Obj)) (D : Ends) (f : Flow) (s' : Shared) : Prop :=
 match f with
 | .next => ∃ σ' H', Inv X pins σ' H' s' /\ D.nx σ' H'
 | .brk => ∃ σ' H', Inv X pins σ' H' s' /\ D.bk σ' H'
 | .cont => ∃ σ' H', Inv X pins σ' H' s' /\ D.ct σ' H'
 | .ret u => ∃ v σ' H', Inv X pins σ' H' s' /\ RelV v u /\ D.rt v H'
def PE (X : Cx) (e : Expr) (t : TE) : Prop :=
 ∀ (pins : List (Addr × Obj)) (s : Shared) (σ : St) (H : Hp) (Q : VK), Inv X pins σ H s -> t σ H Q -> wpAny (model X.prog X.w) X.A (eval e X.env) (EP X pins σ Q) X.xe s
def PT (X : Cx) (e : Expr) (t : TT) : Prop :=
 ∀ (pins : List (Addr × Obj)) (s : Shared) (σ : St) (H : Hp) (Q : Bool -> Hp -> Prop), Inv X pins σ H s -> t σ H Q -> wpAny (model X.prog X.w) X.A (isTrue e X.env (eval e X.env)) (TP X pins σ Q) X.xe s
def PW (X : Cx) (e : Expr) (t : TT) : Prop :=
 ∀ (whole : Sem Value) (pins : List (Addr × Obj)) (s : Shared) (σ : St) (H : Hp) (Q : Bool -> Hp -> Prop), Inv X pins σ H s -> t σ H Q -> wpAny (model X.prog X.w) X.A (isTrue e X.env whole) (TP X pins σ Q) X.xe s
theorem PW.pt {X : Cx} {e : Expr} {t : TT} (h : PW X e t) : PT X e t := h _
def PA (X : Cx) (es : List Expr) (t : TA) : Prop :=
 ∀ (pos : Pos) (pins : List (Addr × Obj)) (s : Shared) (σ : St) (H : Hp) (Q : List V -> Hp -> Prop), Inv X pins σ H s -> t σ H Q -> wpAny (model X.prog X.w) X.A (spliced (backTo pos (starEach es X.env))) (AP X pins σ Q) X.xe s
def PS (X : Cx) (st : Stmt) (t : TS) : Prop :=
 ∀ (pins : List (Addr × Obj)) (s : Shared) (σ : St) (H : Hp) (D : Ends), Inv X pins σ H s -> t D σ H -> wpAny (model X.prog X.w) X.A (exec st X.env) (SP X pins D) X.xe s
def PSs (X : Cx) (st : List Stmt) (t : TS) : Prop :=
 ∀ (pins : List (Addr × Obj)) (s : Shared) (σ : St) (H : Hp) (D : Ends), Inv X pins σ H s -> t D σ H -> wpAny (model X.prog X.w) X.A (execs st X.env) (SP X pins D) X.xe s
theorem thn {α : Type} {t : Sem α} {Q Q' : α -> Shared -> Prop} {M : Model} {A : Around} {E : Value -> Shared -> Prop} {s : Shared} (h : wpAny M A t Q E s) (hQ : ∀ a s, Q a s -> Q' a s) : wpAny M A t Q' E s := wpAny_mono h hQ fun _ _ x => x
end L2
namespace L2
open PySem PySem.Spec PyProof.Rows
section
variable {X : Cx}
def tVar (i : Nat) : TE := fun σ H Q => ∃ v, σ[i]? = some (some v) /\ Q v H
def tC (v : V) : TE := fun _ H Q => Q v H
theorem pe_var {i : Nat} {x : Str} {pos : Pos} (hN : X.N[i]? = some x) (hv : Vis X.env.scope x) (hd : (x == ("__debug__" : Str)) = false := by decide) (hcd : (x == ("__classdict__" : Str)) = false := by decide) : PE X (.Name x pos) (tVar i) := by
 intro pins s σ H Q I h
 obtain ⟨v, e, h⟩ := h
 obtain ⟨m, hn, hl⟩ := I.loc
 obtain ⟨u, r, l⟩ := hl i x v hN e hv
 have fin : EP X pins σ Q u s := ⟨v, H, I, r, h⟩
 rcases l with ⟨hk, hm⟩ | ⟨hk, c, hc, hcell⟩
 ·exact wpAny_Name (wpAny_loadName_local I.ok.kind hk hn hm fin) hd
 ·rcases hk with hk | hk
  ·exact wpAny_Name (wpAny_loadName_cell I.ok.kind hk hc hcell fin) hd
  ·exact wpAny_Name (wpAny_loadName_free I.ok.kind hk hc hcell fin hcd) hd
theorem pe_int {i j pos} : PE X (.Constant (.int i) j pos) (tC (.int i)) := fun _ _ _ H _ I h => wpAny_Constant_int ⟨.int i, H, I.tok _, ⟨_, rfl⟩, h⟩
theorem pe_bl {b j pos} : PE X (.Constant (.bool b) j pos) (tC (.bl b)) := fun _ _ _ H _ I h => Constant_bool ⟨.bl b, H, I, rfl, h⟩
theorem pe_non {j pos} : PE X (.Constant .none j pos) (tC .non) := fun _ _ _ H _ I h => Constant_none ⟨.non, H, I, rfl, h⟩
theorem pe_str {x j pos} : PE X (.Constant (.str x) j pos) (tC (.str x)) := fun _ _ _ H _ I h => Calls.Constant_str ⟨.str x, H, I.tok _, ⟨_, rfl⟩, h⟩
def Gl (X : Cx) (x : Str) : Prop := X.env.kindOf x = some .globalImplicit
theorem ld_glob {E : Value -> Shared -> Prop} {pins : List (Addr × Obj)} {s : Shared} {σ : St} {H : Hp} {x : Str} {u : Value} {pos : Pos} {Q : Value -> Shared -> Prop} (I : Inv X pins σ H s) (hg : Gl X x) (hm : X.mg x = some u) (h : Q u s)
  (hd : (x == ("__debug__" : Str)) = false := by decide) : wpAny (model X.prog X.w) X.A (eval (.Name x pos) X.env) Q E s :=
 Calls.Name_function_global I.ok.kind hg (Calls.loadGlobal_global (by rw [I.ok.glob]; exact I.mod.glob.keeps I.bk) hm h) hd
theorem ld_blt {E : Value -> Shared -> Prop} {pins : List (Addr × Obj)} {s : Shared} {σ : St} {H : Hp} {x : Str} {u : Value} {pos : Pos} {Q : Value -> Shared -> Prop} (I : Inv X pins σ H s) (hg : Gl X x) (hm : X.mg x = none) (hv : bootBuiltins x = some u) (h : Q u s)
  (hn : x ≠ "__name__" := by decide) (hd : (x == ("__debug__" : Str)) = false := by decide) : wpAny (model X.prog X.w) X.A (eval (.Name x pos) X.env) Q E s := by
 obtain ⟨mb, h1, h2⟩ := I.mod.blt
 exact Calls.Name_function_global I.ok.kind hg (Calls.loadGlobal_builtin (by rw [I.ok.glob]; exact I.mod.glob.keeps I.bk) hm (by rw [I.ok.blt]; exact h1.keeps I.bk) ((h2 x hn).trans hv) h) hd
theorem pe_glob {x : Str} {v : V} {u : Value} {pos : Pos} (hg : Gl X x) (hm : X.mg x = some u) (r : RelV v u) (hd : (x == ("__debug__" : Str)) = false := by decide) : PE X (.Name x pos) (tC v) :=
 fun _ _ _ H _ I h => ld_glob I hg hm ⟨v, H, I, r, h⟩ hd
theorem pe_bltn {x : Str} {v : V} {u : Value} {pos : Pos} (hg : Gl X x) (hm : X.mg x = none) (hv : bootBuiltins x = some u) (r : RelV v u) (hn : x ≠ "__name__" := by decide) (hd : (x == ("__debug__" : Str)) = false := by decide) : PE X (.Name x pos) (tC v) :=
 fun _ _ _ H _ I h => ld_blt I hg hm hv ⟨v, H, I, r, h⟩ hn hd
variable {a b : Expr} {ta tb : TE} {pos : Pos}
def tB (t : TE) : TT := fun σ H Q => t σ H fun x H1 => ∃ c, x = .bl c /\ Q c H1
theorem pt_val {e : Expr} {t : TE} (h : PE X e t) (he : ∀ whole, isTrue e X.env whole = (do let v <- whole; standAt e.pos; holding [v] (truthy v)) := by intro _; rfl) : PT X e (tB t) := by
 intro pins s σ H Q I hw
 refine isTrue_plain (thn (h pins s σ H _ I hw) fun v s1 ⟨x, H1, I1, r1, q1⟩ => ?_) (he _)
 obtain ⟨d, rfl, q⟩ := q1
 cases r1
 exact wpAny_truthy_bool ⟨H1, I1, q⟩
variable {tA tB' : TT} {rest : List Expr}
def tAnd (t u : TT) : TT := fun σ H Q => t σ H fun c H1 => if c = true then u σ H1 Q else Q false H1
def tOr (t u : TT) : TT := fun σ H Q => t σ H fun c H1 => if c = true then Q true H1 else u σ H1 Q
def tNot (t : TT) : TT := fun σ H Q => t σ H fun c H1 => Q (!c) H1
theorem pw_and1 (ha : PT X a tA) : PW X (.BoolOp .And [a] pos) tA := by
 intro wh pins s σ H Q I h
 refine isTrue_and (thn (ha pins s σ H Q I h) fun c s1 e => ?_)
 cases c with
 | true => exact isTrue_and_nil e
 | false => exact e
theorem pw_or1 (ha : PT X a tA) : PW X (.BoolOp .Or [a] pos) tA := by
 intro wh pins s σ H Q I h
 refine isTrue_or (thn (ha pins s σ H Q I h) fun c s1 e => ?_)
 cases c with
 | false => exact isTrue_or_nil e
 | true => exact e
theorem pw_and (ha : PT X a tA) (hb : PW X (.BoolOp .And (b :: rest) pos) tB') : PW X (.BoolOp .And (a :: b :: rest) pos) (tAnd tA tB') := by
 intro wh pins s σ H Q I h
 refine isTrue_and (thn (ha pins s σ H _ I h) fun c s1 ⟨H1, I1, q1⟩ => ?_)
 cases c with
 | true => exact hb wh pins s1 σ H1 Q I1 q1
 | false => exact ⟨H1, I1, q1⟩
theorem pw_or (ha : PT X a tA) (hb : PW X (.BoolOp .Or (b :: rest) pos) tB') : PW X (.BoolOp .Or (a :: b :: rest) pos) (tOr tA tB') := by
 intro wh pins s σ H Q I h
 refine isTrue_or (thn (ha pins s σ H _ I h) fun c s1 ⟨H1, I1, q1⟩ => ?_)
 cases c with
 | true => exact ⟨H1, I1, q1⟩
 | false => exact hb wh pins s1 σ H1 Q I1 q1
theorem pt_not (ha : PT X a tA) : PT X (.UnaryOp .Not a pos) (tNot tA) := by
 intro pins s σ H Q I h
 exact isTrue_not (ha pins s σ H (fun c H1 => Q (!c) H1) I h)
def tAndV (ta tb : TE) : TE := fun σ H Q => ta σ H fun x H1 => ∃ c, x = .bl c /\ if c = true then tb σ H1 Q else Q (.bl false) H1
def tOrV (ta tb : TE) : TE := fun σ H Q => ta σ H fun x H1 => ∃ c, x = .bl c /\ if c = true then Q (.bl true) H1 else tb σ H1 Q
def tNotV (ta : TE) : TE := fun σ H Q => ta σ H fun x H1 => ∃ c, x = .bl c /\ Q (.bl (!c)) H1
theorem pe_one {op} {t : TE} (h : PE X a t) : PE X (.BoolOp op [a] pos) t := fun pins s σ H Q I hw => BoolOp_one (h pins s σ H Q I hw)
theorem pe_and (ha : PE X a ta) (hb : PE X (.BoolOp .And (b :: rest) pos) tb) : PE X (.BoolOp .And (a :: b :: rest) pos) (tAndV ta tb) := by
 intro pins s σ H Q I h
 refine BoolOp_and (thn (ha pins s σ H _ I h) fun v s1 ⟨x, H1, I1, r1, q1⟩ => ?_)
 obtain ⟨c, rfl, q1⟩ := q1
 cases r1
 refine wpAny_truthy_bool ?_
 cases c with
 | true => exact hb pins s1 σ H1 Q I1 q1
 | false => exact ⟨.bl false, H1, I1, rfl, q1⟩
theorem pe_or (ha : PE X a ta) (hb : PE X (.BoolOp .Or (b :: rest) pos) tb) : PE X (.BoolOp .Or (a :: b :: rest) pos) (tOrV ta tb) := by
 intro pins s σ H Q I h
 refine BoolOp_or (thn (ha pins s σ H _ I h) fun v s1 ⟨x, H1, I1, r1, q1⟩ => ?_)
 obtain ⟨c, rfl, q1⟩ := q1
 cases r1
 refine wpAny_truthy_bool ?_
 cases c with
 | false => exact hb pins s1 σ H1 Q I1 q1
 | true => exact ⟨.bl true, H1, I1, rfl, q1⟩
theorem pe_not (ha : PE X a ta) : PE X (.UnaryOp .Not a pos) (tNotV ta) := by
 intro pins s σ H Q I h
 refine UnaryOp_ (thn (ha pins s σ H _ I h) fun v s1 ⟨x, H1, I1, r1, q1⟩ => ?_)
 obtain ⟨c, rfl, q1⟩ := q1
 cases r1
 exact not_of (wpAny_truthy_bool ⟨.bl (!c), H1, I1, rfl, q1⟩)
def tIf (t : TT) (ta tb : TE) : TE := fun σ H Q => t σ H fun c H1 => if c = true then ta σ H1 Q else tb σ H1 Q
theorem pe_ifExp {c : Expr} (hc : PT X c tA) (ha : PE X a ta) (hb : PE X b tb) : PE X (.IfExp c a b pos) (tIf tA ta tb) := by
 intro pins s σ H Q I h
 refine wpAny_IfExp (thn (hc pins s σ H _ I h) fun d s1 ⟨H1, I1, q1⟩ => ?_)
 cases d with
 | true => exact ha pins s1 σ H1 Q I1 q1
 | false => exact hb pins s1 σ H1 Q I1 q1
end
end L2
namespace L2
open PySem PySem.Spec PyProof.Rows
def SqL (K : PySem.W.Frag) (H : Hp) (a : Addr) (xs : List V) : Prop :=
 Rd H a (.lst xs) \/
  ∃ (o : Obj) (its : Array Value) (n : Nat), K.lookup a = some o /\ o.cls = .type "list" /\ o.dict = none /\ o.data = .seq its n /\ its.size <= sizeLine /\ Vals xs its.toList
def SqT (K : PySem.W.Frag) (H : Hp) (a : Addr) (xs : List V) : Prop :=
 Rd H a (.tup xs) \/
  ∃ (o : Obj) (its : Array Value) (n : Nat), K.lookup a = some o /\ o.cls = .type "tuple" /\ o.data = .seq its n /\ its.size <= sizeLine /\ Vals xs its.toList
def absV : Value -> Option V
 | .none => some .non
 | .bool b => some (.bl b)
 | .int i _ => some (.int i)
 | .str x _ => some (.str x)
 | .bytes b _ => some (.byt b)
 | .float b _ => some (.flt b)
 | .ref a => some (.ref a)
 | .type n => some (.ty n)
 | _ => none
theorem RelV.abs {x : V} {u : Value} (r : RelV x u) : absV u = some x := by
 cases x with
 | non => cases r; rfl
 | bl _ => cases r; rfl
 | int _ => obtain ⟨t, rfl⟩ := r; rfl
 | str _ => obtain ⟨t, rfl⟩ := r; rfl
 | byt _ => obtain ⟨t, rfl⟩ := r; rfl
 | flt _ => obtain ⟨t, rfl⟩ := r; rfl
 | ref _ => cases r; rfl
 | ty _ => cases r; rfl
theorem RelV.inj {x y : V} {u : Value} (r : RelV x u) (q : RelV y u) : x = y := Option.some.inj (r.abs.symm.trans q.abs)
theorem Vals.inj : ∀ {xs ys : List V} {us : List Value}, Vals xs us -> Vals ys us -> xs = ys
 | _, _, _, .nil, .nil => rfl
 | _, _, _, .cons r t, .cons r' t' => by rw [r.inj r', Vals.inj t t']
section
variable {X : Cx} {pins : List (Addr × Obj)} {σ : St} {H : Hp} {s : Shared} {a : Addr} {xs ys : List V}
theorem SqL.of {K : PySem.W.Frag} (h : H a = some (.lst xs)) : SqL K H a xs := .inl (.inl h)
theorem SqT.of {K : PySem.W.Frag} (h : H a = some (.tup xs)) : SqT K H a xs := .inl (.inl h)
theorem Inv.list (I : Inv X pins σ H s) (h : SqL X.K H a xs) : ∃ its : List Value, Vals xs its /\ PlainL s.heap a its.toArray /\ xs.length <= sizeLine := by
 rcases h with h | ⟨o, its, n, hk, hc, hd, hs, hz, r⟩
 ·obtain ⟨z, its, n, r, e⟩ := h.ok I.hok
  exact ⟨its, r, ⟨_, n, e, rfl, rfl, rfl⟩, z⟩
 ·refine ⟨its.toList, r, ⟨o, n, I.kIn a o hk, hc, hd, by simpa using hs⟩, ?_⟩
  have e := r.length
  simp only [Array.length_toList] at e
  omega
theorem Inv.tuple (I : Inv X pins σ H s) (h : SqT X.K H a xs) : ∃ its : List Value, Vals xs its /\ IsTup s.heap a its.toArray /\ xs.length <= sizeLine := by
 rcases h with h | ⟨o, its, n, hk, hc, hs, hz, r⟩
 ·obtain ⟨z, its, r, p⟩ := h.ok I.hok
  exact ⟨its, r, p, z⟩
 ·refine ⟨its.toList, r, ⟨o, I.kIn a o hk, hc, n, by simpa using hs⟩, ?_⟩
  have e := r.length
  simp only [Array.length_toList] at e
  omega
theorem Inv.list_inj (I : Inv X pins σ H s) (h : SqL X.K H a xs) (h' : SqL X.K H a ys) : xs = ys := by
 obtain ⟨its, r, ⟨o, n, e, _, _, d⟩, _⟩ := I.list h
 obtain ⟨its', r', ⟨o', n', e', _, _, d'⟩, _⟩ := I.list h'
 rw [e] at e'; cases e'
 rw [d] at d'
 injection d' with d1 _
 have : its = its' := by simpa using congrArg Array.toList d1
 subst this
 exact r.inj r'
theorem Inv.tuple_inj (I : Inv X pins σ H s) (h : SqT X.K H a xs) (h' : SqT X.K H a ys) : xs = ys := by
 obtain ⟨its, r, ⟨o, e, _, n, d⟩, _⟩ := I.tuple h
 obtain ⟨its', r', ⟨o', e', _, n', d'⟩, _⟩ := I.tuple h'
 rw [e] at e'; cases e'
 rw [d] at d'
 injection d' with d1 _
 have : its = its' := by simpa using congrArg Array.toList d1
 subst this
 exact r.inj r'
end
abbrev Cx.wish (X : Cx) (E : Value -> Shared -> Prop) : Cx := { X with xe := E }
abbrev Cx.nox (X : Cx) : Cx := X.wish fun _ _ => False
theorem Cx.Ok.wish {X : Cx} (ok : X.Ok) (E : Value -> Shared -> Prop) : (X.wish E).Ok :=
 ⟨ok.mod, ok.kind, ok.glob, ok.blt, ok.above, ok.inj, ok.has, ok.cab, ok.hd, ok.frames, ok.stk, ok.exf, ok.bs, ok.bsz, ok.noex, ok.exfs, ok.funs, ok.frf⟩
theorem Cx.Ok.unwish {X : Cx} {E : Value -> Shared -> Prop} (ok : (X.wish E).Ok) : X.Ok :=
 ⟨ok.mod, ok.kind, ok.glob, ok.blt, ok.above, ok.inj, ok.has, ok.cab, ok.hd, ok.frames, ok.stk, ok.exf, ok.bs, ok.bsz, ok.noex, ok.exfs, ok.funs, ok.frf⟩
section
variable {X : Cx} {pins : List (Addr × Obj)} {σ : St} {H : Hp} {s : Shared} {E : Value -> Shared -> Prop}
theorem Inv.wish (I : Inv X pins σ H s) (E : Value -> Shared -> Prop) : Inv (X.wish E) pins σ H s := ⟨I.ok.wish E, I.os, I.bare, I.base, I.loc, I.cell, I.free, I.freeC, I.pin, I.hok, I.len⟩
theorem Inv.unwish (I : Inv (X.wish E) pins σ H s) : Inv X pins σ H s := ⟨I.ok.unwish, I.os, I.bare, I.base, I.loc, I.cell, I.free, I.freeC, I.pin, I.hok, I.len⟩
theorem SP.unwish {D : Ends} {f : Flow} {s' : Shared} (h : SP (X.wish E) pins D f s') : SP X pins D f s' := by
 cases f with
 | next => obtain ⟨σ', H', I, q⟩ := h; exact ⟨σ', H', I.unwish, q⟩
 | brk => obtain ⟨σ', H', I, q⟩ := h; exact ⟨σ', H', I.unwish, q⟩
 | cont => obtain ⟨σ', H', I, q⟩ := h; exact ⟨σ', H', I.unwish, q⟩
 | ret u => obtain ⟨v, σ', H', I, r, q⟩ := h; exact ⟨v, σ', H', I.unwish, r, q⟩
theorem PE.nox {e : Expr} {t : TE} (h : PE X.nox e t) : PE X e t := fun pins s σ H Q I hw =>
 wpAny_mono (h pins s σ H Q (I.wish _) hw) (fun _ _ ⟨v, H', I', r, q⟩ => ⟨v, H', I'.unwish, r, q⟩) fun _ _ z => False.elim z
theorem PT.nox {e : Expr} {t : TT} (h : PT X.nox e t) : PT X e t := fun pins s σ H Q I hw =>
 wpAny_mono (h pins s σ H Q (I.wish _) hw) (fun _ _ ⟨H', I', q⟩ => ⟨H', I'.unwish, q⟩) fun _ _ z => False.elim z
theorem PSs.nox {st : List Stmt} {t : TS} (h : PSs X.nox st t) : PSs X st t := fun pins s σ H D I hw =>
 wpAny_mono (h pins s σ H D (I.wish _) hw) (fun _ _ q => q.unwish) fun _ _ z => False.elim z
end
section
variable {X : Cx} {st : Stmt} {rest : List Stmt} {t u : TS} {e : Expr} {te : TE} {pos : Pos}
def tNext : TS := fun D σ H => D.nx σ H
def tSeq (t u : TS) : TS := fun D σ H => t { D with nx := u D } σ H
theorem pss_nil : PSs X [] tNext := fun _ _ σ H _ I h => wpAny_execs_nil ⟨σ, H, I, h⟩
theorem pss_cons (h1 : PS X st t) (h2 : PSs X rest u) : PSs X (st :: rest) (tSeq t u) := by
 intro pins s σ H D I h
 refine wpAny_execs_cons (thn (h1 pins s σ H { D with nx := u D } I h) fun f s1 q => ?_)
 cases f with
 | next =>
  obtain ⟨σ', H', I', q⟩ := q
  exact h2 pins s1 σ' H' D I' q
 | ret v => exact q
 | brk => exact q
 | cont => exact q
theorem pss_one (h1 : PS X st t) : PSs X [st] t := by
 intro pins s σ H D I h
 refine wpAny_execs_cons (thn (h1 pins s σ H D I h) fun f s1 q => ?_)
 cases f with
 | next => exact wpAny_execs_nil q
 | ret v => exact q
 | brk => exact q
 | cont => exact q
theorem Inv.quiet {pins : List (Addr × Obj)} {σ : St} {H : Hp} {s : Shared} (I : Inv X pins σ H s) : interactive X.env = false := by simp [interactive, I.ok.kind]
def tDrop (te : TE) : TS := fun D σ H => te σ H fun _ H1 => D.nx σ H1
theorem ps_expr (he : PE X e te) (hs : swapsWith e none pos.line X.env = pure false := by rfl) : PS X (.Expr e pos) (tDrop te) := by
 intro pins s σ H D I h
 exact wpAny_Expr_any (thn (he pins s σ H _ I h) fun v s1 ⟨x, H1, I1, r1, q1⟩ => ⟨σ, H1, I1, q1⟩) I.quiet hs
def tRet (te : TE) : TS := fun D σ H => te σ H D.rt
theorem ps_ret (he : PE X e te) : PS X (.Return (some e) pos) (tRet te) := by
 intro pins s σ H D I h
 exact wpAny_Return_some (thn (he pins s σ H _ I h) fun v s1 ⟨x, H1, I1, r1, q1⟩ => ⟨x, σ, H1, I1, r1, q1⟩)
def tIfS (c : TT) (t u : TS) : TS := fun D σ H => c σ H fun b H1 => if b = true then t D σ H1 else u D σ H1
theorem ps_if {c : Expr} {a b : List Stmt} {tc : TT} (hc : PT X c tc) (ha : PSs X a t) (hb : PSs X b u) : PS X (.If c a b pos) (tIfS tc t u) := by
 intro pins s σ H D I h
 refine wpAny_If (thn (hc pins s σ H _ I h) fun d s1 ⟨H1, I1, q1⟩ => ?_)
 cases d with
 | true => exact ha pins s1 σ H1 D I1 q1
 | false => exact hb pins s1 σ H1 D I1 q1
end
abbrev TG := V -> St -> Hp -> (St -> Hp -> Prop) -> Prop
abbrev TGs := List V -> St -> Hp -> (St -> Hp -> Prop) -> Prop
def PG (X : Cx) (target : Expr) (t : TG) : Prop :=
 ∀ (pins : List (Addr × Obj)) (s : Shared) (σ : St) (H : Hp) (v : V) (u : Value) (Q : St -> Hp -> Prop), Inv X pins σ H s -> RelV v u -> t v σ H Q ->
  wpAny (model X.prog X.w) X.A (assign target X.env u) (fun _ s' => ∃ σ' H', Inv X pins σ' H' s' /\ Q σ' H') X.xe s
def PGs (X : Cx) (ts : List Expr) (t : TGs) : Prop :=
 ∀ (pins : List (Addr × Obj)) (s : Shared) (σ : St) (H : Hp) (vs : List V) (us : List Value) (Q : St -> Hp -> Prop), Inv X pins σ H s -> Vals vs us -> t vs σ H Q ->
  wpAny (model X.prog X.w) X.A (assignInOrder ((assignEach ts X.env).map (·.2)) us) (fun _ s' => ∃ σ' H', Inv X pins σ' H' s' /\ Q σ' H') X.xe s
abbrev TSet := V -> V -> V -> Hp -> (Hp -> Prop) -> Prop
def PSet (X : Cx) (t : TSet) : Prop :=
 ∀ (pins : List (Addr × Obj)) (s : Shared) (σ : St) (H : Hp) (o i v : V) (ov iv u : Value) (Q : Hp -> Prop), Inv X pins σ H s -> RelV o ov -> RelV i iv -> RelV v u -> t o i v H Q ->
  wpAny (model X.prog X.w) X.A (setItem ov iv u) (fun _ s' => ∃ H', Inv X pins σ H' s' /\ Q H') X.xe s
section
variable {X : Cx} {pos : Pos}
def gName (i : Nat) : TG := fun v σ H Q => Q (σ.set i (some v)) H
theorem pg_name {i : Nat} {x : Str} (hN : X.N.Nodup) (hi : X.N[i]? = some x) (hx : Loc X.env.scope x) (hf : X.fn x = true \/ X.env.scope.names.lookup x = some .local := by first | exact .inl rfl | exact .inr rfl | assumption) : PG X (.Name x pos) (gName i) := by
 intro pins s σ H v u Q I r h
 exact wpAny_assign_Name (store_ok I hN hi hx r (fun s' I' => ⟨_, H, I', h⟩) hf)
def gNil : TGs := fun vs σ H Q => vs = [] /\ Q σ H
def gCons (t : TG) (u : TGs) : TGs := fun vs σ H Q => ∃ v r, vs = v :: r /\ t v σ H fun σ' H' => u r σ' H' Q
theorem pgs_nil : PGs X [] gNil := by
 intro pins s σ H vs us Q I r h
 obtain ⟨e, h⟩ := h
 subst e
 cases r
 exact assignInOrder_nil ⟨σ, H, I, h⟩
theorem pgs_cons {e : Expr} {es : List Expr} {t : TG} {u : TGs} (h1 : PG X e t) (h2 : PGs X es u)
  (hs : (assignEach (e :: es) X.env).map (·.2) = assign e X.env :: (assignEach es X.env).map (·.2) := by rfl) : PGs X (e :: es) (gCons t u) := by
 intro pins s σ H vs us Q I r h
 obtain ⟨v, vr, e1, h⟩ := h
 subst e1
 cases r with
 | cons r rr =>
  rw [hs]
  refine assignInOrder_cons (thn (h1 pins s σ H _ _ _ I r h) fun _ s1 ⟨σ1, H1, I1, q1⟩ => ?_)
  exact h2 pins s1 σ1 H1 _ _ Q I1 rr q1
def gTup (K : PySem.W.Frag) (n : Nat) (t : TGs) : TG := fun v σ H Q => ∃ a xs, v = .ref a /\ SqT K H a xs /\ xs.length = n /\ t xs σ H Q
theorem pg_tup {es : List Expr} {k : Nat} {t : TGs} {n : Nat} (hc : X.calm = true) (h : PGs X es t)
  (hn : (assignEach es X.env).length = n := by rfl) (hst : (assignEach es X.env).findIdx? (·.1) = none := by rfl) : PG X (.Tuple es k pos) (gTup X.K n t) := by
 intro pins s σ H v u Q I r hw
 obtain ⟨a, xs, e1, hq, hl, hw⟩ := hw
 subst e1
 cases r
 obtain ⟨its, rv, ht, hz⟩ := I.tuple hq
 refine assign_Tuple_tuple (I.ok.hd hc) ht (by simp [hn, <- hl, rv.length]) hst fun h' hx => ?_
 have I1 : Inv X pins σ H { s with heap := h' } := I.kept (t' := s.toks) fun b o e => hx b o (Nat.ne_of_lt (Heap.lt_size e)) e
 exact h pins _ σ H xs _ Q I1 (by simpa using rv) hw
def gSub (to ti : TE) (t : TSet) : TG := fun v σ H Q => to σ H fun o H1 => ti σ H1 fun i H2 => t o i v H2 fun H3 => Q σ H3
theorem pg_sub {o i : Expr} {to ti : TE} {t : TSet} (ho : PE X o to) (hi : PE X i ti) (hs : PSet X t)
  (ha : ∀ v, assign (.Subscript o i pos) X.env v = (do
   let ov <- holding [v] (eval o X.env)
   let iv <- holding [v, ov] (eval i X.env)
   standAt pos
   holding [v, ov, iv] (setItem ov iv v)
   release [v, ov, iv] []) := by intro _; rfl) : PG X (.Subscript o i pos) (gSub to ti t) := by
 intro pins s σ H v u Q I r h
 rw [ha]
 refine wpAny_bind (wpAny_holding (thn (ho pins s σ H _ I h) fun ov s1 ⟨x, H1, I1, r1, q1⟩ => ?_))
 refine wpAny_bind (wpAny_holding (thn (hi pins s1 σ H1 _ I1 q1) fun iv s2 ⟨y, H2, I2, r2, q2⟩ => ?_))
 refine wpAny_bind (wpAny_standAt (wpAny_bind (wpAny_holding (thn (hs pins s2 σ H2 x y v ov iv u _ I2 r1 r2 r q2) fun _ s3 ⟨H3, I3, q3⟩ => ?_))))
 exact wpAny_release ⟨σ, H3, I3, q3⟩
def tAsg (te : TE) (g : TG) : TS := fun D σ H => te σ H fun x H1 => g x σ H1 D.nx
theorem ps_asg {tg e : Expr} {te : TE} {g : TG} (he : PE X e te) (hg : PG X tg g) (hs : swapsWithSole [tg] e pos.line X.env = pure false := by rfl) (hw : swappedStores [tg] e X.env = pure none := by rfl)
  (h1 : (assignEach [tg] X.env).map (·.2) = [assign tg X.env] := by rfl) : PS X (.Assign [tg] e pos) (tAsg te g) := by
 intro pins s σ H D I h
 refine wpAny_Assign_stores (thn (he pins s σ H _ I h) fun v s1 ⟨x, H1, I1, r1, q1⟩ => ?_) hs hw
 rw [h1]
 exact thn (hg pins s1 σ H1 x v _ I1 r1 q1) fun _ s2 q => q
theorem ps_set {i : Nat} {x : Str} {e : Expr} {te : TE} {pos' : Pos} (hN : X.N.Nodup) (hi : X.N[i]? = some x) (hx : Loc X.env.scope x) (he : PE X e te) (hs : swapsWith e (some (.Name x pos')) pos.line X.env = pure false := by rfl) (hf : X.fn x = true \/ X.env.scope.names.lookup x = some .local := by first | exact .inl rfl | exact .inr rfl | assumption) :
  PS X (.Assign [.Name x pos'] e pos) (tAsg te (gName i)) := by
 intro pins s σ H D I h
 refine wpAny_Assign_Name (thn (he pins s σ H _ I h) fun v s1 ⟨y, H1, I1, r1, q1⟩ => ?_) hs
 exact store_ok I1 hN hi hx r1 (fun s2 I2 => ⟨_, H1, I2, q1⟩) hf
end
section
variable {X : Cx} {pos : Pos}
def tWhile (c : TT) (tb : TS) : TS := fun D σ H => ∃ W : Nat -> St -> Hp -> Prop, (∃ m, W m σ H) /\ ∀ m σ H, W m σ H ->
 c σ H fun b H1 => if b = true then ∃ N : St -> Hp -> Prop, (∀ σ' H', N σ' H' -> ∃ m', m' < m /\ W m' σ' H') /\ tb { D with nx := N, ct := N, bk := D.nx } σ H1 else D.nx σ H1
theorem ps_while {c : Expr} {body : List Stmt} {tc : TT} {tb : TS} (hp : PassesOwn (model X.prog X.w) X.A X.env X.xe) (hc : PT X c tc) (hb : PSs X body tb) : PS X (.While c body [] pos) (tWhile tc tb) := by
 intro pins s σ H D I h
 obtain ⟨W, ⟨m0, w0⟩, turn⟩ := h
 refine wpAny_While (codeAny_whileLoop (fun n s' => ∃ σ' H', Inv X pins σ' H' s' /\ W n σ' H') ?_ m0 ⟨σ, H, I, w0⟩)
 rintro n s1 ⟨σ1, H1, I1, w1⟩
 refine wpAny_passesOwn hp (thn (hc pins s1 σ1 H1 _ I1 (turn n σ1 H1 w1)) fun b s2 ⟨H2, I2, q2⟩ => ?_)
 cases b with
 | true =>
  obtain ⟨N, hN, q2⟩ := q2
  rw [if_pos rfl]
  refine wpAny_passesOwn hp (thn (hb pins s2 σ1 H2 _ I2 q2) fun f s3 q3 => ?_)
  cases f with
  | next =>
   obtain ⟨σ3, H3, I3, n3⟩ := q3
   obtain ⟨m', hm, w3⟩ := hN σ3 H3 n3
   exact ⟨m', hm, σ3, H3, I3, w3⟩
  | cont =>
   obtain ⟨σ3, H3, I3, n3⟩ := q3
   obtain ⟨m', hm, w3⟩ := hN σ3 H3 n3
   exact ⟨m', hm, σ3, H3, I3, w3⟩
  | brk => exact q3
  | ret v => exact q3
 | false =>
  rw [if_neg Bool.false_ne_true]
  exact wpAny_execs_nil ⟨σ1, H2, I2, q2⟩
end
structure It where
 go : Nat -> Hp -> Prop
 yld : Nat -> Hp -> V -> Hp -> Prop
 stop : Nat -> Hp -> Prop
def FpOk (X : Cx) (pins : List (Addr × Obj)) (H : Hp) (b : Addr) : Prop :=
 H b = none /\ b ≠ X.env.locals /\ b ∉ X.fs /\ (b ∈ X.ex \/ X.s₀.heap.objs.size <= b) /\ (∀ x c, X.env.cells.lookup x = some c -> c ≠ b) /\ ∀ p ∈ X.pn ++ pins, p.1 ≠ b
theorem Inv.fpOk {X : Cx} {pins : List (Addr × Obj)} {σ : St} {H H' : Hp} {s : Shared} {b : Addr} (I : Inv X pins σ H s) (hb : s.heap.objs.size <= b) (hn : H' b = none) : FpOk X pins H' b := by
 refine ⟨hn, Nat.ne_of_gt (Nat.lt_of_lt_of_le I.lt hb), I.nofs hb, .inr (Nat.le_trans I.sz hb), fun x c e z => ?_, fun p hp z => ?_⟩
 ·obtain ⟨v, q⟩ := I.cell x c e
  exact absurd (Nat.lt_of_lt_of_le q.lt (by rw [z]; exact hb)) (Nat.lt_irrefl _)
 ·exact absurd (Nat.lt_of_lt_of_le (Heap.lt_size (I.pin p hp).1) (by rw [z]; exact hb)) (Nat.lt_irrefl _)
structure Turn (P : Program) (w : World) (K : PySem.W.Frag) (tg : Expr) (J : It) (fp : List Addr) (it : Addr) (tn : Nat -> Heap -> Prop) : Prop where
 mem : it ∈ fp
 obj : ∀ i h, tn i h -> ∀ b ∈ fp, ∃ o, h.get? b = some o /\ ∀ v, o.data ≠ .cell v
 keep : ∀ i h h', tn i h -> (∀ b ∈ fp, ∀ o, h.get? b = some o -> h'.get? b = some o) -> tn i h'
 item : ∀ (X : Cx), X.prog = P -> X.w = w -> X.K = K -> X.calm = true -> ∀ (i : Nat) (pins : List (Addr × Obj)) (s : Shared) (σ : St) (H : Hp) (E : Value -> Shared -> Prop), Inv X pins σ H s -> (∀ b ∈ fp, FpOk X pins H b) -> tn i s.heap -> J.go i H ->
  wpAny (model P w) X.A (pyNext (.ref it)) (fun r s1 => ∃ u, r = some u /\
   wpAny (model P w) X.A (letOwnedTupleGo tg (.ref it) u) (fun _ s2 => ∃ x H', Inv X pins σ H' s2 /\ RelV x u /\ J.yld i H x H' /\ tn (i + 1) s2.heap /\ ∀ b ∈ fp, H' b = none) E s1) E s
 done : ∀ (X : Cx), X.prog = P -> X.w = w -> X.K = K -> X.calm = true -> ∀ (i : Nat) (pins : List (Addr × Obj)) (s : Shared) (σ : St) (H : Hp) (E : Value -> Shared -> Prop), Inv X pins σ H s -> (∀ b ∈ fp, FpOk X pins H b) -> tn i s.heap -> J.stop i H ->
  wpAny (model P w) X.A (pyNext (.ref it)) (fun r s1 => r = none /\ Inv X pins σ H s1) E s
 self : ∀ (A : Around) (i : Nat) (s : Shared) (Q : Value -> Shared -> Prop) (E : Value -> Shared -> Prop), tn i s.heap -> Q (.ref it) s -> wpAny (model P w) A (pyIter (.ref it)) Q E s
abbrev TI := St -> Hp -> (It -> Hp -> Prop) -> Prop
def PIE (X : Cx) (pins : List (Addr × Obj)) (σ : St) (tg : Expr) (R : It -> Hp -> Prop) (itv : Value) (s2 : Shared) : Prop :=
 ∃ (it : Addr) (fp : List Addr) (tn : Nat -> Heap -> Prop) (J : It) (H' : Hp), itv = .ref it /\ Inv X pins σ H' s2 /\ Turn X.prog X.w X.K tg J fp it tn /\ tn 0 s2.heap /\ (∀ b ∈ fp, FpOk X pins H' b) /\ R J H'
def PI (X : Cx) (tg iter : Expr) (wi : TI) : Prop :=
 ∀ (pins : List (Addr × Obj)) (s : Shared) (σ : St) (H : Hp) (R : It -> Hp -> Prop), Inv X pins σ H s -> wi σ H R ->
  wpAny (model X.prog X.w) X.A (eval iter X.env) (fun v s1 => wpAny (model X.prog X.w) X.A (pyIter v) (PIE X pins σ tg R) X.xe s1) X.xe s
theorem go_of {M : Model} {A : Around} {E : Value -> Shared -> Prop} {s : Shared} {tg : Expr} {it : Addr} {u : Value} {o : Obj} {n : String} {vs : Array Value} {Q : Unit -> Shared -> Prop} (ho : s.heap.get? it = some o) (hc : o.cls = .type n) (hd : o.data = .fields vs)
  (hn : ["enumerate", "zip", "dict_itemiterator", "dict_reverseitemiterator", "odict_iterator", "itertools.zip_longest", "itertools.pairwise"].contains n = false) (hQ : Q () s) : wpAny M A (letOwnedTupleGo tg (.ref it) u) Q E s := by
 unfold letOwnedTupleGo
 cases tg <;> first
  | exact wpAny_pure hQ
  | (cases u <;> first
    | exact wpAny_pure hQ
    | (refine wpAny_bind (wpAny_load ho ?_)
       rw [hc, hd]
       show wpAny M A (if (["enumerate", "zip", "dict_itemiterator", "dict_reverseitemiterator", "odict_iterator", "itertools.zip_longest", "itertools.pairwise"].contains n && vs[0]? == some (rawInt _)) = true then _ else _) Q E s
       rw [if_neg (by intro h; rw [hn, Bool.false_and] at h; cases h)]
       exact wpAny_pure hQ))
def Itl (K : PySem.W.Frag) (a : Addr) : It :=
 ⟨fun i H => ∃ xs x, SqL K H a xs /\ xs[i]? = some x, fun i H x H' => H' = H /\ ∀ xs, SqL K H a xs -> xs[i]? = some x, fun i H => ∃ xs, SqL K H a xs /\ xs.length <= i⟩
def Itt (K : PySem.W.Frag) (a : Addr) : It :=
 ⟨fun i H => ∃ xs x, SqT K H a xs /\ xs[i]? = some x, fun i H x H' => H' = H /\ ∀ xs, SqT K H a xs -> xs[i]? = some x, fun i H => ∃ xs, SqT K H a xs /\ xs.length <= i⟩
def Itr (lo : Int) (n : Nat) : It := ⟨fun i _ => i < n, fun i H x H' => H' = H /\ x = .int (lo + i), fun i _ => n <= i⟩
theorem turn_list {P : Program} {w : World} {K : PySem.W.Frag} {tg : Expr} (a it : Addr) : Turn P w K tg (Itl K a) [it] it (fun i h => h.IsListIter it a i) where
 mem := by simp
 obj := fun i h st b hb => by
  have e : b = it := by simpa using hb
  subst e
  obtain ⟨o, e, c, d⟩ := st
  exact ⟨o, e, fun v z => by rw [d] at z; cases z⟩
 keep := fun i h h' st k => st.at fun o e => k it (by simp) o e
 item := by
  intro X hP hw hK hc i pins s σ H E I hf st hg
  subst hP hw hK
  obtain ⟨xs, x, hq, hx⟩ := hg
  obtain ⟨its, rv, p, hz⟩ := I.list hq
  obtain ⟨u, hu, ru⟩ := rv.get hx
  obtain ⟨f0, f1, f2, f3, f4, f5⟩ := hf it (by simp)
  refine wpAny_pyNext_list_item st p.isList (x := u) (by simpa using hu) fun h' st' sb => ?_
  have I1 : Inv X pins σ H { s with heap := h' } := I.turned (t' := s.toks) (fun b o hb e => (sb.2 b hb).trans e) f0 f1 f3 f4 f5
  obtain ⟨o, e, c, d⟩ := id st'
  exact ⟨u, rfl, go_of (s := { s with heap := h' }) e c d (by decide) ⟨x, H, I1, ru, ⟨rfl, fun ys hy => by rw [I.list_inj hy hq]; exact hx⟩, st', fun b hb => (hf b hb).1⟩⟩
 done := by
  intro X hP hw hK hc i pins s σ H E I hf st hg
  subst hP hw hK
  obtain ⟨xs, hq, hx⟩ := hg
  obtain ⟨its, rv, p, hz⟩ := I.list hq
  obtain ⟨f0, f1, f2, f3, f4, f5⟩ := hf it (by simp)
  have hl := rv.length
  exact wpAny_pyNext_list_end (I.ok.hd hc) st p.isList (by simp; omega) fun h' eb => ⟨rfl, I.turned (t' := s.toks) (fun b o hb e => eb b o hb e) f0 f1 f3 f4 f5⟩
 self := fun _ _ _ _ _ st h => wpAny_pyIter_listiter st h
theorem turn_tuple {P : Program} {w : World} {K : PySem.W.Frag} {tg : Expr} (a it : Addr) : Turn P w K tg (Itt K a) [it] it (fun i h => h.IsTupleIter it a i) where
 mem := by simp
 obj := fun i h st b hb => by
  have e : b = it := by simpa using hb
  subst e
  obtain ⟨o, e, c, d⟩ := st
  exact ⟨o, e, fun v z => by rw [d] at z; cases z⟩
 keep := fun i h h' st k => st.at fun o e => k it (by simp) o e
 item := by
  intro X hP hw hK hc i pins s σ H E I hf st hg
  subst hP hw hK
  obtain ⟨xs, x, hq, hx⟩ := hg
  obtain ⟨its, rv, p, hz⟩ := I.tuple hq
  obtain ⟨u, hu, ru⟩ := rv.get hx
  obtain ⟨f0, f1, f2, f3, f4, f5⟩ := hf it (by simp)
  refine wpAny_pyNext_tuple_item st (show s.heap.IsTuple a its.toArray from p) (x := u) (by simpa using hu) fun h' st' sb => ?_
  have I1 : Inv X pins σ H { s with heap := h' } := I.turned (t' := s.toks) (fun b o hb e => (sb.2 b hb).trans e) f0 f1 f3 f4 f5
  obtain ⟨o, e, c, d⟩ := id st'
  exact ⟨u, rfl, go_of (s := { s with heap := h' }) e c d (by decide) ⟨x, H, I1, ru, ⟨rfl, fun ys hy => by rw [I.tuple_inj hy hq]; exact hx⟩, st', fun b hb => (hf b hb).1⟩⟩
 done := by
  intro X hP hw hK hc i pins s σ H E I hf st hg
  subst hP hw hK
  obtain ⟨xs, hq, hx⟩ := hg
  obtain ⟨its, rv, p, hz⟩ := I.tuple hq
  obtain ⟨f0, f1, f2, f3, f4, f5⟩ := hf it (by simp)
  have hl := rv.length
  exact wpAny_pyNext_tuple_end (I.ok.hd hc) st (show s.heap.IsTuple a its.toArray from p) (by simp; omega) fun h' eb => ⟨rfl, I.turned (t' := s.toks) (fun b o hb e => eb b o hb e) f0 f1 f3 f4 f5⟩
 self := fun _ _ _ _ _ st h => wpAny_pyIter_tupleiter st h
theorem turn_range {P : Program} {w : World} {K : PySem.W.Frag} {tg : Expr} (it : Addr) (lo : Int) (n : Nat) : Turn P w K tg (Itr lo n) [it] it (fun i h => IsRangeIter h it (lo + (i : Nat) * 1) ((n : Int) - (i : Nat)) 1) where
 mem := by simp
 obj := fun i h st b hb => by
  have e : b = it := by simpa using hb
  subst e
  exact ⟨_, st, fun v z => by
   have z' : Data.fields _ = Data.cell v := z
   cases z'⟩
 keep := fun i h h' st k => k it (by simp) _ st
 item := by
  intro X hP hw hK hc i pins s σ H E I hf st hg
  subst hP hw hK
  obtain ⟨f0, f1, f2, f3, f4, f5⟩ := hf it (by simp)
  have W := Walks.range (prog := X.prog) (w := X.w) (I.ok.hd hc) it lo 1 n
  refine W.item i s _ _ hg st fun v h' tk hv st' kk => ?_
  obtain ⟨t, rfl⟩ := hv
  have I1 : Inv X pins σ H { s with heap := h', toks := tk } := I.turned (fun b o hb e => kk b o (by simpa using hb) e) f0 f1 f3 f4 f5
  refine ⟨_, rfl, go_of (s := { s with heap := h', toks := tk }) (n := "range_iterator") st' rfl rfl (by decide) ⟨.int (lo + i), H, I1, ⟨t, ?_⟩, ⟨rfl, rfl⟩, st', fun b hb => (hf b hb).1⟩⟩
  rw [Int.mul_one]
 done := by
  intro X hP hw hK hc i pins s σ H E I hf st hg
  subst hP hw hK
  obtain ⟨f0, f1, f2, f3, f4, f5⟩ := hf it (by simp)
  exact wpAny_pyNext_range_end (I.ok.hd hc) st (by have : n <= i := hg; omega) fun h' eb => ⟨rfl, I.turned (t' := s.toks) (fun b o hb e => eb b o hb e) f0 f1 f3 f4 f5⟩
 self := fun _ _ _ _ _ st h => wpAny_pyIter_rangeiter st h
end L2
namespace L2
open PySem PySem.Spec PyProof.Rows
section
variable {X : Cx} {tg : Expr}
def iList (K : PySem.W.Frag) (tl : TE) : TI := fun σ H R => tl σ H fun x H1 => ∃ a, x = .ref a /\ (∃ xs, SqL K H1 a xs) /\ R (Itl K a) H1
theorem pi_list {l : Expr} {tl : TE} (hl : PE X l tl) : PI X tg l (iList X.K tl) := by
 intro pins s σ H R I h
 refine thn (hl pins s σ H _ I h) fun v s1 ⟨x, H1, I1, r1, q1⟩ => ?_
 obtain ⟨a, e, ⟨xs, hq⟩, q⟩ := q1
 subst e
 cases r1
 obtain ⟨its, rv, p, hz⟩ := I1.list hq
 refine wpAny_pyIter_list p.isList ?_
 refine ⟨s1.heap.objs.size, [s1.heap.objs.size], _, _, H1, rfl, I1.kept (t' := s1.toks) fun b o e => Heap.get?_push_of_some _ e, turn_list a _, ⟨_, Heap.get?_push_size _ rfl, rfl, rfl⟩, fun b hb => ?_, q⟩
 have e : b = s1.heap.objs.size := by simpa using hb
 subst e
 exact I1.fpOk (Nat.le_refl _) (I1.hok.fresh (Nat.le_refl _))
theorem range_it {pins : List (Addr × Obj)} {σ : St} {H : Hp} {s : Shared} {R : It -> Hp -> Prop} {E : Value -> Shared -> Prop} {lo hi : Int} {t u v : Tok} {tk : Nat} (I : Inv X pins σ H s) (h1 : -(2 ^ 62) <= lo) (h2 : lo < 2 ^ 62) (h3 : -(2 ^ 62) <= hi) (h4 : hi < 2 ^ 62)
  (q : R (Itr lo (hi - lo).toNat) H) : wpAny (model X.prog X.w) X.A (pyIter (.ref s.heap.objs.size)) (PIE X pins σ tg R) E { s with heap := s.heap.push { cls := .type "range", data := .fields #[.int lo t, .int hi u, .int 1 v] }, toks := tk } := by
 refine wpAny_pyIter_range (IsRange.new ..) (small_one h1 h2 h3 h4) ?_
 have I1 : Inv X pins σ H { s with heap := s.heap.push { cls := .type "range", data := .fields #[.int lo t, .int hi u, .int 1 v] }, toks := tk } := I.kept fun b o e => Heap.get?_push_of_some _ e
 refine ⟨(s.heap.push { cls := .type "range", data := .fields #[.int lo t, .int hi u, .int 1 v] }).objs.size, [(s.heap.push { cls := .type "range", data := .fields #[.int lo t, .int hi u, .int 1 v] }).objs.size], _, _, H, rfl,
  I1.kept (t' := tk) fun b o e => Heap.get?_push_of_some _ e, turn_range _ lo (hi - lo).toNat, ?_, fun b hb => ?_, q⟩
 ·have e1 : lo + ((0 : Nat) : Int) * 1 = lo := by simp
  have e2 : (((hi - lo).toNat : Nat) : Int) - ((0 : Nat) : Int) = Builtin.Range.rangeSize lo hi 1 := by rw [rangeSize_one]; split <;> omega
  show IsRangeIter _ _ (lo + ((0 : Nat) : Int) * 1) ((((hi - lo).toNat : Nat) : Int) - ((0 : Nat) : Int)) 1
  rw [e1, e2]
  exact Heap.get?_push_size _ rfl
 ·have e : b = (s.heap.push { cls := .type "range", data := .fields #[.int lo t, .int hi u, .int 1 v] }).objs.size := by simpa using hb
  subst e
  exact I1.fpOk (Nat.le_refl _) (I1.hok.fresh (Nat.le_refl _))
def iRng1 (ta : TA) : TI := fun σ H R => ta σ H fun vs H1 => ∃ j : Int, vs = [.int j] /\ -(2 ^ 62) <= j /\ j < 2 ^ 62 /\ R (Itr 0 j.toNat) H1
def iRng2 (ta : TA) : TI := fun σ H R => ta σ H fun vs H1 => ∃ i j : Int, vs = [.int i, .int j] /\ (-(2 ^ 62) <= i /\ i < 2 ^ 62 /\ -(2 ^ 62) <= j /\ j < 2 ^ 62) /\ R (Itr i (j - i).toNat) H1
theorem pi_range1 {a : Expr} {ta : TA} {p pos : Pos} (hg : Gl X "range") (hm : X.mg "range" = none) (ha : PA X [a] ta) (hs : starEach [a] X.env = [(false, eval a X.env)] := by rfl) : PI X tg (.Call (.Name "range" p) [a] [] pos) (iRng1 ta) := by
 intro pins s σ H R I h
 refine Call_ (ld_blt I hg hm boot_range (PyProof.Rows.callWith_type1 (thn (ha pos pins s σ H _ I h) fun us s1 ⟨vs, H1, I1, r1, q1⟩ => ?_) hs rfl))
 obtain ⟨j, e, q1, q2, q⟩ := q1
 subst e
 cases r1 with
 | cons r rr =>
  cases rr
  obtain ⟨t, rfl⟩ := r
  exact call_range_1 (range_it I1 (by omega) (by omega) q1 q2 (by simpa using q))
theorem pi_range2 {a b : Expr} {ta : TA} {p pos : Pos} (hg : Gl X "range") (hm : X.mg "range" = none) (ha : PA X [a, b] ta) (hs : starEach [a, b] X.env = [(false, eval a X.env), (false, eval b X.env)] := by rfl) (hs2 : starEach [b] X.env = [(false, eval b X.env)] := by rfl) :
  PI X tg (.Call (.Name "range" p) [a, b] [] pos) (iRng2 ta) := by
 intro pins s σ H R I h
 refine Call_ (ld_blt I hg hm boot_range (PyProof.Rows.callWith_type1 (thn (ha pos pins s σ H _ I h) fun us s1 ⟨vs, H1, I1, r1, q1⟩ => ?_) (by rw [hs, hs2]) (by rw [hs2]; rfl)))
 obtain ⟨i, j, e, ⟨q1, q2, q3, q4⟩, q⟩ := q1
 subst e
 cases r1 with
 | cons r rr =>
  cases rr with
  | cons r' rr =>
   cases rr
   obtain ⟨t, rfl⟩ := r
   obtain ⟨t', rfl⟩ := r'
   exact call_range_2 (range_it I1 q1 q2 q3 q4 q)
def tFor (wi : TI) (g : TG) (tb : TS) : TS := fun D σ H => wi σ H fun J H1 => ∃ W : Nat -> Nat -> St -> Hp -> Prop, (∃ m, W 0 m σ H1) /\ ∀ i m σ H, W i m σ H ->
 (J.stop i H /\ D.nx σ H) \/ (J.go i H /\ ∃ N : St -> Hp -> Prop, (∀ σ' H', N σ' H' -> ∃ m', m' < m /\ W (i + 1) m' σ' H') /\ ∀ x H', J.yld i H x H' -> g x σ H' fun σ2 H2 => tb { D with nx := N, ct := N, bk := D.nx } σ2 H2)
def pinsAt (fp : List Addr) (h : Heap) : List (Addr × Obj) := fp.filterMap fun b => (h.get? b).map fun o => (b, o)
theorem mem_pinsAt {fp : List Addr} {h : Heap} {b : Addr} {o : Obj} (hb : b ∈ fp) (e : h.get? b = some o) : (b, o) ∈ pinsAt fp h := List.mem_filterMap.mpr ⟨b, hb, by rw [e]; rfl⟩
theorem of_pinsAt {fp : List Addr} {h : Heap} {p : Addr × Obj} (hp : p ∈ pinsAt fp h) : p.1 ∈ fp /\ h.get? p.1 = some p.2 := by
 obtain ⟨b, hb, e⟩ := List.mem_filterMap.mp hp
 cases q : h.get? b with
 | none => rw [q] at e; cases e
 | some o =>
  rw [q] at e
  have e' : (b, o) = p := Option.some.inj e
  subst e'
  exact ⟨hb, q⟩
theorem Inv.pinned {pins : List (Addr × Obj)} {σ : St} {H : Hp} {s : Shared} {fp : List Addr} (I : Inv X pins σ H s) (hf : ∀ b ∈ fp, FpOk X pins H b) (ho : ∀ b ∈ fp, ∃ o, s.heap.get? b = some o /\ ∀ v, o.data ≠ .cell v) : Inv X (pins ++ pinsAt fp s.heap) σ H s :=
 I.pins_of fun p hp => (List.mem_append.mp hp).elim (fun z => I.pin p (List.mem_append_right _ z)) fun z => by
  obtain ⟨hb, e⟩ := of_pinsAt z
  obtain ⟨f0, f1, f2, _⟩ := hf p.1 hb
  obtain ⟨o, e', d⟩ := ho p.1 hb
  rw [e] at e'; cases e'
  exact ⟨e, f0, f1, f2, d⟩
theorem Inv.unpinned {pins pl : List (Addr × Obj)} {σ : St} {H : Hp} {s : Shared} (I : Inv X (pins ++ pl) σ H s) : Inv X pins σ H s := I.pins_of fun p hp => I.pin p (List.mem_append_right _ (List.mem_append_left _ hp))
theorem ps_for {iter : Expr} {body : List Stmt} {wi : TI} {g : TG} {tb : TS} {pos : Pos} (hp : PassesOwn (model X.prog X.w) X.A X.env X.xe) (hc : X.calm = true) (hi : PI X tg iter wi) (hg : PG X tg g) (hb : PSs X body tb)
  (hs : ∀ x, foldedSetIterable iter X.env x = pure x := by intro _; rfl) : PS X (.For tg iter body [] pos) (tFor wi g tb) := by
 intro pins s σ H D I h
 refine wpAny_For (thn (hi pins s σ H _ I h) fun v s1 h1 => thn h1 fun itv s2 h2 => ?_) hs
 obtain ⟨it, fp, tn, J, H2, e, I2, T, st2, f2, W, ⟨m0, w0⟩, turn⟩ := h2
 subst e
 have stat : ∀ {H' : Hp}, (∀ b ∈ fp, H' b = none) -> ∀ b ∈ fp, FpOk X pins H' b := fun hn b hb => ⟨hn b hb, (f2 b hb).2⟩
 refine codeAny_forLoop_any (fun n s' => ∃ i σ' H', Inv X pins σ' H' s' /\ tn i s'.heap /\ (∀ b ∈ fp, H' b = none) /\ W i n σ' H') ?_ m0 ⟨0, σ, H2, I2, st2, fun b hb => (f2 b hb).1, w0⟩
 rintro n s3 ⟨i, σ3, H3, I3, st3, fr3, w3⟩
 rcases turn i n σ3 H3 w3 with ⟨stop, qn⟩ | ⟨go, N, hN, step⟩
 ·refine wpAny_passesOwn hp (thn (T.done X rfl rfl rfl hc i pins s3 σ3 H3 X.xe I3 (stat fr3) st3 stop) fun r s4 ⟨hr, I4⟩ => ?_)
  subst hr
  exact wpAny_execs_nil ⟨σ3, H3, I4, qn⟩
 ·refine wpAny_passesOwn hp (thn (T.item X rfl rfl rfl hc i pins s3 σ3 H3 X.xe I3 (stat fr3) st3 go) fun r s4 ⟨u, hr, h4⟩ => ?_)
  subst hr
  refine wpAny_passesOwn hp (thn h4 fun _ s5 ⟨x, H5, I5, r5, y5, st5, fr5⟩ => ?_)
  have I5' := I5.pinned (stat fr5) (T.obj _ _ st5)
  refine wpAny_passesOwn hp (thn (hg _ s5 σ3 H5 x u _ I5' r5 (step x H5 y5)) fun _ s6 ⟨σ6, H6, I6, q6⟩ => ?_)
  refine wpAny_passesOwn hp (thn (hb _ s6 σ6 H6 _ I6 q6) fun f s7 q7 => ?_)
  have again : ∀ {σ7 : St} {H7 : Hp}, Inv X (pins ++ pinsAt fp s5.heap) σ7 H7 s7 -> N σ7 H7 -> ∃ m, m < n /\ ∃ i σ' H', Inv X pins σ' H' s7 /\ tn i s7.heap /\ (∀ b ∈ fp, H' b = none) /\ W i m σ' H' := fun {σ7 H7} I7 n7 => by
   obtain ⟨m', hm, w7⟩ := hN σ7 H7 n7
   refine ⟨m', hm, i + 1, σ7, H7, I7.unpinned, T.keep _ _ _ st5 fun b hb o e => (I7.pin (b, o) (List.mem_append_right _ (List.mem_append_right _ (mem_pinsAt hb e)))).1, fun b hb => ?_, w7⟩
   obtain ⟨o, e, d⟩ := T.obj _ _ st5 b hb
   exact (I7.pin (b, o) (List.mem_append_right _ (List.mem_append_right _ (mem_pinsAt hb e)))).2.1
  cases f with
  | next => obtain ⟨σ7, H7, I7, n7⟩ := q7; exact again I7 n7
  | cont => obtain ⟨σ7, H7, I7, n7⟩ := q7; exact again I7 n7
  | brk => obtain ⟨σ7, H7, I7, q7⟩ := q7; exact ⟨σ7, H7, I7.unpinned, q7⟩
  | ret v => obtain ⟨x7, σ7, H7, I7, r7, q7⟩ := q7; exact ⟨x7, σ7, H7, I7.unpinned, r7, q7⟩
end
end L2
namespace L2
open PySem PySem.Spec PyProof.Rows
abbrev R2 := V -> V -> Hp -> VK -> Prop
def OpR (X : Cx) (f : Value -> Value -> Sem Value) (r : R2) : Prop :=
 ∀ (pins : List (Addr × Obj)) (s : Shared) (σ : St) (H : Hp) (x y : V) (v u : Value) (Q : VK), Inv X pins σ H s -> RelV x v -> RelV y u -> r x y H Q ->
  wpAny (model X.prog X.w) X.A (f v u) (EP X pins σ Q) X.xe s
def UnR (X : Cx) (f : Value -> Sem Value) (r : V -> Hp -> VK -> Prop) : Prop :=
 ∀ (pins : List (Addr × Obj)) (s : Shared) (σ : St) (H : Hp) (x : V) (v : Value) (Q : VK), Inv X pins σ H s -> RelV x v -> r x H Q ->
  wpAny (model X.prog X.w) X.A (f v) (EP X pins σ Q) X.xe s
def CallR (X : Cx) (f : Value) (r : List V -> Hp -> VK -> Prop) : Prop :=
 ∀ (pins : List (Addr × Obj)) (s : Shared) (σ : St) (H : Hp) (xs : List V) (us : List Value) (Q : VK), Inv X pins σ H s -> Vals xs us -> r xs H Q ->
  wpAny (model X.prog X.w) X.A (call f us) (EP X pins σ Q) X.xe s
def tOp (r : R2) (ta tb : TE) : TE := fun σ H Q => ta σ H fun x H1 => tb σ H1 fun y H2 => r x y H2 Q
def tUn (r : V -> Hp -> VK -> Prop) (ta : TE) : TE := fun σ H Q => ta σ H fun x H1 => r x H1 Q
def rI (C : Int -> Int -> Prop) (g : Int -> Int -> V) : R2 := fun x y H Q => ∃ i j, x = .int i /\ y = .int j /\ C i j /\ Q (g i j) H
def rI0 (g : Int -> Int -> V) : R2 := fun x y H Q => ∃ i j, x = .int i /\ y = .int j /\ Q (g i j) H
def rU (g : Int -> V) : V -> Hp -> VK -> Prop := fun x H Q => ∃ i, x = .int i /\ Q (g i) H
section
variable {X : Cx} {a b c : Expr} {ta tb tc : TE} {pos : Pos}
theorem binT (ha : PE X a ta) (hb : PE X b tb) {pins : List (Addr × Obj)} {s : Shared} {σ : St} {H : Hp} {R : V -> V -> Hp -> Prop} (I : Inv X pins σ H s)
  (h : ta σ H fun x H1 => tb σ H1 fun y H2 => R x y H2) {Q : Value -> Shared -> Prop} {f : Value -> Value -> Sem Value}
  (hf : ∀ v u s2 x y H2, Inv X pins σ H2 s2 -> RelV x v -> RelV y u -> R x y H2 -> wpAny (model X.prog X.w) X.A (f v u) Q X.xe s2) :
  wpAny (model X.prog X.w) X.A (eval a X.env) (fun v s₁ => wpAny (model X.prog X.w) X.A (eval b X.env) (fun u s₂ => wpAny (model X.prog X.w) X.A (f v u) Q X.xe s₂) X.xe s₁) X.xe s := by
 refine thn (ha pins s σ H _ I h) fun v s1 ⟨x, H1, I1, r1, q1⟩ => ?_
 refine thn (hb pins s1 σ H1 _ I1 q1) fun u s2 ⟨y, H2, I2, r2, q2⟩ => ?_
 exact hf v u s2 x y H2 I2 r1 r2 q2
theorem pe_op {op : Operator} {r : R2} (ho : OpR X (binaryOp op) r) (ha : PE X a ta) (hb : PE X b tb) : PE X (.BinOp a op b pos) (tOp r ta tb) := by
 intro pins s σ H Q I h
 exact wpAny_BinOp (binT ha hb I h fun v u s2 x y H2 I2 rx ry q => ho pins s2 σ H2 x y v u Q I2 rx ry q)
theorem pe_un {op : UnaryOp} {r : V -> Hp -> VK -> Prop} (ho : UnR X (unaryOp op) r) (ha : PE X a ta) : PE X (.UnaryOp op a pos) (tUn r ta) := by
 intro pins s σ H Q I h
 exact UnaryOp_ (thn (ha pins s σ H _ I h) fun v s1 ⟨x, H1, I1, r1, q1⟩ => ho pins s1 σ H1 x v Q I1 r1 q1)
theorem opI {f : Value -> Value -> Sem Value} {C : Int -> Int -> Prop} {g : Int -> Int -> Int}
  (rule : ∀ (i j : Int) (t u : Tok) (s : Shared) (Q : Value -> Shared -> Prop) (E : Value -> Shared -> Prop), C i j -> Q (.int (g i j) s.toks) { s with toks := s.toks + 1 } -> wpAny (model X.prog X.w) X.A (f (.int i t) (.int j u)) Q E s) :
  OpR X f (rI C fun i j => .int (g i j)) := by
 intro pins s σ H x y v u Q I rx ry h
 obtain ⟨i, j, rfl, rfl, hc, q⟩ := h
 obtain ⟨t, rfl⟩ := rx
 obtain ⟨t', rfl⟩ := ry
 exact rule i j t t' s _ _ hc ⟨.int (g i j), H, I.tok _, ⟨_, rfl⟩, q⟩
theorem opI0 {f : Value -> Value -> Sem Value} {g : Int -> Int -> Int}
  (rule : ∀ (i j : Int) (t u : Tok) (s : Shared) (Q : Value -> Shared -> Prop) (E : Value -> Shared -> Prop), Q (.int (g i j) s.toks) { s with toks := s.toks + 1 } -> wpAny (model X.prog X.w) X.A (f (.int i t) (.int j u)) Q E s) :
  OpR X f (rI0 fun i j => .int (g i j)) := by
 intro pins s σ H x y v u Q I rx ry h
 obtain ⟨i, j, rfl, rfl, q⟩ := h
 obtain ⟨t, rfl⟩ := rx
 obtain ⟨t', rfl⟩ := ry
 exact rule i j t t' s _ _ ⟨.int (g i j), H, I.tok _, ⟨_, rfl⟩, q⟩
theorem opB0 {f : Value -> Value -> Sem Value} {g : Int -> Int -> Bool}
  (rule : ∀ (i j : Int) (t u : Tok) (s : Shared) (Q : Value -> Shared -> Prop) (E : Value -> Shared -> Prop), Q (.bool (g i j)) s -> wpAny (model X.prog X.w) X.A (f (.int i t) (.int j u)) Q E s) :
  OpR X f (rI0 fun i j => .bl (g i j)) := by
 intro pins s σ H x y v u Q I rx ry h
 obtain ⟨i, j, rfl, rfl, q⟩ := h
 obtain ⟨t, rfl⟩ := rx
 obtain ⟨t', rfl⟩ := ry
 exact rule i j t t' s _ _ ⟨.bl (g i j), H, I, rfl, q⟩
def CDiv (i j : Int) : Prop := 0 < j /\ j < 1073741824
def CPow (i j : Int) : Prop := 0 <= j /\ j <= 1000000 /\ i.natAbs < 2 ^ 64
def CMul (i j : Int) : Prop := (-(2 ^ 64) < i /\ i < 2 ^ 64) \/ (-(2 ^ 64) < j /\ j < 2 ^ 64)
theorem CMul.ok {i j : Int} (h : CMul i j) : IntMulOk i j := by
 rcases h with ⟨h1, h2⟩ | ⟨h1, h2⟩
 ·exact .of_left (intBits_le_64 h1 h2)
 ·exact .of_right (intBits_le_64 h1 h2)
theorem op_add : OpR X (binaryOp .Add) (rI0 fun i j => .int (i + j)) := opI0 fun _ _ _ _ _ _ _ q => add_int q
theorem op_sub : OpR X (binaryOp .Sub) (rI0 fun i j => .int (i - j)) := opI0 fun _ _ _ _ _ _ _ q => sub_int q
theorem op_mul : OpR X (binaryOp .Mult) (rI CMul fun i j => .int (i * j)) := opI fun _ _ _ _ _ _ _ hc q => mul_int q hc.ok
theorem op_fdiv : OpR X (binaryOp .FloorDiv) (rI CDiv fun i j => .int (i / j)) := opI fun i j _ _ _ _ _ hc q => by
 have h1 : (0 : Int) < j := hc.1
 have h2 : j < 1073741824 := hc.2
 exact floordiv_int (by omega) (by rw [Int.fdiv_eq_ediv_of_nonneg i (by omega)]; exact q) (.inl (PyProof.noPylong_small (by omega)))
theorem op_mod : OpR X (binaryOp .Mod) (rI (fun _ j => 0 < j) fun i j => .int (i % j)) := opI fun i j _ _ _ _ _ hc q => by
 have h1 : (0 : Int) < j := hc
 exact mod_int' (by omega) (by rw [Int.fmod_eq_emod_of_nonneg i (by omega)]; exact q)
theorem op_pow : OpR X (binaryOp .Pow) (rI CPow fun i j => .int (i ^ j.toNat)) := opI fun _ _ _ _ _ _ _ hc q => pow_int_small hc.1 hc.2.1 hc.2.2 q
theorem unI {f : Value -> Sem Value} {g : Int -> Int}
  (rule : ∀ (i : Int) (t : Tok) (s : Shared) (Q : Value -> Shared -> Prop) (E : Value -> Shared -> Prop), Q (.int (g i) s.toks) { s with toks := s.toks + 1 } -> wpAny (model X.prog X.w) X.A (f (.int i t)) Q E s) :
  UnR X f (rU fun i => .int (g i)) := by
 intro pins s σ H x v Q I rx h
 obtain ⟨i, rfl, q⟩ := h
 obtain ⟨t, rfl⟩ := rx
 exact rule i t s _ _ ⟨.int (g i), H, I.tok _, ⟨_, rfl⟩, q⟩
theorem un_neg : UnR X (unaryOp .USub) (rU fun i => .int (-i)) := unI fun _ _ _ _ _ q => neg_int q
end
section
variable {X : Cx} {a b c : Expr} {ta tb tc : TE} {pos : Pos}
theorem fin_bl {pins : List (Addr × Obj)} {σ : St} {H : Hp} {s : Shared} {Q : VK} {k k' : Bool} (I : Inv X pins σ H s) (q : Q (.bl k) H) (e : k = k') : EP X pins σ Q (.bool k') s := by
 subst e
 exact ⟨.bl k, H, I, rfl, q⟩
theorem op_lt : OpR X (compareOp .Lt) (rI0 fun i j => .bl (decide (i < j))) := opB0 fun _ _ _ _ _ _ _ q => lt_int q
theorem op_le : OpR X (compareOp .LtE) (rI0 fun i j => .bl (decide (i <= j))) := opB0 fun _ _ _ _ _ _ _ q => le_int q
theorem op_gt : OpR X (compareOp .Gt) (rI0 fun i j => .bl (decide (j < i))) := opB0 fun _ _ _ _ _ _ _ q => gt_int q
theorem op_ge : OpR X (compareOp .GtE) (rI0 fun i j => .bl (decide (j <= i))) := opB0 fun _ _ _ _ _ _ _ q => ge_int q
theorem op_in_str : OpR X (compareOp .In) (fun x y H Q => ∃ i j, x = .str i /\ y = .str j /\ Q (.bl (!(Builtin.Str.occurrences j i 0 j.length 1).isEmpty)) H) := by
 intro pins s σ H x y v u Q I rx ry h
 obtain ⟨i, j, rfl, rfl, q⟩ := h
 obtain ⟨t, rfl⟩ := rx
 obtain ⟨t', rfl⟩ := ry
 exact in_str (fin_bl I q rfl)
theorem op_notin_str : OpR X (compareOp .NotIn) (fun x y H Q => ∃ i j, x = .str i /\ y = .str j /\ Q (.bl (!(!(Builtin.Str.occurrences j i 0 j.length 1).isEmpty))) H) := by
 intro pins s σ H x y v u Q I rx ry h
 obtain ⟨i, j, rfl, rfl, q⟩ := h
 obtain ⟨t, rfl⟩ := rx
 obtain ⟨t', rfl⟩ := ry
 exact notIn_str (fin_bl I q rfl)
theorem OpR.or {f : Value -> Value -> Sem Value} {r r' : R2} (h : OpR X f r) (h' : OpR X f r') : OpR X f (fun x y H Q => r x y H Q \/ r' x y H Q) := by
 intro pins s σ H x y v u Q I rx ry q
 rcases q with q | q
 ·exact h pins s σ H x y v u Q I rx ry q
 ·exact h' pins s σ H x y v u Q I rx ry q
theorem nomark (b : Expr) {op : CmpOp} (h : op ≠ .In := by decide) (h2 : op ≠ .NotIn := by decide) : behindInMarks op b = false := by
 have e1 : (op == CmpOp.In) = false := by cases op <;> first | rfl | exact absurd rfl h
 have e2 : (op == CmpOp.NotIn) = false := by cases op <;> first | rfl | exact absurd rfl h2
 cases b <;> simp [behindInMarks, e1, e2]
theorem pe_cmpR {op : CmpOp} {r : R2} (ho : OpR X (compareOp op) r) (ha : PE X a ta) (hb : PE X b tb) (hm : behindInMarks op b = false) : PE X (.Compare a [op] [b] pos) (tOp r ta tb) := by
 intro pins s σ H Q I h
 exact wpAny_Compare1 (binT ha hb I h fun v u s2 x y H2 I2 rx ry q => ho pins s2 σ H2 x y v u Q I2 rx ry q) hm
def tTest (t : TE) : TT := fun σ H Q => t σ H fun x H' => ∃ k, x = .bl k /\ Q k H'
theorem pt_cmpR {op : CmpOp} {r : R2} (ho : OpR X (compareOp op) r) (ha : PE X a ta) (hb : PE X b tb) (hm : behindInMarks op b = false) : PT X (.Compare a [op] [b] pos) (tTest (tOp r ta tb)) := by
 intro pins s σ H Q I h
 refine wpAny_isTrue_Compare1 (thn (ha pins s σ H _ I h) fun v s1 ⟨x, H1, I1, r1, q1⟩ => thn (hb pins s1 σ H1 _ I1 q1) fun u s2 ⟨y, H2, I2, r2, q2⟩ =>
  thn (ho pins s2 σ H2 x y v u _ I2 r1 r2 q2) fun c s3 ⟨z, H3, I3, r3, k, e, q3⟩ => ?_) hm
 subst e
 cases r3
 exact wpAny_truthy_bool ⟨H3, I3, q3⟩
def tChain (r r' : R2) (ta tb tc : TE) : TE := fun σ H Q => ta σ H fun x H1 => tb σ H1 fun y H2 => r x y H2 fun z H3 => ∃ k, z = .bl k /\
 (if k = true then tc σ H3 fun w' H4 => r' y w' H4 Q else Q (.bl false) H3)
theorem pe_chain {op op' : CmpOp} {r r' : R2} (ho : OpR X (compareOp op) r) (ho' : OpR X (compareOp op') r') (ha : PE X a ta) (hb : PE X b tb) (hc : PE X c tc)
  (hm : lastMarks [op, op'] [b, c] = false := by with_unfolding_all rfl) : PE X (.Compare a [op, op'] [b, c] pos) (tChain r r' ta tb tc) := by
 intro pins s σ H Q I h
 refine Compare_chain (thn (ha pins s σ H _ I h) fun v s1 ⟨x, H1, I1, r1, q1⟩ => chain_link (thn (hb pins s1 σ H1 _ I1 q1) fun u s2 ⟨y, H2, I2, r2, q2⟩ =>
  thn (ho pins s2 σ H2 x y v u _ I2 r1 r2 q2) fun d s3 ⟨z, H3, I3, r3, k, e, q3⟩ => ?_)) hm
 subst e
 cases r3
 refine wpAny_truthy_bool ?_
 cases k with
 | false => exact ite_ff ⟨.bl false, H3, I3, rfl, q3⟩
 | true => exact ite_tt (chain_last (thn (hc pins s3 σ H3 _ I3 q3) fun w' s4 ⟨z', H4, I4, r4, q4⟩ => ho' pins s4 σ H4 y z' u w' Q I4 r2 r4 q4))
theorem line63 : (sizeLine : Nat) < 2 ^ 63 := by rw [sizeLine_eq]; decide
theorem op_add_str : OpR X (binaryOp .Add) (fun x y H Q => ∃ i j, x = .str i /\ y = .str j /\ i.length + j.length <= sizeLine /\ Q (.str (i ++ j)) H) := by
 intro pins s σ H x y v u Q I rx ry h
 obtain ⟨i, j, rfl, rfl, hz, q⟩ := h
 obtain ⟨t, rfl⟩ := rx
 obtain ⟨t', rfl⟩ := ry
 exact add_str (fun t' tk => ⟨.str (i ++ j), H, I.tok _, ⟨_, rfl⟩, q⟩) hz
theorem vals1 {x : V} {us : List Value} (r : Vals [x] us) : ∃ u, us = [u] /\ RelV x u := by
 cases r with
 | cons r1 r2 => cases r2; exact ⟨_, rfl, r1⟩
theorem vals2 {x y : V} {us : List Value} (r : Vals [x, y] us) : ∃ u w', us = [u, w'] /\ RelV x u /\ RelV y w' := by
 cases r with
 | cons r1 r2 =>
  cases r2 with
  | cons r3 r4 => cases r4; exact ⟨_, _, rfl, r1, r3⟩
theorem call_max2 (hc : X.calm = true) : CallR X (.builtin "max") (fun xs H Q => ∃ i j, xs = [.int i, .int j] /\ Q (.int (if j > i then j else i)) H) := by
 intro pins s σ H xs us Q I r h
 obtain ⟨i, j, rfl, q⟩ := h
 obtain ⟨u, w', rfl, ⟨t, rfl⟩, ⟨t', rfl⟩⟩ := vals2 r
 refine max_two_ints (I.ok.hd hc) fun h' tk k => ⟨_, H, I.kept k, ?_, q⟩
 by_cases hj : j > i
 ·rw [if_pos hj, if_pos hj]; exact ⟨_, rfl⟩
 ·rw [if_neg hj, if_neg hj]; exact ⟨_, rfl⟩
theorem call_min2 (hc : X.calm = true) : CallR X (.builtin "min") (fun xs H Q => ∃ i j, xs = [.int i, .int j] /\ Q (.int (if j < i then j else i)) H) := by
 intro pins s σ H xs us Q I r h
 obtain ⟨i, j, rfl, q⟩ := h
 obtain ⟨u, w', rfl, ⟨t, rfl⟩, ⟨t', rfl⟩⟩ := vals2 r
 refine min_two_ints (I.ok.hd hc) fun h' tk k => ⟨_, H, I.kept k, ?_, q⟩
 by_cases hj : j < i
 ·rw [if_pos hj, if_pos hj]; exact ⟨_, rfl⟩
 ·rw [if_neg hj, if_neg hj]; exact ⟨_, rfl⟩
theorem call_int1 : CallR X (.type "int") (fun xs H Q => (∃ i, xs = [.int i] /\ Q (.int i) H) \/ ∃ k, xs = [.bl k] /\ Q (.int (if k then 1 else 0)) H) := by
 intro pins s σ H xs us Q I r h
 rcases h with ⟨i, rfl, q⟩ | ⟨k, rfl, q⟩
 ·obtain ⟨u, rfl, t, rfl⟩ := vals1 r
  exact call_int_int ⟨.int i, H, I, ⟨_, rfl⟩, q⟩
 ·obtain ⟨u, rfl, r1⟩ := vals1 r
  cases r1
  exact call_int_bool ⟨.int (if k then 1 else 0), H, I.tok _, ⟨_, rfl⟩, q⟩
end
end L2
namespace L2
open PySem PySem.Spec PyProof.Rows
structure ObjM (h : Heap) (x dx C : Addr) (mA : Str -> Option Value) : Prop where
 obj : h.get? x = some (PySem.W.instObj C dx)
 ns : h.Ns1 dx mA
 ne : dx ≠ x
theorem lookIn_ns {h : Heap} {dx : Addr} {mA : Str -> Option Value} (n : h.Ns1 dx mA) : ∃ od, h.get? dx = some od /\ ∀ name, PySem.W.lookIn name od = some (mA name) := by
 obtain ⟨o, es, ep, ho, hd, hk, _, hm⟩ := n
 refine ⟨o, ho, fun name => ?_⟩
 have e := hm name
 unfold nsFind findBy at e
 rw [<- Array.find?_toList] at e
 unfold PySem.W.lookIn
 rw [hd]
 dsimp only
 split
 ·rename_i y q
  rw [q] at e
  exact congrArg some e
 ·rename_i q
  rw [q] at e
  have a : es.toList.any (·.refKey) = false := by
   rw [List.any_eq_false]
   intro y hy
   obtain ⟨z, t, hkey⟩ := hk y (Array.mem_toList_iff.mp hy)
   simp [DictEntry.refKey, hkey]
  have a' : ¬ es.toList.any (·.refKey) = true := by rw [a]; exact Bool.false_ne_true
  rw [if_neg a']
  exact congrArg some e
theorem ObjM.look {h : Heap} {x dx C : Addr} {mA : Str -> Option Value} (I : ObjM h x dx C mA) : ∃ od, PySem.W.InstAt h x (PySem.W.instObj C dx) C (some od) /\ ∀ name, PySem.W.lookIn name od = some (mA name) :=
 let ⟨od, ho, hl⟩ := lookIn_ns I.ns
 ⟨od, ⟨I.obj, rfl, rfl, ho⟩, hl⟩
section
variable {prog : Program} {w : World} {A : Around} {E : Value -> Shared -> Prop} {s : Shared} {K : PySem.W.Frag} {x dx C f : Addr} {mA : Str -> Option Value} {name : Str} {v : Value}
theorem set_map {ns : List Str} {Q : Unit -> Shared -> Prop} (X : K.In s.heap) (I : ObjM s.heap x dx C mA)
  (hs : PySem.W.findIn K (.ref C) "__setattr__" = some (some (.builtin "object.__setattr__"))) (hp : PySem.W.plainOver K C = true) (ht : PySem.W.takerIn K C name = some none) (hh : PySem.W.hasDictIn K C = true)
  (hw : PySem.Within mA ns) (hsz : ns.length <= sizeLine)
  (h : ∀ h', ObjM h' x dx C (fun y => if y = name then some v else mA y) -> Heap.SameBut dx s.heap h' -> Q () { s with heap := h', toks := s.toks + 2 }) :
  wpAny (model prog w) A (setAttr (.ref x) name v) Q E s := by
 obtain ⟨od, J, hl⟩ := I.look
 refine PySem.W.set_plain X J hs (PySem.W.osa_open (s := { s with toks := s.toks + 1 }) (r := none) X J hp ht fun b => ?_)
 obtain ⟨cd, hc, hd'⟩ := PySem.W.any_some hh
 have hx : s.heap.get? x = some ⟨.ref C, some dx, .plain, #[]⟩ := I.obj
 refine wpAny_bind (wpAny_pure (wpAny_bind (wpAny_bind (wpAny_loadPart hx (wpAny_bind (PySem.W.Looks.here (s := { s with toks := s.toks + 1 }) (PySem.W.looks_clsIn X hc) ?_))))))
 rw [hd']
 refine wpAny_pure (a := some dx) (wpAny_bind (wpAny_pure (wpAny_bind ?_)))
 refine wpAny_nsSet1 (s := { s with toks := s.toks + 1 }) I.ns fun h' hn2 hs2 => ?_
 obtain ⟨oD, esD, epD, hoD, hdD, hcD⟩ := hn2.count (PySem.Within.cons name v hw)
 refine wpAny_bind (wpAny_lookBehind hoD (by rw [hdD]; exact pastItsLine_dict (Nat.le_trans hcD (by rw [List.length_cons]; omega))) ?_)
 exact wpAny_pure (h _ ⟨(hs2.2 _ (Ne.symm I.ne)).trans I.obj, hn2, I.ne⟩ hs2)
theorem make_map {R : Result -> Shared -> Prop} {vs : List Value} {kw : List (Str × Value)} (X : K.In s.heap) (hm : PySem.W.makesIn K C = true)
  (hi : PySem.W.findIn K (.ref C) "__init__" = some (some (.ref f))) (hf : PySem.W.typeIn K (.ref f) = some (.type "function"))
  (h : codeAny (model prog w) (A.under (.builtin "type.__call__" ⟨.ref C :: vs, kw⟩)) (.call (.ref f) ⟨.ref (s.heap.objs.size + 1) :: vs, kw⟩) (PySem.W.InitBack (s.heap.objs.size + 1) R)
   { s with heap := (s.heap.push PySem.W.emptyDict).push (PySem.W.instObj C s.heap.objs.size) }) :
  codeAny (model prog w) A (.call (.ref C) ⟨vs, kw⟩) R s := by
 obtain ⟨hh, g, d, t, os⟩ := s
 exact PySem.W.make_core (PySem.W.makes_of X hm) (PySem.W.looks_findIn X hi) (fun self => PySem.W.bind_fn X self hf) (.inl rfl) h
end
def putF (f : Str) (v : V) : List (Str × V) -> List (Str × V)
 | [] => [(f, v)]
 | (g, x) :: r => if g = f then (g, v) :: r else (g, x) :: putF f v r
theorem lookup_putF (f g : Str) (v : V) : ∀ fs : List (Str × V), (putF f v fs).lookup g = if g = f then some v else fs.lookup g
 | [] => by
  show List.lookup g [(f, v)] = _
  by_cases h : g = f
  ·have hb : (g == f) = true := beq_iff_eq.mpr h
   simp only [List.lookup, hb, if_pos h]
  ·have hb : (g == f) = false := beq_eq_false_iff_ne.mpr h
   simp only [List.lookup, hb, if_neg h]
 | (k, x) :: r => by
  have ih := lookup_putF f g v r
  rw [show putF f v ((k, x) :: r) = (if k = f then (k, v) :: r else (k, x) :: putF f v r) from rfl]
  by_cases hk : k = f
  ·rw [if_pos hk]
   by_cases h : g = k
   ·have hb : (g == k) = true := beq_iff_eq.mpr h
    simp only [List.lookup, hb, if_pos (h.trans hk)]
   ·have hb : (g == k) = false := beq_eq_false_iff_ne.mpr h
    simp only [List.lookup, hb, if_neg (fun e : g = f => h (e.trans hk.symm))]
  ·rw [if_neg hk]
   by_cases h : g = k
   ·have hb : (g == k) = true := beq_iff_eq.mpr h
    simp only [List.lookup, hb, if_neg (fun e : g = f => hk (h.symm.trans e))]
   ·have hb : (g == k) = false := beq_eq_false_iff_ne.mpr h
    simp only [List.lookup, hb]
    exact ih
theorem keys_putF (f : Str) (v : V) : ∀ fs : List (Str × V), f ∈ (putF f v fs).map (·.1) /\ ∀ g, g ∈ fs.map (·.1) -> g ∈ (putF f v fs).map (·.1)
 | [] => ⟨by simp [putF], fun g h => by simp at h⟩
 | (k, x) :: r => by
  obtain ⟨i1, i2⟩ := keys_putF f v r
  rw [show putF f v ((k, x) :: r) = (if k = f then (k, v) :: r else (k, x) :: putF f v r) from rfl]
  by_cases hk : k = f
  ·rw [if_pos hk]
   subst hk
   exact ⟨by simp, fun g h => by simpa using h⟩
  ·rw [if_neg hk]
   refine ⟨?_, fun g h => ?_⟩
   ·rw [List.map_cons]
    exact List.mem_cons_of_mem _ i1
   ·rw [List.map_cons] at h ⊢
    rcases List.mem_cons.mp h with e | e
    ·exact List.mem_cons.mpr (.inl e)
    ·exact List.mem_cons_of_mem _ (i2 g e)
theorem length_putF (f : Str) (v : V) : ∀ fs : List (Str × V), (putF f v fs).length <= fs.length + 1
 | [] => by simp [putF]
 | (k, x) :: r => by
  have ih := length_putF f v r
  rw [show putF f v ((k, x) :: r) = (if k = f then (k, v) :: r else (k, x) :: putF f v r) from rfl]
  by_cases hk : k = f
  ·rw [if_pos hk, List.length_cons, List.length_cons]; omega
  ·rw [if_neg hk, List.length_cons, List.length_cons]; omega
theorem RelO.some_of {v : V} {o : Option Value} (r : RelO (some v) o) : ∃ u, o = some u /\ RelV v u := by
 cases o with
 | none => exact (show False from r).elim
 | some u => exact ⟨u, rfl, r⟩
section
variable {P : Program} {w : World} {H H' : Hp} {h h' : Heap} {a C dx : Addr} {fs fs' : List (Str × V)}
theorem ins_get (hok : HOk P w H h) (e : H a = some (.ins C dx fs)) : ∃ mA, ObjM h a dx C mA /\ (∀ f, RelO (fs.lookup f) (mA f)) /\ PySem.Within mA (fs.map (·.1)) /\ fs.length <= 1000 /\ H dx = some (.own a) := by
 obtain ⟨d, z, ne, ob, mA, n, r, q⟩ := (show ObjOk P w H h a (.ins C dx fs) from hok a _ e)
 exact ⟨mA, ⟨ob, n, ne⟩, r, q, z, d⟩
end
structure Cls (K : PySem.W.Frag) (C : Addr) : Prop where
 pg : PySem.W.plainGet K C Str.empty = true
 hd : PySem.W.hasDictIn K C = true
 po : PySem.W.plainOver K C = true
 sa : PySem.W.findIn K (.ref C) "__setattr__" = some (some (.builtin "object.__setattr__"))
theorem Cls.get {K : PySem.W.Frag} {C : Addr} (c : Cls K C) (f : Str) : PySem.W.plainGet K C f = true := c.pg
def NoAttr (K : PySem.W.Frag) (C : Addr) (f : Str) : Prop := PySem.W.findIn K (.ref C) f = some none
theorem NoAttr.taker {K : PySem.W.Frag} {C : Addr} {f : Str} (n : NoAttr K C f) : PySem.W.takerIn K C f = some none := by
 unfold PySem.W.takerIn
 rw [show PySem.W.findIn K (.ref C) f = some none from n]
 rfl
section
variable {X : Cx} {pins : List (Addr × Obj)} {σ : St} {H : Hp} {s : Shared} {a C dx : Addr} {fs : List (Str × V)} {f : Str} {v : V} {A : Around} {E : Value -> Shared -> Prop}
theorem setattr_ok {y : V} {u : Value} {Q : Unit -> Shared -> Prop} (I : Inv X pins σ H s) (e : H a = some (.ins C dx fs)) (c : Cls X.K C) (n : NoAttr X.K C f) (hl : fs.length < 1000) (ry : RelV y u)
  (h : ∀ s', Inv X pins σ (upd H a (.ins C dx (putF f y fs))) s' -> Q () s') : wpAny (model X.prog X.w) A (setAttr (.ref a) f u) Q E s := by
 obtain ⟨mA, O, r, wi, _, ho⟩ := ins_get I.hok e
 have hz : (fs.map (·.1)).length <= sizeLine := by rw [List.length_map, sizeLine_eq]; omega
 refine set_map I.kIn O c.sa c.po n.taker c.hd wi hz fun h' O' sb => h _ ?_
 have hd : ∃ o, h'.get? dx = some o := let ⟨o, _, _, e', _⟩ := O'.ns; ⟨o, e'⟩
 refine I.write (x := a) (e := dx) (by rw [e]; exact True.intro) (.inr ho) (fun b q hb z => (sb.2 b hb).trans z) hd ?_
 refine ⟨by rw [upd_ne O.ne]; exact ho, ?_, O.ne, O'.obj, _, O'.ns, fun g => ?_, fun g hg => ?_⟩
 ·have := length_putF f y fs; omega
 ·show RelO ((putF f y fs).lookup g) (if g = f then some u else mA g)
  rw [lookup_putF]
  by_cases q : g = f
  ·rw [if_pos q, if_pos q]; exact ry
  ·rw [if_neg q, if_neg q]; exact r g
 ·by_cases q : g = f
  ·rw [q]; exact (keys_putF f y fs).1
  ·refine (keys_putF f y fs).2 g (wi g fun z => hg ?_)
   show (if g = f then some u else mA g) = none
   rw [if_neg q]; exact z
theorem Inv.made (I : Inv X pins σ H s) : Inv X pins σ (upd (upd H s.heap.objs.size (.own (s.heap.objs.size + 1))) (s.heap.objs.size + 1) (.ins C s.heap.objs.size []))
  { s with heap := (s.heap.push PySem.W.emptyDict).push (PySem.W.instObj C s.heap.objs.size) } := by
 have e1 : (s.heap.push PySem.W.emptyDict).get? s.heap.objs.size = some PySem.W.emptyDict := Heap.get?_push_size s.heap rfl
 have e2 : ((s.heap.push PySem.W.emptyDict).push (PySem.W.instObj C s.heap.objs.size)).get? (s.heap.objs.size + 1) = some (PySem.W.instObj C s.heap.objs.size) := by
  have := Heap.get?_push_size (s.heap.push PySem.W.emptyDict) (o := PySem.W.instObj C s.heap.objs.size) rfl
  rwa [Heap.size_push] at this
 have e3 : (s.heap.push PySem.W.emptyDict).Ns s.heap.objs.size (fun _ => none) := ⟨PySem.W.emptyDict, #[], _, e1, rfl, (fun e he => absurd he (by simp)), fun _ => rfl⟩
 have I1 := I.laid (a := s.heap.objs.size) (o := .own (s.heap.objs.size + 1)) (h' := s.heap.push PySem.W.emptyDict) (t' := s.toks) (fun b u q => Heap.get?_push_of_some _ q) (Nat.le_refl _) ⟨_, e1⟩
 refine I1.laid (a := s.heap.objs.size + 1) (o := .ins C s.heap.objs.size []) (t' := s.toks) (fun b u q => Heap.get?_push_of_some _ q) (Nat.le_of_eq (Heap.size_push _ _)) ?_
 have ne : s.heap.objs.size ≠ s.heap.objs.size + 1 := Nat.ne_of_lt (Nat.lt_succ_self _)
 refine ⟨by rw [upd_ne ne, upd_same], Nat.zero_le _, ne, e2, fun _ => none, (Heap.Ns1.of_empty e3).at fun o q => Heap.get?_push_of_some _ q, fun _ => True.intro, fun y hy => absurd rfl hy⟩
end
def sFld (K : PySem.W.Frag) (ta tv : TE) (f : Str) : TS := fun D σ H => tv σ H fun y H1 => ta σ H1 fun x H2 => ∃ a C dx fs, x = .ref a /\ H2 a = some (.ins C dx fs) /\ Cls K C /\ NoAttr K C f /\ fs.length < 1000 /\
 D.nx σ (upd H2 a (.ins C dx (putF f y fs)))
section
variable {X : Cx} {o e value : Expr} {f : Str} {pos pos' tpos : Pos} {ta tv : TE}
theorem ps_fld (ha : PE X o ta) (hv : PE X value tv) (hs : swapsWith value (some (.Attribute o f pos')) pos.line X.env = pure false) : PS X (.Assign [.Attribute o f pos'] value pos) (sFld X.K ta tv f) := by
 intro pins s σ H D I h
 refine plainObj_wpAny_Assign_Attribute (thn (hv pins s σ H _ I h) fun u s1 ⟨y, H1, I1, ry, q⟩ => thn (ha pins s1 σ H1 _ I1 q) fun ov s2 ⟨x, H2, I2, rx, a, C, dx, fs, ex, ea, c, n, l, q2⟩ => ?_) hs
 subst ex
 obtain rfl : ov = Value.ref a := rx
 exact setattr_ok I2 ea c n l ry fun s3 I3 => ⟨σ, _, I3, q2⟩
end
section
variable {X : Cx} {pins : List (Addr × Obj)} {σ : St} {H : Hp} {s : Shared} {A : Around} {E : Value -> Shared -> Prop} {Q : Value -> Shared -> Prop} {c : Value} {b : Bool}
inductive TyOf (K : PySem.W.Frag) (H : Hp) : V -> Value -> Prop where
 | non : TyOf K H .non (.type "NoneType")
 | bl (x : Bool) : TyOf K H (.bl x) (.type "bool")
 | int (i : Int) : TyOf K H (.int i) (.type "int")
 | str (x : Str) : TyOf K H (.str x) (.type "str")
 | flt (x : UInt64) : TyOf K H (.flt x) (.type "float")
 | lst {a : Addr} {xs : List V} (e : H a = some (.lst xs)) : TyOf K H (.ref a) (.type "list")
 | frz {a : Addr} {o : Obj} {xs : List V} (e : H a = some (.frz o (.lst xs))) : TyOf K H (.ref a) (.type "list")
 | tup {a : Addr} {xs : List V} (e : H a = some (.tup xs)) : TyOf K H (.ref a) (.type "tuple")
 | dK {a : Addr} {kvs : List (Key × V)} (e : H a = some (.dK kvs)) : TyOf K H (.ref a) (.type "dict")
 | dT {a : Addr} {kvs : List (List Key × V)} (e : H a = some (.dT kvs)) : TyOf K H (.ref a) (.type "dict")
 | ins {a C dx : Addr} {fs : List (Str × V)} (e : H a = some (.ins C dx fs)) (cl : Cls K C) (ha : PySem.W.findIn K (.ref C) "__class__" = some (some (.builtin "object.__class__")))
   (hn : PySem.W.specialIn K (.builtin "object.__class__") "__get__" = some (some (.builtin "getset_descriptor.__get__"))) (htk : PySem.W.takesIn K (.builtin "object.__class__") = some true)
   (hm : PySem.W.mroIn K C (.type "object") = some true) : TyOf K H (.ref a) (.ref C)
end
end L2
namespace L2
open PySem PySem.Spec PyProof.Rows
structure Room (k : Nat) (A : Around) : Prop where
 hd : A.handled = none
 dp : A.depth + 3 * k + 5 < recursionLimit
 un : A.units + 16 * k + 200 < cLine
theorem Room.mono {j k : Nat} {A : Around} (r : Room k A) (h : j <= k) : Room j A := ⟨r.hd, by have := r.dp; omega, by have := r.un; omega⟩
theorem Room.deeper {k : Nat} {A : Around} (r : Room (k + 1) A) (env : Env) : Room k (A.deeper env) :=
 ⟨r.hd, by have := r.dp; show A.depth + 1 + 3 * k + 5 < _; omega, by have := r.un; show A.units + 3 + 16 * k + 200 < _; omega⟩
theorem Room.in1 {k : Nat} {A : Around} (r : Room (k + 1) A) : Room k A.in1 :=
 ⟨r.hd, by have := r.dp; show A.depth + 3 * k + 5 < _; omega, by have := r.un; show A.units + 1 + 16 * k + 200 < _; omega⟩
theorem make_depth {A : Around} {C : Addr} {us : List Value} {kw : List (Str × Value)} : (A.under (.builtin "type.__call__" ⟨.ref C :: us, kw⟩)).depth = A.depth + 1 := by
 first | rfl | simp [Around.under, Code.weight, Code.isCreation, Code.isGuard, Code.isCaller, Code.frames, Code.isFrame, guardIds]
theorem make_units {A : Around} {C : Addr} {us : List Value} {kw : List (Str × Value)} : (A.under (.builtin "type.__call__" ⟨.ref C :: us, kw⟩)).units = A.units + 1 := by
 first | rfl | simp [Around.under, Code.cUnits, Code.frames, Code.isFrame]
theorem Room.make {k : Nat} {A : Around} (r : Room (k + 1) A) (C : Addr) (us : List Value) (kw : List (Str × Value)) : Room k (A.under (.builtin "type.__call__" ⟨.ref C :: us, kw⟩)) :=
 ⟨r.hd, by have := r.dp; rw [make_depth]; omega, by have := r.un; rw [make_units]; omega⟩
theorem Room.depth {k : Nat} {A : Around} (r : Room k A) : A.depth < recursionLimit := by have := r.dp; omega
theorem Room.units {k : Nat} {A : Around} (r : Room k A) : A.units + 64 < cLine := by have := r.un; omega
def tNil : TA := fun _ H Q => Q [] H
def tCons (ta : TE) (tr : TA) : TA := fun σ H Q => ta σ H fun x H1 => tr σ H1 fun xs H2 => Q (x :: xs) H2
section
variable {X : Cx} {e : Expr} {es : List Expr} {te : TE} {t : TA} {pos : Pos}
theorem pa_nil : PA X [] tNil := fun _ _ _ _ H Q I h => Calls.spliced_nil ⟨[], H, I, .nil, h⟩
theorem pa_cons (ha : PE X e te) (hr : PA X es t) (hs : starEach (e :: es) X.env = (false, eval e X.env) :: starEach es X.env := by rfl) : PA X (e :: es) (tCons te t) := by
 intro pos pins s σ H Q I h
 rw [hs]
 show wpAny _ _ (spliced ((false, eval e X.env) :: backTo pos (starEach es X.env))) _ _ s
 refine Calls.spliced_cons (thn (ha pins s σ H _ I h) fun u s1 ⟨x, H1, I1, r1, q1⟩ => ?_)
 exact thn (hr pos pins s1 σ H1 _ I1 q1) fun us s2 ⟨xs, H2, I2, r2, q2⟩ => ⟨x :: xs, H2, I2, .cons r1 r2, q2⟩
def tTup (t : TA) : TE := fun σ H Q => t σ H fun xs H1 => xs.length <= sizeLine /\ ∀ p, H1 p = none -> Q (.ref p) (upd H1 p (.tup xs))
def tLst (t : TA) : TE := fun σ H Q => t σ H fun xs H1 => xs.length <= sizeLine /\ ∀ p, H1 p = none -> Q (.ref p) (upd H1 p (.lst xs))
theorem pe_tup {x1} (h : PA X es t) : PE X (.Tuple es x1 pos) (tTup t) := by
 intro pins s σ H Q I hq
 refine wpAny_Tuple_spliced (thn (h pos pins s σ H _ I hq) fun us s1 ⟨xs, H1, I1, r, z, q⟩ => ⟨by rw [<- r.length]; exact z, ?_⟩)
 have hf : H1 s1.heap.objs.size = none := I1.hok.fresh (Nat.le_refl _)
 refine ⟨.ref s1.heap.objs.size, upd H1 s1.heap.objs.size (.tup xs), I1.laid (t' := s1.toks) (fun b u e => Heap.get?_push_of_some _ e) (Nat.le_refl _) ?_, rfl, q _ hf⟩
 exact ⟨z, us, r, ⟨_, Heap.get?_push_size _ rfl, rfl, _, rfl⟩⟩
theorem pe_lst (h : PA X es t) : PE X (.List es pos) (tLst t) := by
 intro pins s σ H Q I hq
 refine wpAny_List_spliced (thn (h pos pins s σ H _ I hq) fun us s1 ⟨xs, H1, I1, r, z, q⟩ => ⟨by rw [<- r.length]; exact z, ?_⟩)
 have hf : H1 s1.heap.objs.size = none := I1.hok.fresh (Nat.le_refl _)
 refine ⟨.ref s1.heap.objs.size, upd H1 s1.heap.objs.size (.lst xs), I1.laid (t' := s1.toks) (fun b u e => Heap.get?_push_of_some _ e) (Nat.le_refl _) ?_, rfl, q _ hf⟩
 exact ⟨z, us, 0, r, Heap.get?_push_size _ rfl⟩
end
abbrev Sp := List V -> Hp -> VK -> XK -> Prop
abbrev CXT := List Env -> Hp -> Shared -> XK -> Value -> Shared -> Prop
structure Env0 (P : Program) (w : World) (K : PySem.W.Frag) (mg : Str -> Option Value) (base : Heap) (A : Around) (outer : List Env) (s : Shared) (H : Hp) : Prop where
 frames : A.frames = some outer
 mod : Mod K mg base
 bs : ∀ b o, base.get? b = some o -> s.heap.get? b = some o /\ H b = none
 bsz : base.objs.size <= s.heap.objs.size
 funs : s.heap.FunFrames base outer
 frf : ∀ b ∈ frs outer, H b = none
 hok : HOk P w H s.heap
 bare : AllBare s.gens
def CE (outer : List Env) (P : Program) (w : World) (H : Hp) (s : Shared) (Q : VK) (u : Value) (s' : Shared) : Prop :=
 ∃ v H', s'.os = s.os /\ AllBare s'.gens /\ Un (frs outer) [] H H' s.heap s'.heap /\ HOk P w H' s'.heap /\ RelV v u /\ Q v H'
def CR (CX : CXT) (outer : List Env) (P : Program) (w : World) (H : Hp) (s : Shared) (Q : VK) (E : XK) (r : Result) (s' : Shared) : Prop :=
 match r with
 | .ok (.ret u) => CE outer P w H s Q u s'
 | .ok _ => False
 | .error e => CX outer H s E e s'
structure FnOk (P : Program) (w : World) (K : PySem.W.Frag) (mg : Str -> Option Value) (base : Heap) (CX : CXT) (k : Nat) (f : Addr) (fd : FuncData) (ps : List Str) (sp : Sp) : Prop where
 len : ∀ vs H Q E, sp vs H Q E -> vs.length = ps.length
 run : ∀ (A : Around) (outer : List Env) (s : Shared) (H : Hp) (args : Args) (us : List Value) (vs : List V) (Q : VK) (E : XK), Room k A -> Env0 P w K mg base A outer s H -> BindsTo s fd args (ps.zip us) -> Vals vs us -> sp vs H Q E ->
  codeAny (model P w) A (.call (.ref f) args) (CR CX outer P w H s Q E) s
theorem FnOk.mono {P : Program} {w : World} {K : PySem.W.Frag} {mg : Str -> Option Value} {base : Heap} {CX : CXT} {j k : Nat} {f : Addr} {fd : FuncData} {ps : List Str} {sp : Sp} (F : FnOk P w K mg base CX j f fd ps sp) (h : j <= k) :
  FnOk P w K mg base CX k f fd ps sp := ⟨F.len, fun A outer s H args us vs Q E hr => F.run A outer s H args us vs Q E (hr.mono h)⟩
theorem Env0.make {P : Program} {w : World} {K : PySem.W.Frag} {mg : Str -> Option Value} {base : Heap} {A : Around} {outer : List Env} {s : Shared} {H : Hp} (e : Env0 P w K mg base A outer s H) (C : Addr) (us : List Value) (kw : List (Str × Value)) :
  Env0 P w K mg base (A.under (.builtin "type.__call__" ⟨.ref C :: us, kw⟩)) outer s H := ⟨by first | exact e.frames | (simpa [Around.under, Code.envs, Code.isFrame, pushEnvs] using e.frames), e.mod, e.bs, e.bsz, e.funs, e.frf, e.hok, e.bare⟩
theorem Env0.in1 {P : Program} {w : World} {K : PySem.W.Frag} {mg : Str -> Option Value} {base : Heap} {A : Around} {outer : List Env} {s : Shared} {H : Hp} (e : Env0 P w K mg base A outer s H) :
  Env0 P w K mg base A.in1 outer s H := ⟨e.frames, e.mod, e.bs, e.bsz, e.funs, e.frf, e.hok, e.bare⟩
section
variable {X : Cx} {pins : List (Addr × Obj)} {σ : St} {H : Hp} {s s' : Shared}
theorem Inv.env0 (I : Inv X pins σ H s) : Env0 X.prog X.w X.K X.mg X.base X.A X.stack s H :=
 ⟨I.ok.frames, I.ok.mod, I.bs, Nat.le_trans I.ok.bsz I.sz, I.stack, I.stkFree, I.hok, I.bare⟩
theorem Inv.after {Q : VK} {u : Value} (I : Inv X pins σ H s) (h : CE X.stack X.prog X.w H s Q u s') : EP X pins σ Q u s' := by
 obtain ⟨v, H', os, bare, un, hok, r, q⟩ := h
 obtain ⟨hh, g, d, t, os'⟩ := s'
 obtain rfl : os' = s.os := os
 exact ⟨v, H', I.call (h' := hh) (g' := g) (d' := d) (t' := t) (ch := []) un hok bare (fun b z => absurd z (by simp)), r, q⟩
end
def tCall (sp : Sp) (dvs : List V) (E : XK) (t : TA) : TE := fun σ H Q => t σ H fun vs H1 => sp (vs ++ dvs) H1 Q E
def tMake (C : Addr) (sp : Sp) (dvs : List V) (E : XK) (t : TA) : TE := fun σ H Q => t σ H fun vs H1 => ∀ x dx, H1 x = none -> H1 dx = none -> dx ≠ x ->
 sp (.ref x :: (vs ++ dvs)) (upd (upd H1 dx (.own x)) x (.ins C dx [])) (fun v H2 => v = .non /\ Q (.ref x) H2) E
def Binds (K : PySem.W.Frag) (fd : FuncData) (ps : List Str) (ds : List Value) : Prop :=
 ∀ (s : Shared) (us : List Value), K.In s.heap -> (us ++ ds).length = ps.length -> BindsTo s fd ⟨us, []⟩ (ps.zip (us ++ ds))
theorem Binds.all {K : PySem.W.Frag} {fd : FuncData} {ps : List Str} (h : ∀ us : List Value, us.length = ps.length -> bindArgs fd ⟨us, []⟩ = pure (ps.zip us)) : Binds K fd ps [] := fun s us _ hl => by
 rw [List.append_nil] at hl ⊢
 exact .of_eq (h us hl)
def Passes (CX : CXT) (X : Cx) (E : XK) : Prop := ∀ (pins : List (Addr × Obj)) (σ : St) (H : Hp) (s : Shared) (e : Value) (s' : Shared), Inv X pins σ H s -> CX X.stack H s E e s' -> X.xe e s'
section
variable {X : Cx} {CX : CXT} {k : Nat} {f C : Addr} {fd : FuncData} {ps : List Str} {sp : Sp} {dvs : List V} {ds : List Value} {E : XK} {x m : Str} {p pos apos : Pos} {e o : Expr} {es : List Expr} {ta : TE} {t : TA}
theorem run_fn {pins : List (Addr × Obj)} {σ : St} {H : Hp} {s : Shared} {Q : VK} {us : List Value} {vs : List V} (F : FnOk X.prog X.w X.K X.mg X.base CX k f fd ps sp) (hr : Room k X.A) (hb : Binds X.K fd ps ds) (hd : Vals dvs ds) (hx : Passes CX X E)
  (I : Inv X pins σ H s) (r : Vals vs us) (h : sp (vs ++ dvs) H Q E) : wpAny (model X.prog X.w) X.A (call (.ref f) us) (EP X pins σ Q) X.xe s := by
 have r2 : Vals (vs ++ dvs) (us ++ ds) := r.append hd
 have hl : (us ++ ds).length = ps.length := by rw [<- r2.length]; exact F.len _ _ _ _ h
 refine wpAny_call (codeAny_mono (F.run X.A X.stack s H ⟨us, []⟩ (us ++ ds) (vs ++ dvs) Q E hr I.env0 (hb s us I.kIn hl) r2 h) fun r s' hq => ?_)
 cases r with
 | error e => exact hx pins σ H s e s' I hq
 | ok fl =>
  cases fl with
  | ret u => exact I.after hq
  | next => exact False.elim hq
  | brk => exact False.elim hq
  | cont => exact False.elim hq
theorem pe_call (F : FnOk X.prog X.w X.K X.mg X.base CX k f fd ps sp) (hr : Room k X.A) (hg : Gl X x) (hm : X.mg x = some (.ref f)) (hk : PySem.W.keepIn X.K (.ref f) = true) (hb : Binds X.K fd ps ds) (hd : Vals dvs ds) (hx : Passes CX X E)
  (ha : PA X (e :: es) t) (hdb : (x == ("__debug__" : Str)) = false := by decide) (he : starEach (e :: es) X.env = (false, eval e X.env) :: starEach es X.env := by rfl) (hpl : (backTo pos (starEach es X.env)).any (·.1) = false := by rfl) :
  PE X (.Call (.Name x p) (e :: es) [] pos) (tCall sp dvs E t) := by
 intro pins s σ H Q I h
 refine wpAny_Call_Name_kw (ld_glob I hg hm ?_ hdb)
 refine PySem.W.callWith_K (h₀ := X.base) I.ok.mod.kin hk (thn (ha pos pins s σ H _ I h) fun us s1 ⟨vs, H1, I1, r, q⟩ => ⟨I1.kIn, ?_⟩) he hpl
 exact run_fn F hr hb hd hx I1 r q
structure Mk (K : PySem.W.Frag) (C f : Addr) : Prop where
 makes : PySem.W.makesIn K C = true
 init : PySem.W.findIn K (.ref C) "__init__" = some (some (.ref f))
 fn : PySem.W.isFn K (.ref f) = true
 kp : PySem.W.keepIn K (.ref C) = true
theorem run_make {pins : List (Addr × Obj)} {σ : St} {H : Hp} {s : Shared} {Q : VK} {us : List Value} {vs : List V} (M : Mk X.K C f) (F : FnOk X.prog X.w X.K X.mg X.base CX k f fd ps sp) (hr : Room (k + 1) X.A) (hb : Binds X.K fd ps ds) (hd : Vals dvs ds)
  (hx : Passes CX X E) (I : Inv X pins σ H s) (r : Vals vs us)
  (h : ∀ x dx, H x = none -> H dx = none -> dx ≠ x -> sp (.ref x :: (vs ++ dvs)) (upd (upd H dx (.own x)) x (.ins C dx [])) (fun v H2 => v = .non /\ Q (.ref x) H2) E) :
  wpAny (model X.prog X.w) X.A (call (.ref C) us) (EP X pins σ Q) X.xe s := by
 have hq := h (s.heap.objs.size + 1) s.heap.objs.size (I.hok.fresh (Nat.le_succ _)) (I.hok.fresh (Nat.le_refl _)) (Nat.ne_of_lt (Nat.lt_succ_self _))
 have I2 := Inv.made (C := C) I
 have r2 : Vals (V.ref (s.heap.objs.size + 1) :: (vs ++ dvs)) (Value.ref (s.heap.objs.size + 1) :: (us ++ ds)) := .cons rfl (r.append hd)
 have hl : (Value.ref (s.heap.objs.size + 1) :: us ++ ds).length = ps.length := by
  have e := r2.length
  rw [F.len _ _ _ _ hq] at e
  exact e.symm
 refine wpAny_call (make_map (f := f) I.kIn M.makes M.init (beq_iff_eq.mp M.fn) (codeAny_mono (F.run _ X.stack _ _ ⟨Value.ref (s.heap.objs.size + 1) :: us, []⟩ (Value.ref (s.heap.objs.size + 1) :: (us ++ ds)) _ _ E (hr.make C us [])
  (I2.env0.make C us []) (hb _ (Value.ref (s.heap.objs.size + 1) :: us) I2.kIn hl) r2 hq) fun r s' hq' => ?_))
 cases r with
 | error e => exact hx pins σ _ _ e s' I2 hq'
 | ok fl =>
  cases fl with
  | ret u =>
   obtain ⟨v, H', I3, rv, ev, q3⟩ := I2.after hq'
   subst ev
   exact ⟨rv, ⟨V.ref (s.heap.objs.size + 1), H', I3, rfl, q3⟩⟩
  | next => exact False.elim hq'
  | brk => exact False.elim hq'
  | cont => exact False.elim hq'
theorem pe_make (M : Mk X.K C f) (F : FnOk X.prog X.w X.K X.mg X.base CX k f fd ps sp) (hr : Room (k + 1) X.A) (hg : Gl X x) (hm : X.mg x = some (.ref C)) (hb : Binds X.K fd ps ds) (hd : Vals dvs ds) (hx : Passes CX X E)
  (ha : PA X (e :: es) t) (hdb : (x == ("__debug__" : Str)) = false := by decide) (he : starEach (e :: es) X.env = (false, eval e X.env) :: starEach es X.env := by rfl) (hpl : (backTo pos (starEach es X.env)).any (·.1) = false := by rfl) :
  PE X (.Call (.Name x p) (e :: es) [] pos) (tMake C sp dvs E t) := by
 intro pins s σ H Q I h
 refine wpAny_Call_Name_kw (ld_glob I hg hm ?_ hdb)
 refine PySem.W.callWith_K (h₀ := X.base) I.ok.mod.kin M.kp (thn (ha pos pins s σ H _ I h) fun us s1 ⟨vs, H1, I1, r, q⟩ => ⟨I1.kIn, ?_⟩) he hpl
 exact run_make M F hr hb hd hx I1 r q
end
section
variable {X : Cx} {CX : CXT} {k : Nat} {f C : Addr} {fd : FuncData} {ps ks : List Str} {sp : Sp} {E : XK} {x m : Str} {p pos apos kpos : Pos} {e o : Expr} {es : List Expr} {kws : List Keyword} {te ta : TE} {t tk : TA} {nm : Option Str}
variable {g : List Value -> List Value -> List Value} {gV : List V -> List V -> List V}
end
structure FnScope (N P : List Str) (sc : Scope) : Prop where
 kind : sc.kind = .function
 co : sc.isCoroutine = false
 gen : sc.isGenerator = false
 nd : N.Nodup
 pre : N.take P.length = P
 par : ∀ x ∈ P, sc.names.lookup x = some .local \/ sc.names.lookup x = some .cell
 nofree : ∀ y ∈ sc.names, y.2 ≠ .free
theorem bindL_out {kindOf : Str -> Option NameKind} {x : Str} : ∀ {binds : List (Str × Value)} {m : Str -> Option Value}, (∀ v, (x, v) ∉ binds) -> bindL kindOf binds m x = m x
 | [], _, _ => rfl
 | (n, v) :: r, m, h => by
  unfold bindL
  rw [bindL_out fun w hw => h w (List.mem_cons_of_mem _ hw)]
  split
  ·have : x ≠ n := by rintro rfl; exact h v List.mem_cons_self
   simp [this]
  ·rfl
theorem bindC_out {kindOf : Str -> Option NameKind} {x : Str} : ∀ {binds : List (Str × Value)} {m : Str -> Option Value}, (∀ v, (x, v) ∉ binds) -> bindC kindOf binds m x = m x
 | [], _, _ => rfl
 | (n, v) :: r, m, h => by
  unfold bindC
  rw [bindC_out fun w hw => h w (List.mem_cons_of_mem _ hw)]
  split
  ·rfl
  ·have : x ≠ n := by rintro rfl; exact h v List.mem_cons_self
   simp [this]
theorem bindL_get {kindOf : Str -> Option NameKind} {x : Str} {v : Value} : ∀ {P : List Str} {vs : List Value} {i : Nat} {m : Str -> Option Value}, P.Nodup -> P[i]? = some x -> vs[i]? = some v -> kindOf x = some .local ->
  bindL kindOf (P.zip vs) m x = some v
 | [], _, _, _, _, h, _, _ => by simp at h
 | _ :: _, [], _, _, _, _, h, _ => by simp at h
 | p :: P, w :: vs, 0, m, nd, h1, h2, hk => by
  simp at h1 h2; subst h1; subst h2
  show bindL kindOf ((p, w) :: P.zip vs) m p = _
  unfold bindL
  rw [bindL_out fun v hv => (List.nodup_cons.mp nd).1 (List.of_mem_zip hv).1, if_pos hk]
  simp
 | p :: P, w :: vs, i + 1, m, nd, h1, h2, hk => by
  show bindL kindOf ((p, w) :: P.zip vs) m x = _
  unfold bindL
  exact bindL_get (i := i) (List.nodup_cons.mp nd).2 (by simpa using h1) (by simpa using h2) hk
theorem bindC_get {kindOf : Str -> Option NameKind} {x : Str} {v : Value} : ∀ {P : List Str} {vs : List Value} {i : Nat} {m : Str -> Option Value}, P.Nodup -> P[i]? = some x -> vs[i]? = some v -> kindOf x ≠ some .local ->
  bindC kindOf (P.zip vs) m x = some v
 | [], _, _, _, _, h, _, _ => by simp at h
 | _ :: _, [], _, _, _, _, h, _ => by simp at h
 | p :: P, w :: vs, 0, m, nd, h1, h2, hk => by
  simp at h1 h2; subst h1; subst h2
  show bindC kindOf ((p, w) :: P.zip vs) m p = _
  unfold bindC
  rw [bindC_out fun v hv => (List.nodup_cons.mp nd).1 (List.of_mem_zip hv).1, if_neg hk]
  simp
 | p :: P, w :: vs, i + 1, m, nd, h1, h2, hk => by
  show bindC kindOf ((p, w) :: P.zip vs) m x = _
  unfold bindC
  exact bindC_get (i := i) (List.nodup_cons.mp nd).2 (by simpa using h1) (by simpa using h2) hk
def start (N : List Str) (vs : List V) : St := vs.map some ++ List.replicate (N.length - vs.length) none
def cxOf (CX : CXT) (P : Program) (w : World) (K : PySem.W.Frag) (mg : Str -> Option Value) (base : Heap) (N : List Str) (qual : Str) (scope : Scope) (f : Addr) (cd : Value) (A : Around) (outer : List Env) (s : Shared) (H : Hp) (E : XK) : Cx where
 prog := P
 w := w
 K := K
 mg := mg
 base := base
 A := A.deeper (envOfC qual scope s.heap.objs.size f cd)
 N := N
 s₀ := s
 H₀ := H
 env := envOfC qual scope s.heap.objs.size f cd
 outer := outer
 stack := envOfC qual scope s.heap.objs.size f cd :: outer
 ex := []
 calm := true
 fn := fun _ => true
 pn := []
 xe := fun e s' => wpAny (model P w) (A.deeper (envOfC qual scope s.heap.objs.size f cd)) (leaving (envOfC qual scope s.heap.objs.size f cd) e) (fun _ s'' => CX outer H s E e s'') (fun e' s'' => CX outer H s E e' s'') s'
theorem cell_has {sc : Scope} {n : Nat} {x : Str} (h : sc.names.lookup x = some .cell) : ∃ c, (cellsFrom n sc.names []).lookup x = some c := by
 have q := PySem.W.cellsFrom_some sc.names n [] (.inl h)
 exact Option.isSome_iff_exists.mp q
theorem inv_start {CX : CXT} {P : Program} {w : World} {K : PySem.W.Frag} {mg : Str -> Option Value} {base : Heap} {N ps : List Str} {qual : Str} {scope : Scope} {f : Addr} {cd : Value} {A : Around} {outer : List Env} {s s1 : Shared} {H : Hp} {E : XK} {us : List Value} {vs : List V}
  (S : FnScope N ps scope) (hd : A.handled = none) (e0 : Env0 P w K mg base A outer s H) (hl : vs.length = ps.length) (r : Vals vs us)
  (x : InCallC s s.heap.objs.size (bindL (envOfC qual scope s.heap.objs.size f cd).kindOf (ps.zip us) fun _ => none) (cellsFrom (s.heap.objs.size + 1) scope.names []) (bindC (envOfC qual scope s.heap.objs.size f cd).kindOf (ps.zip us) fun _ => none) s1) :
  Inv (cxOf CX P w K mg base N qual scope f cd A outer s H E) [] (start N vs) H s1 := by
 have hpl : ps.length <= N.length := by have := congrArg List.length S.pre; rw [List.length_take] at this; omega
 obtain ⟨h1, tk, rfl, hk⟩ := x.done
 have noA : ∀ b : Addr, b ∉ (cxOf CX P w K mg base N qual scope f cd A outer s H E).ex := fun b z => absurd (show b ∈ ([] : List Addr) from z) (by simp)
 refine ⟨⟨e0.mod, S.kind, rfl, rfl, Nat.le_refl _, fun y z c h1 h2 => ?_, fun y hy => ?_, fun y c _ h => ?_, fun _ => hd, Around.frames_deeper e0.frames, .inr ⟨rfl, rfl⟩, fun b z => absurd z (noA b), e0.bs, e0.bsz, fun b _ _ => noA b, fun b z => absurd z (noA b), e0.funs, e0.frf⟩,
  rfl, e0.bare, Un.kept hk, ⟨_, x.toInCall.ns, fun i y v h1 h2 h3 => ?_⟩, fun y c h => ⟨_, x.cell y c h⟩, e0.hok.fresh (Nat.le_refl _), fun y c h => ?_, fun p hp => absurd (show p ∈ ([] : List (Addr × Obj)) from hp) (by simp), e0.hok.kept hk, ?_⟩
 ·exact name_of_addr x.apart (PySem.mem_of_lookup h1) (PySem.mem_of_lookup h2)
 ·have hy : scope.names.lookup y = some .cell \/ scope.names.lookup y = some .free := hy
  rcases hy with hy | hy
  ·exact cell_has hy
  ·exact absurd rfl (S.nofree _ (PySem.mem_of_lookup hy))
 ·exact Nat.le_of_lt (x.above y c (PySem.mem_of_lookup h))
 ·have hi : i < vs.length := by
   unfold start at h2
   by_cases hi : i < vs.length
   ·exact hi
   ·rw [List.getElem?_append_right (by simpa using hi)] at h2
    rw [List.getElem?_replicate] at h2
    split at h2 <;> cases h2
  have ha : vs[i]? = some v := by
   unfold start at h2
   rw [List.getElem?_append_left (by simpa using hi), List.getElem?_map] at h2
   cases e : vs[i]? with
   | none => rw [e] at h2; cases h2
   | some a => rw [e] at h2; cases h2; rfl
  obtain ⟨u, hu, rv⟩ := r.get ha
  have hp : ps[i]? = some y := by
   rw [<- S.pre, List.getElem?_take_of_lt (by omega)]; exact h1
  have ndP : ps.Nodup := by rw [<- S.pre]; exact S.nd.sublist (List.take_sublist _ _)
  refine ⟨u, rv, ?_⟩
  rcases S.par y (List.mem_of_getElem? hp) with k | k
  ·exact .inl ⟨k, bindL_get ndP hp hu k⟩
  ·obtain ⟨c, e⟩ := cell_has (n := s.heap.objs.size + 1) k
   refine .inr ⟨.inl k, c, e, ?_⟩
   have q := x.cell y c e
   rw [bindC_get ndP hp hu (by show scope.names.lookup y ≠ _; rw [k]; decide)] at q
   exact q
 ·exact e0.hok.fresh (Nat.le_of_lt (x.above y c (PySem.mem_of_lookup h)))
 ·unfold start
  show _ = N.length
  rw [List.length_append, List.length_map, List.length_replicate]
  omega
theorem fn_of {CX : CXT} {P : Program} {w : World} {K : PySem.W.Frag} {mg : Str -> Option Value} {base : Heap} {k : Nat} {f : Addr} {name qual : Str} {params : Arguments} {body : List Stmt} {scope : Scope} {dV kV doc pm cdv ct oc : Value} {an od : Option Addr}
  {osl : Array (Option Value)} {N ps : List Str} {sp : Sp} (lk : K.lookup f = some ⟨oc, od, .func (PySem.W.fnOf name qual params body scope dV kV doc pm an cdv ct), osl⟩) (hcd : PySem.W.codeIn K cdv qual = true) (S : FnScope N ps scope)
  (len : ∀ vs H Q E, sp vs H Q E -> vs.length = ps.length)
  (hbody : ∀ (A : Around) (outer : List Env) (s : Shared) (H : Hp) (vs : List V) (Q : VK) (E : XK), Room k (A.deeper (envOfC qual scope s.heap.objs.size f cdv)) -> sp vs H Q E ->
   ∃ t, PSs (cxOf CX P w K mg base N qual scope f cdv A outer s H E) body t /\ t { nx := fun _ H' => Q .non H', rt := Q } (start N vs) H) :
  FnOk P w K mg base CX (k + 1) f (PySem.W.fnOf name qual params body scope dV kV doc pm an cdv ct) ps sp := by
 refine ⟨len, fun A outer s H args us vs Q E hr e0 hb r hsp => ?_⟩
 have hl := len _ _ _ _ hsp
 have KX : K.In s.heap := e0.mod.kin.keeps fun b o e => (e0.bs b o e).1
 have lim : s.heap.NoLimit := e0.mod.nolimit.keeps fun b o e => (e0.bs b o e).1
 have hkind : ∀ y ∈ ps.zip us, scope.names.lookup y.1 = some .local \/ (scope.names.lookup y.1 = some .cell /\ ((cellsFrom (s.heap.objs.size + 1) scope.names []).lookup y.1).isSome = true) := fun ⟨n, v⟩ hy => by
  rcases S.par n (List.of_mem_zip hy).1 with q | q
  ·exact .inl q
  ·exact .inr ⟨q, PySem.W.cellsFrom_some _ _ _ (.inl q)⟩
 refine codeAny_call_function hr.depth (KX _ _ lk) rfl S.co S.gen rfl (PySem.W.codeRec_of KX hcd) (hb _ _ _ _ ?_)
 refine wpAny_newFunctionEnv_cells S.kind hkind fun env he s1 x => ?_
 subst he
 refine ⟨lim.keeps x.toInCall.keep, codeAny_func ?_⟩
 obtain ⟨t, ht, hq⟩ := hbody A outer s H vs Q E (hr.deeper _) hsp
 have I : Inv (cxOf CX P w K mg base N qual scope f cdv A outer s H E) [] (start N vs) H s1 := inv_start S hr.hd e0 hl r x
 refine wpAny_mono (ht [] s1 (start N vs) H _ I hq) (fun fl s' hs => ?_) fun e s' hs => hs
 have fin : ∀ {σ' : St} {H' : Hp} {v : V} {u : Value}, Inv (cxOf CX P w K mg base N qual scope f cdv A outer s H E) [] σ' H' s' -> RelV v u -> Q v H' -> CE outer P w H s Q u s' :=
  fun {σ' H' v u} J rv q => ⟨v, H', J.os, J.bare, J.base, J.hok, rv, q⟩
 cases fl with
 | ret u =>
  obtain ⟨v, σ', H', J, rv, q⟩ := hs
  exact fin J rv q
 | next =>
  obtain ⟨σ', H', J, q⟩ := hs
  exact fin (v := V.non) (u := Value.none) J rfl q
 | brk =>
  obtain ⟨_, _, _, q⟩ := hs
  exact False.elim q
 | cont =>
  obtain ⟨_, _, _, q⟩ := hs
  exact False.elim q
end L2
namespace L2
open PySem PySem.Spec PyProof.Rows
section
variable {X : Cx} {x : Str} {p pos : Pos} {e : Expr} {es : List Expr} {t : TA} {id T : String} {r : List V -> Hp -> VK -> Prop}
def tCB (r : List V -> Hp -> VK -> Prop) (t : TA) : TE := fun σ H Q => t σ H fun vs H1 => r vs H1 Q
theorem pe_callB (hc : CallR X (.builtin id) r) (hg : Gl X x) (hm : X.mg x = none) (hv : bootBuiltins x = some (.builtin id)) (ha : PA X (e :: es) t) (hn : x ≠ "__name__" := by decide) (hdb : (x == ("__debug__" : Str)) = false := by decide)
  (he : starEach (e :: es) X.env = (false, eval e X.env) :: starEach es X.env := by rfl) (hpl : (backTo pos (starEach es X.env)).any (·.1) = false := by rfl) : PE X (.Call (.Name x p) (e :: es) [] pos) (tCB r t) := by
 intro pins s σ H Q I h
 refine wpAny_Call_Name_kw (ld_blt I hg hm hv ?_ hn hdb)
 exact PyProof.Rows.callWith_builtin1 (thn (ha pos pins s σ H _ I h) fun us s1 ⟨vs, H1, I1, r1, q1⟩ => hc pins s1 σ H1 vs us Q I1 r1 q1) he hpl
theorem pe_callTy (hc : CallR X (.type T) r) (hg : Gl X x) (hm : X.mg x = none) (hv : bootBuiltins x = some (.type T)) (ha : PA X (e :: es) t) (hn : x ≠ "__name__" := by decide) (hdb : (x == ("__debug__" : Str)) = false := by decide)
  (he : starEach (e :: es) X.env = (false, eval e X.env) :: starEach es X.env := by rfl) (hpl : (backTo pos (starEach es X.env)).any (·.1) = false := by rfl) : PE X (.Call (.Name x p) (e :: es) [] pos) (tCB r t) := by
 intro pins s σ H Q I h
 refine wpAny_Call_Name_kw (ld_blt I hg hm hv ?_ hn hdb)
 exact PyProof.Rows.callWith_type1 (thn (ha pos pins s σ H _ I h) fun us s1 ⟨vs, H1, I1, r1, q1⟩ => hc pins s1 σ H1 vs us Q I1 r1 q1) he hpl
end
end L2
namespace HT
open PySem PyProof.Rows
section
open PySem.SeqAt
open PySem.AutoSeq1 (wpAny_loadPart')
open PySem.MeetsSeq PySem.MeetsSeq2 PySem.MeetsSeq3
end
section
variable {prog : Program} {w : World} {A : Around} {E : Value -> Shared -> Prop} {s : Shared}
def sIx (n d : Nat) : Option Int -> Nat
 | none => d
 | some v => if v < 0 then (v + (n : Int)).toNat else min v.toNat n
end
end HT
namespace L2
open PySem PySem.Spec PyProof.Rows
abbrev TO := St -> Hp -> (Option Int -> Hp -> Prop) -> Prop
def PO (X : Cx) (e : Option Expr) (t : TO) : Prop :=
 ∀ (pins : List (Addr × Obj)) (s : Shared) (σ : St) (H : Hp) (Q : Option Int -> Hp -> Prop), Inv X pins σ H s -> t σ H Q ->
  wpAny (model X.prog X.w) X.A (evalPart e X.env) (fun u s' => ∃ o H', Inv X pins σ H' s' /\ IsPart u o /\ Q o H') X.xe s
def tNoPart : TO := fun _ H Q => Q none H
def tPart (t : TE) : TO := fun σ H Q => t σ H fun x H1 => ∃ i, x = .int i /\ Q (some i) H1
section
variable {X : Cx} {e : Expr} {te : TE} {lo hi : Option Expr} {tl th : TO} {pos p2 : Pos}
theorem po_none : PO X none tNoPart := by
 intro pins s σ H Q I h
 rw [evalPart_none]
 exact wpAny_pure ⟨none, H, I, .none, h⟩
theorem po_some (h : PE X e te) : PO X (some e) (tPart te) := by
 intro pins s σ H Q I hw
 rw [evalPart_some]
 refine thn (h pins s σ H _ I hw) fun u s1 ⟨x, H1, I1, r1, q1⟩ => ?_
 obtain ⟨i, rfl, q⟩ := q1
 obtain ⟨t, rfl⟩ := r1
 exact ⟨some i, H1, I1, .int i t, q⟩
def SlR (X : Cx) (r : V -> Option Int -> Option Int -> Hp -> VK -> Prop) : Prop :=
 ∀ (pins : List (Addr × Obj)) (s : Shared) (σ : St) (H : Hp) (x : V) (v vl vu : Value) (lo hi : Option Int) (sl : Addr) (Q : VK), Inv X pins σ H s -> RelV x v -> s.heap.IsSliceOf sl vl vu .none -> IsPart vl lo -> IsPart vu hi -> r x lo hi H Q ->
  ∃ T id, typeLookup (.type T) "__getitem__" = pure (some (.builtin id)) /\ s.TypeIs v T /\ wpAny (model X.prog X.w) X.A (getItem v (.ref sl)) (EP X pins σ Q) X.xe s
theorem SlR.or {r r' : V -> Option Int -> Option Int -> Hp -> VK -> Prop} (h : SlR X r) (h' : SlR X r') : SlR X (fun x lo hi H Q => r x lo hi H Q \/ r' x lo hi H Q) := by
 intro pins s σ H x v vl vu lo hi sl Q I rx hs pl pu q
 rcases q with q | q
 ·exact h pins s σ H x v vl vu lo hi sl Q I rx hs pl pu q
 ·exact h' pins s σ H x v vl vu lo hi sl Q I rx hs pl pu q
def tSl (r : V -> Option Int -> Option Int -> Hp -> VK -> Prop) (te : TE) (tl th : TO) : TE := fun σ H Q => te σ H fun x H1 => tl σ H1 fun l H2 => th σ H2 fun u H3 => r x l u H3 Q
theorem pe_slice {r : V -> Option Int -> Option Int -> Hp -> VK -> Prop} (hr : SlR X r) (he : PE X e te) (hl : PO X lo tl) (hu : PO X hi th) : PE X (.Subscript e (.Slice lo hi none p2) pos) (tSl r te tl th) := by
 intro pins s σ H Q I h
 refine Subscript_ (thn (he pins s σ H _ I h) fun v s1 ⟨x, H1, I1, r1, q1⟩ => ?_)
 refine wpAny_Slice (thn (hl pins s1 σ H1 _ I1 q1) fun vl s2 ⟨l, H2, I2, pl, q2⟩ => thn (hu pins s2 σ H2 _ I2 q2) fun vu s3 ⟨u, H3, I3, pu, q3⟩ => ?_)
 rw [evalPart_none]
 refine wpAny_pure ?_
 have I4 : Inv X pins σ H3 { s3 with heap := s3.heap.push { cls := .type "slice", data := .fields #[vl, vu, .none] } } := I3.kept (t' := s3.toks) fun b ob q => Heap.get?_push_of_some _ q
 obtain ⟨T, id, hT, ht, hg⟩ := hr pins { s3 with heap := s3.heap.push { cls := .type "slice", data := .fields #[vl, vu, .none] } } σ H3 x v vl vu l u s3.heap.objs.size Q I4 r1 (Heap.IsSliceOf.new ..) pl pu q3
 show wpAny (model X.prog X.w) X.A (subscriptTail e (.Slice lo hi none p2) v (.ref s3.heap.objs.size)) (EP X pins σ Q) X.xe { s3 with heap := s3.heap.push { cls := .type "slice", data := .fields #[vl, vu, .none] } }
 exact tail_any (ops := [.ref s3.heap.objs.size, v]) ht hT hg (by with_unfolding_all rfl)
def cutV (xs : List V) (lo hi : Option Int) : List V := (xs.drop (HT.sIx xs.length 0 lo)).take (HT.sIx xs.length xs.length hi - HT.sIx xs.length 0 lo)
theorem cutV_length (xs : List V) (lo hi : Option Int) : (cutV xs lo hi).length <= xs.length := by
 unfold cutV
 rw [List.length_take, List.length_drop]
 omega
end
end L2
namespace L2
open PySem PySem.Spec PyProof.Rows
def ixN (n : Nat) (i : Int) : Option Nat := if 0 <= i then (if i < n then some i.toNat else none) else if -(n : Int) <= i then some (i + n).toNat else none
def atI {α : Type} (xs : List α) (i : Int) : Option α := (ixN xs.length i).bind fun j => xs[j]?
theorem ixN_seq {n : Nat} {i : Int} {j : Nat} (h : ixN n i = some j) : seqIndex? i n = some j /\ j < n /\ -(n : Int) <= i /\ i < n := by
 unfold ixN at h
 by_cases h0 : 0 <= i
 ·rw [if_pos h0] at h
  by_cases h1 : i < n
  ·rw [if_pos h1] at h
   have e : i.toNat = j := Option.some.inj h
   exact ⟨by rw [seqIndex_of h0 h1, e], by omega, by omega, h1⟩
  ·rw [if_neg h1] at h; cases h
 ·rw [if_neg h0] at h
  by_cases h1 : -(n : Int) <= i
  ·rw [if_pos h1] at h
   have e : (i + n).toNat = j := Option.some.inj h
   exact ⟨by rw [seqIndex_neg (by omega) h1, e], by omega, h1, by omega⟩
  ·rw [if_neg h1] at h; cases h
theorem atI_get {α : Type} {xs : List α} {i : Int} {v : α} (h : atI xs i = some v) : ∃ j, seqIndex? i xs.length = some j /\ xs[j]? = some v /\ j < xs.length /\ -(xs.length : Int) <= i /\ i < xs.length := by
 unfold atI at h
 cases e : ixN xs.length i with
 | none => rw [e] at h; cases h
 | some j =>
  rw [e] at h
  obtain ⟨h1, h2, h3, h4⟩ := ixN_seq e
  exact ⟨j, h1, h, h2, h3, h4⟩
theorem atI_nat {α : Type} {xs : List α} {j : Nat} {v : α} (h : xs[j]? = some v) : atI xs (j : Int) = some v := by
 have hj : j < xs.length := (List.getElem?_eq_some_iff.mp h).1
 have e : ixN xs.length (j : Int) = some j := by
  unfold ixN
  rw [if_pos (by omega), if_pos (by omega)]; simp
 unfold atI; rw [e]; exact h
def PlainIx (b : Expr) : Prop := ∀ o i, subscripted b false o i = operate [o, i] (getItem o i)
def IxR (X : Cx) (r : R2) : Prop :=
 ∀ (value slice : Expr) (pins : List (Addr × Obj)) (s : Shared) (σ : St) (H : Hp) (x y : V) (v u : Value) (Q : VK), Inv X pins σ H s -> RelV x v -> RelV y u -> r x y H Q ->
  subscripted slice false v u = operate [v, u] (getItem v u) -> wpAny (model X.prog X.w) X.A (subscriptTail value slice v u) (EP X pins σ Q) X.xe s
def MtR (X : Cx) (id : String) (r : V -> List V -> Hp -> VK -> Prop) : Prop :=
 ∀ (pins : List (Addr × Obj)) (s : Shared) (σ : St) (H : Hp) (x : V) (xs : List V) (v : Value) (us : List Value) (Q : VK), Inv X pins σ H s -> RelV x v -> Vals xs us -> r x xs H Q ->
  wpAny (model X.prog X.w) X.A (call (.builtin id) (v :: us)) (EP X pins σ Q) X.xe s
section
variable {X : Cx} {a b : Expr} {ta tb : TE} {pos : Pos}
theorem IxR.or {r r' : R2} (h : IxR X r) (h' : IxR X r') : IxR X (fun x y H Q => r x y H Q \/ r' x y H Q) := by
 intro value slice pins s σ H x y v u Q I rx ry q hs
 rcases q with q | q
 ·exact h value slice pins s σ H x y v u Q I rx ry q hs
 ·exact h' value slice pins s σ H x y v u Q I rx ry q hs
theorem MtR.or {id : String} {r r' : V -> List V -> Hp -> VK -> Prop} (h : MtR X id r) (h' : MtR X id r') : MtR X id (fun x xs H Q => r x xs H Q \/ r' x xs H Q) := by
 intro pins s σ H x xs v us Q I rx rs q
 rcases q with q | q
 ·exact h pins s σ H x xs v us Q I rx rs q
 ·exact h' pins s σ H x xs v us Q I rx rs q
theorem pe_ix {r : R2} (hr : IxR X r) (ha : PE X a ta) (hb : PE X b tb) (hs : PlainIx b) : PE X (.Subscript a b pos) (tOp r ta tb) := by
 intro pins s σ H Q I h
 exact Subscript_ (binT ha hb I h fun v u s2 x y H2 I2 rx ry q => hr a b pins s2 σ H2 x y v u Q I2 rx ry q (hs _ _))
def rIxL (K : PySem.W.Frag) : R2 := fun x y H Q => ∃ p xs i v, x = .ref p /\ y = .int i /\ SqL K H p xs /\ atI xs i = some v /\ Q v H
def rIxT (K : PySem.W.Frag) : R2 := fun x y H Q => ∃ p xs i v, x = .ref p /\ y = .int i /\ SqT K H p xs /\ atI xs i = some v /\ Q v H
def rIxS : R2 := fun x y H Q => ∃ z i c, x = .str z /\ y = .int i /\ z.length <= sizeLine /\ atI z.cps.toList i = some c /\ Q (.str ⟨#[c]⟩) H
theorem ix_list : IxR X (rIxL X.K) := by
 intro value slice pins s σ H x y v u Q I rx ry h hs
 obtain ⟨p, xs, i, z, rfl, rfl, hq, he, q⟩ := h
 cases rx
 obtain ⟨t, rfl⟩ := ry
 obtain ⟨its, r, pl, hz⟩ := I.list hq
 obtain ⟨j, h1, h2, h3, h4, h5⟩ := atI_get he
 obtain ⟨w, ew, rw'⟩ := r.get h2
 have hl := r.length
 have hn := line63
 have fin : EP X pins σ Q w s := ⟨z, H, I, rw', q⟩
 by_cases h0 : 0 <= i
 ·have hj : i.toNat = j := by
   rw [seqIndex_of h0 h5] at h1
   exact Option.some.inj h1
  exact item_listR pl.isList h0 (by omega) (by rw [hj]; simpa using ew) fin hs
 ·have hj : (i + (its.toArray.size : Int)).toNat = j := by
   rw [seqIndex_neg (by omega) h4] at h1
   rw [List.size_toArray, <- hl]
   exact Option.some.inj h1
  exact subscriptTail_builtinR (x := w) pl.isList.typeIs slot_list_getitem.lookup
   (wpAny_getItem_list_neg (Q := fun r s' => r = w /\ EP X pins σ Q r s') pl.isList (by omega) (by rw [List.size_toArray] <;> omega) (by omega) (by rw [hj]; simpa using ew) ⟨rfl, fin⟩) hs
theorem ix_tup : IxR X (rIxT X.K) := by
 intro value slice pins s σ H x y v u Q I rx ry h hs
 obtain ⟨p, xs, i, z, rfl, rfl, hq, he, q⟩ := h
 cases rx
 obtain ⟨t, rfl⟩ := ry
 obtain ⟨its, r, pl, hz⟩ := I.tuple hq
 obtain ⟨j, h1, h2, h3, h4, h5⟩ := atI_get he
 obtain ⟨w, ew, rw'⟩ := r.get h2
 have hl := r.length
 have hn := line63
 have fin : EP X pins σ Q w s := ⟨z, H, I, rw', q⟩
 exact subscriptTail_builtinR (x := w) pl.typeIs slot_tuple_getitem.lookup
  (getItem_tuple (j := j) (Q := fun r s' => r = w /\ EP X pins σ Q r s') pl (by omega) (by omega) (by rw [List.size_toArray, <- hl]; exact h1) (by simpa using ew) ⟨rfl, fin⟩) hs
theorem ix_str : IxR X rIxS := by
 intro value slice pins s σ H x y v u Q I rx ry h hs
 obtain ⟨z, i, c, rfl, rfl, hz, he, q⟩ := h
 obtain ⟨t, rfl⟩ := rx
 obtain ⟨t', rfl⟩ := ry
 obtain ⟨j, h1, h2, h3, h4, h5⟩ := atI_get he
 have hl : z.cps.toList.length = z.length := by simp [Str.length]
 rw [hl] at h1 h4 h5
 have hn := line63
 exact tail_any (typeIs_str s z t) slot_str_getitem.lookup (getItem_str (c := c) (by
  have e1 : decide (i < -(2 ^ 63 : Int)) = false := decide_eq_false (by omega)
  have e2 : decide (i ≥ 2 ^ 63) = false := decide_eq_false (by omega)
  rw [e1, e2, Bool.or_false]) (by rw [h1]; simpa using h2) ⟨.str ⟨#[c]⟩, H, I.tok _, ⟨_, rfl⟩, q⟩) hs
def rIx (K : PySem.W.Frag) : R2 := fun x y H Q => rIxL K x y H Q \/ rIxT K x y H Q \/ rIxS x y H Q
theorem ix_seq : IxR X (rIx X.K) := ix_list.or (ix_tup.or ix_str)
theorem Inv.lst {pins : List (Addr × Obj)} {σ : St} {H : Hp} {s : Shared} {p : Addr} {xs : List V} (I : Inv X pins σ H s) (h : H p = some (.lst xs)) :
  ∃ (its : List Value) (n : Nat), Vals xs its /\ s.heap.get? p = some { cls := .type "list", data := .seq its.toArray n } /\ xs.length <= sizeLine := by
 obtain ⟨z, its, n, r, e⟩ := I.hok p _ h
 exact ⟨its, n, r, e, z⟩
theorem slice_bounds (lo hi : Option Int) (n : Nat) : (sliceBounds lo hi none n).1 = ((HT.sIx n 0 lo : Nat) : Int) /\ (sliceBounds lo hi none n).2.1 = ((HT.sIx n n hi : Nat) : Int) /\ (sliceBounds lo hi none n).2.2 = 1 := by
 refine ⟨?_, ?_, rfl⟩
 ·cases lo with
  | none => simp [sliceBounds, HT.sIx]
  | some i =>
   simp only [sliceBounds, HT.sIx, Option.getD_none, show (1 : Int) > 0 by decide, if_true]
   by_cases h : i < 0
   ·simp only [h, if_true] <;> omega
   ·simp only [h, if_false] <;> omega
 ·cases hi with
  | none => simp [sliceBounds, HT.sIx]
  | some i =>
   simp only [sliceBounds, HT.sIx, Option.getD_none, show (1 : Int) > 0 by decide, if_true]
   by_cases h : i < 0
   ·simp only [h, if_true] <;> omega
   ·simp only [h, if_false] <;> omega
theorem slicePick_cut (its : List Value) (lo hi : Option Int) : slicePick its.toArray lo hi none = ((its.drop (HT.sIx its.length 0 lo)).take (HT.sIx its.length its.length hi - HT.sIx its.length 0 lo)).toArray := by
 obtain ⟨h1, h2, h3⟩ := slice_bounds lo hi its.toArray.size
 unfold slicePick
 rw [h1, h2, h3]
 simp only [sliceRange_one, pick_run, List.size_toArray] <;> rfl
def rSlL (K : PySem.W.Frag) : V -> Option Int -> Option Int -> Hp -> VK -> Prop := fun x lo hi H Q => ∃ a xs, x = .ref a /\ SqL K H a xs /\ ∀ p, H p = none -> Q (.ref p) (upd H p (.lst (cutV xs lo hi)))
theorem sl_list : SlR X (rSlL X.K) := by
 intro pins s σ H x v vl vu lo hi sl Q I rx hs pl pu h
 obtain ⟨a, xs, rfl, hx, q⟩ := h
 cases rx
 obtain ⟨its, r, ht, hz⟩ := I.list hx
 have hlen := r.length
 refine ⟨"list", _, slot_list_getitem.lookup, ht.isList.typeIs, ?_⟩
 refine wpAny_getItem_list_slice ht.isList hs pl pu .none (by simp) ?_ (by rw [List.size_toArray] <;> omega)
 rw [slicePick_cut, <- hlen]
 refine ⟨.ref s.heap.objs.size, _, I.laid (t' := s.toks) (o := .lst (cutV xs lo hi)) (fun b ob q => Heap.get?_push_of_some _ q) (Nat.le_refl _) ?_, rfl, q _ (I.hok.fresh (Nat.le_refl _))⟩
 exact ⟨Nat.le_trans (cutV_length xs lo hi) hz, _, 0, (r.drop (HT.sIx xs.length 0 lo)).take (HT.sIx xs.length xs.length hi - HT.sIx xs.length 0 lo), Heap.get?_push_size _ rfl⟩
theorem call_len_seq : CallR X (.builtin "len") (fun xs H Q => ∃ p ys, xs = [.ref p] /\ (SqL X.K H p ys \/ SqT X.K H p ys) /\ Q (.int ys.length) H) := by
 intro pins s σ H xs us Q I r h
 obtain ⟨p, ys, rfl, hq, q⟩ := h
 obtain ⟨u, rfl, rx⟩ := vals1 r
 cases rx
 have hn := line63
 rcases hq with hq | hq
 ·obtain ⟨its, r', pl, hz⟩ := I.list hq
  have hlen := r'.length
  exact Calls.call_len_list pl.isList (by simp only [List.size_toArray] <;> omega) ⟨.int ys.length, H, I.tok _, ⟨s.toks + 1, by rw [List.size_toArray, hlen]⟩, q⟩
 ·obtain ⟨its, r', pl, hz⟩ := I.tuple hq
  have hlen := r'.length
  exact len_tuple pl (by simp only [List.size_toArray] <;> omega) ⟨.int ys.length, H, I.tok _, ⟨s.toks + 1, by rw [List.size_toArray, hlen]⟩, q⟩
theorem call_len_str : CallR X (.builtin "len") (fun xs H Q => ∃ z, xs = [.str z] /\ z.length <= sizeLine /\ Q (.int z.length) H) := by
 intro pins s σ H xs us Q I r h
 obtain ⟨z, rfl, hz, q⟩ := h
 obtain ⟨u, rfl, t, rfl⟩ := vals1 r
 have hn := line63
 exact len_str (by omega) ⟨.int z.length, H, I.tok _, ⟨_, rfl⟩, q⟩
theorem CallR.or {f : Value} {r r' : List V -> Hp -> VK -> Prop} (h : CallR X f r) (h' : CallR X f r') : CallR X f (fun xs H Q => r xs H Q \/ r' xs H Q) := by
 intro pins s σ H xs us Q I rs q
 rcases q with q | q
 ·exact h pins s σ H xs us Q I rs q
 ·exact h' pins s σ H xs us Q I rs q
def tyV (K : PySem.W.Frag) (T : String) (x : V) (H : Hp) : Prop := match x with
 | .str _ => T = "str"
 | .int _ => T = "int"
 | .ref p => (T = "list" /\ ∃ xs, SqL K H p xs) \/ (T = "tuple" /\ ∃ o, K.lookup p = some o /\ o.cls = .type "tuple" /\ o.dict = none) \/
   (T = "dict" /\ ((∃ kvs, H p = some (.dK kvs)) \/ ∃ kvs, H p = some (.dT kvs))) \/ (T = "set" /\ ∃ S n, H p = some (.set S n))
 | _ => False
theorem tyV_is {pins : List (Addr × Obj)} {σ : St} {H : Hp} {s : Shared} {T : String} {x : V} {v : Value} (I : Inv X pins σ H s) (r : RelV x v) (ty : tyV X.K T x H) :
  s.TypeIs v T /\ ∀ a, v = .ref a -> ∃ ob, s.heap.get? a = some ob /\ ob.dict = none := by
 cases x with
 | str z =>
  obtain ⟨t, rfl⟩ := r
  cases (show T = "str" from ty)
  exact ⟨typeIs_str s z t, fun _ e => nomatch e⟩
 | int i =>
  obtain ⟨t, rfl⟩ := r
  cases (show T = "int" from ty)
  exact ⟨typeIs_int s i t, fun _ e => nomatch e⟩
 | ref p =>
  cases r
  rcases ty with ⟨rfl, xs, hq⟩ | ⟨rfl, o, hk, hc, hd⟩ | ⟨rfl, hk⟩ | ⟨rfl, S, n, hk⟩
  ·obtain ⟨its, _, pl, _⟩ := I.list hq
   refine ⟨pl.isList.typeIs, fun a e => ?_⟩
   cases e
   obtain ⟨o, n, e, c, hd, _⟩ := pl
   exact ⟨o, e, hd⟩
  ·refine ⟨⟨o, I.kIn p o hk, hc⟩, fun a e => ?_⟩
   cases e
   exact ⟨o, I.kIn _ o hk, hd⟩
  ·have z : ∃ o, s.heap.get? p = some o /\ o.ExactDict := by
    rcases hk with ⟨kvs, hk⟩ | ⟨kvs, hk⟩
    ·obtain ⟨_, _, _, _, o, _, _, e, ex, _⟩ := I.hok p _ hk
     exact ⟨o, e, ex⟩
    ·obtain ⟨_, _, _, _, o, _, _, e, ex, _⟩ := I.hok p _ hk
     exact ⟨o, e, ex⟩
   obtain ⟨o, e, ex⟩ := z
   refine ⟨⟨o, e, ex.1⟩, fun a e2 => ?_⟩
   cases e2
   exact ⟨o, e, ex.2.1⟩
  ·obtain ⟨o, _, _, _, e, ex, _⟩ := I.hok p _ hk
   refine ⟨⟨o, e, ex.1⟩, fun a e2 => ?_⟩
   cases e2
   exact ⟨o, e, ex.2.1⟩
 | _ => exact False.elim ty
def tBM0 (K : PySem.W.Frag) (T : String) (r : V -> List V -> Hp -> VK -> Prop) (to : TE) : TE := fun σ H Q => to σ H fun x H1 => tyV K T x H1 /\ r x [] H1 Q
def tBM (K : PySem.W.Frag) (T : String) (r : V -> List V -> Hp -> VK -> Prop) (to : TE) (t : TA) : TE := fun σ H Q => to σ H fun x H1 => tyV K T x H1 /\ t σ H1 fun xs H2 => r x xs H2 Q
variable {o e : Expr} {es : List Expr} {to : TE} {t : TA} {name : Str} {apos cpos : Pos} {T id : String} {r : V -> List V -> Hp -> VK -> Prop}
theorem pe_bm0 (pa : PlainAttrs T) (slot : Slot T name id) (hty : typeOf (.builtin id) = pure (.type "method_descriptor")) (hm : MtR X id r) (ho : PE X o to)
  (hbase : attributeBase o name X.env (eval o X.env) = eval o X.env := by rfl) (hline : (apos.endLine == cpos.line) = true := by rfl) : PE X (.Call (.Attribute o name apos) [] [] cpos) (tBM0 X.K T r to) := by
 intro pins s σ H Q I h
 refine wpAny_Call_method0_late hbase hline (thn (ho pins s σ H _ I h) fun v s1 ⟨x, H1, I1, r1, ty, q1⟩ => ?_)
 obtain ⟨h1, h2⟩ := tyV_is I1 r1 ty
 exact ⟨T, id, pa, slot, hty, h1, h2, Calls.callWith_builtin rfl (PySem.evalArgs_none (hm pins s1 σ H1 x [] v [] Q I1 r1 .nil q1))⟩
theorem pe_bm (pa : PlainAttrs T) (slot : Slot T name id) (hty : typeOf (.builtin id) = pure (.type "method_descriptor")) (hm : MtR X id r) (ho : PE X o to) (ha : PA X (e :: es) t)
  (hbase : attributeBase o name X.env (eval o X.env) = eval o X.env := by rfl)
  (hfew : ((backTo cpos (starEach (e :: es) X.env)).all (fun x => !x.1) && (backToKw cpos (keywordEach [] X.env)).all (fun x => x.1.isSome)
   && decide ((e :: es).length + ([] : List Keyword).length + (if ([] : List Keyword).isEmpty then 0 else 1) < 30)) = true := by rfl)
  (hline : (apos.endLine == cpos.line) = true := by rfl) (hs : starEach (e :: es) X.env = (false, eval e X.env) :: starEach es X.env := by rfl) (hplain : (backTo cpos (starEach es X.env)).any (·.1) = false := by rfl) :
  PE X (.Call (.Attribute o name apos) (e :: es) [] cpos) (tBM X.K T r to t) := by
 intro pins s σ H Q I h
 refine wpAny_Call_method_late hbase hfew hline rfl (thn (ho pins s σ H _ I h) fun v s1 ⟨x, H1, I1, r1, ty, q1⟩ => ?_)
 obtain ⟨h1, h2⟩ := tyV_is I1 r1 ty
 refine ⟨T, id, pa, slot, hty, h1, h2, ?_⟩
 have hA := ha cpos pins s1 σ H1 _ I1 q1
 rw [hs] at hA ⊢
 refine Calls.callWith_builtin (by show (false || (backTo cpos (starEach es X.env)).any (·.1)) = false; rw [hplain] <;> rfl) (Calls.evalArgs_plain ?_)
 exact thn hA fun us s2 ⟨vs, H2, I2, r2, q2⟩ => hm pins s2 σ H2 x vs v us Q I2 r1 r2 q2
end
end L2
namespace L2
open PySem PySem.Spec PyProof.Rows
def MtM (X : Cx) (id : String) (r : V -> List V -> Hp -> VK -> Prop) : Prop :=
 ∀ (pins : List (Addr × Obj)) (s : Shared) (σ : St) (H : Hp) (x : V) (xs : List V) (v : Value) (us : List Value) (Q : VK), Inv X pins σ H s -> RelV x v -> Vals xs us -> r x xs H Q ->
  wpAny (model X.prog X.w) X.A (call (.builtin id) (v :: us)) (EP X pins σ Q) X.xe s
theorem Vals.one : ∀ {x : V} {us : List Value}, Vals [x] us -> ∃ u, us = [u] /\ RelV x u
 | _, _, .cons r .nil => ⟨_, rfl, r⟩
theorem Vals.two : ∀ {x y : V} {us : List Value}, Vals [x, y] us -> ∃ u v, us = [u, v] /\ RelV x u /\ RelV y v
 | _, _, _, .cons r (.cons q .nil) => ⟨_, _, rfl, r, q⟩
theorem Vals.zero : ∀ {us : List Value}, Vals [] us -> us = []
 | _, .nil => rfl
theorem Vals.rep {xs : List V} {us : List Value} (h : Vals xs us) : ∀ k : Nat, Vals (List.replicate k xs).flatten (List.replicate k us).flatten
 | 0 => .nil
 | k + 1 => by
  rw [List.replicate_succ, List.replicate_succ, List.flatten_cons, List.flatten_cons]
  exact Vals.append h (Vals.rep h k)
theorem foldl_rep (its : List Value) : ∀ (k : Nat) (acc : List Value),
  List.foldl (fun x1 x2 => x1 ++ x2) acc.toArray (List.replicate k its.toArray) = (acc ++ (List.replicate k its).flatten).toArray
 | 0, acc => by simp
 | k + 1, acc => by
  have e : acc.toArray ++ its.toArray = (acc ++ its).toArray := by simp
  have e2 : (acc ++ its) ++ (List.replicate k its).flatten = acc ++ (List.replicate (k + 1) its).flatten := by
   rw [List.replicate_succ, List.flatten_cons, List.append_assoc]
  rw [<- e2, <- foldl_rep its k (acc ++ its), <- e, List.replicate_succ, List.foldl_cons]
section
variable {X : Cx} {pins : List (Addr × Obj)} {σ : St} {H : Hp} {s : Shared} {l b : Addr} {xs ys zs : List V}
theorem Inv.lset {its its' : List Value} {n : Nat} {f : Array Value -> Array Value} {t' : Nat} (I : Inv X pins σ H s) (hH : H l = some (.lst xs))
  (e : s.heap.get? l = some { cls := .type "list", data := .seq its.toArray n }) (hf : f its.toArray = its'.toArray) (hv : Vals ys its') (hz : ys.length <= sizeLine) :
  Inv X pins σ (upd H l (.lst ys)) { s with heap := s.heap.update l (Obj.mapSeq f), toks := t' } := by
 have q := PySem.IsL.update e f
 rw [hf] at q
 refine I.write (x := l) (e := l) (by rw [hH]; exact trivial) (.inl rfl) (fun b' u hb hu => (Heap.get?_update_other s.heap (Obj.mapSeq f) (Ne.symm hb)).trans hu) ⟨_, q⟩ ?_
 exact ⟨hz, its', _, hv, q⟩
theorem Inv.lnew {its : List Value} {t' : Nat} (I : Inv X pins σ H s) (hv : Vals ys its) (hz : ys.length <= sizeLine) :
  Inv X pins σ (upd H s.heap.objs.size (.lst ys)) { s with heap := s.heap.push { cls := .type "list", data := .seq its.toArray }, toks := t' } :=
 I.laid (fun _ _ q => Heap.get?_push_of_some _ q) (Nat.le_refl _) ⟨hz, its, 0, hv, Heap.get?_push_size _ rfl⟩
theorem Inv.fresh (I : Inv X pins σ H s) : H s.heap.objs.size = none := I.hok.fresh (Nat.le_refl _)
theorem Inv.lstM (I : Inv X pins σ H s) (hH : H l = some (.lst xs)) : xs.length <= sizeLine /\ ∃ (its : List Value) (n : Nat), Vals xs its /\ xs.length = its.length /\ s.heap.get? l = some { cls := .type "list", data := .seq its.toArray n } := by
 obtain ⟨z, its, n, r, e⟩ := I.hok l _ hH
 exact ⟨z, its, n, r, r.length, e⟩
theorem notLongL {n : Nat} (h : n <= sizeLine) : Builtin.List.listTooLong n = false := by
 unfold Builtin.List.listTooLong
 exact decide_eq_false (by omega)
end
section
variable {X : Cx}
def rAppend : V -> List V -> Hp -> VK -> Prop := fun x vs H Q => ∃ l xs y, x = .ref l /\ vs = [y] /\ H l = some (.lst xs) /\ xs.length < sizeLine /\ Q .non (upd H l (.lst (xs ++ [y])))
theorem mt_append : MtM X "list.append" rAppend := by
 intro pins s σ H x vs v us Q I rx rv h
 obtain ⟨l, xs, y, rfl, rfl, hH, hz, q⟩ := h
 cases rx
 obtain ⟨u, rfl, ru⟩ := rv.one
 obtain ⟨z, its, n, r, hl, e⟩ := I.lstM hH
 refine call_meets F.slot_list_append ⟨_, e, rfl⟩ F.entry_list_append (F.args_list_append_2 _ _) (PySem.list_append l its.toArray n u (by rw [List.size_toArray]; omega)) ⟨e, ?_⟩
 refine ⟨.non, _, I.lset (its' := its ++ [u]) hH e (by simp) (r.append (.cons ru .nil)) ?_, rfl, q⟩
 rw [List.length_append, List.length_singleton]
 omega
def rClear : V -> List V -> Hp -> VK -> Prop := fun x vs H Q => ∃ l xs, x = .ref l /\ vs = [] /\ H l = some (.lst xs) /\ Q .non (upd H l (.lst []))
theorem mt_clear : MtM X "list.clear" rClear := by
 intro pins s σ H x vs v us Q I rx rv h
 obtain ⟨l, xs, rfl, rfl, hH, q⟩ := h
 cases rx
 have hus := rv.zero
 subst hus
 obtain ⟨z, its, n, r, hl, e⟩ := I.lstM hH
 refine call_meets F.slot_list_clear ⟨_, e, rfl⟩ F.entry_list_clear (F.args_list_clear_1 _) (AutoSeq1.list_clear_list_0 l its.toArray n (by rw [List.size_toArray]; omega)) ⟨e, ?_⟩
 exact ⟨.non, _, I.lset (its' := []) (ys := []) hH e rfl .nil (Nat.zero_le _), rfl, q⟩
def rRep : R2 := fun x y H Q => ∃ l k xs, x = .ref l /\ y = .int k /\ H l = some (.lst xs) /\ -(2 ^ 63) <= k /\ k < 2 ^ 63 /\ xs.length * k.toNat <= sizeLine /\
 ∀ p, H p = none -> Q (.ref p) (upd H p (.lst (List.replicate k.toNat xs).flatten))
theorem len_rep {α : Type} (xs : List α) (k : Nat) : (List.replicate k xs).flatten.length = k * xs.length := by
 induction k with
 | zero => simp
 | succ k ih => rw [List.replicate_succ, List.flatten_cons, List.length_append, ih, Nat.succ_mul, Nat.add_comm]
theorem op_rep : OpR X (binaryOp .Mult) rRep := by
 intro pins s σ H x y v u Q I rx ry h
 obtain ⟨l, k, xs, rfl, rfl, hH, h1, h2, hz, q⟩ := h
 cases rx
 obtain ⟨t, rfl⟩ := ry
 obtain ⟨z, its, n, r, hl, e⟩ := I.lstM hH
 have hlen : its.toArray.size * k.toNat <= sizeLine := by rw [List.size_toArray, <- hl]; exact hz
 have hcap : ¬ its.toArray.size * k.toNat > (2 ^ 63 - 1) / 8 := by
  have : (sizeLine : Nat) <= (2 ^ 63 - 1) / 8 := by decide
  omega
 have hfit : ¬ (!Builtin.List.listFitsIndex k) = true := by
  rw [fitsIndex_both h1 h2]
  exact Bool.false_ne_true
 have hlong : ¬ Builtin.List.listTooLong (its.toArray.size * k.toNat) = true := by
  rw [notLongL hlen]
  exact Bool.false_ne_true
 have hnew : List.foldl (fun x1 x2 => x1 ++ x2) #[] (List.replicate (if its.toArray.isEmpty = true then 0 else k.toNat) its.toArray) = (List.replicate k.toNat its).flatten.toArray := by
  have f0 : ∀ m : Nat, List.foldl (fun x1 x2 => x1 ++ x2) #[] (List.replicate m its.toArray) = (List.replicate m its).flatten.toArray := fun m => by
   have := foldl_rep its m []
   rw [List.nil_append] at this
   exact this
  rw [f0]
  cases its with
  | nil => simp
  | cons a r' => rw [if_neg (by simp)]
 refine wpAny_binaryOp_repeat_ref (T := "list") (U := "int") (by decide) ⟨_, e, rfl⟩ (fun s' => typeIs_int s' k t) noFill_list_mul F.fills_int_mul F.slot_int_rmul repeat_list F.slot_int_index.lookup
  (call_meets F.slot_int_rmul (typeIs_int s k t) F.entry_int_rmul (F.args_int_rmul_2 _ _) (int___rmul___int_list k t l its.toArray n)
   ⟨e, rfl, ⟨_, e, rfl⟩, call_meets F.slot_list_mul ⟨_, e, rfl⟩ F.entry_list_mul (F.args_list_mul_2 _ _) (AutoListH.list___mul___list_int_3 l its.toArray n k t hfit hcap hlong) ⟨e, ?_⟩⟩)
 rw [hnew]
 exact ⟨.ref _, _, I.lnew (t' := s.toks) (r.rep k.toNat) (by rw [len_rep, Nat.mul_comm]; exact hz), rfl, q _ I.fresh⟩
end
section
variable {prog : Program} {w : World} {A : Around} {E : Value -> Shared -> Prop} {s : Shared}
end
section
variable {X : Cx}
end
end L2
namespace Att
open PySem PySem.W PySem.Calls PyProof.Rows
theorem ints_of_wellAll {P : Params} {h : Heap} : ∀ (ns : List Int) (vs : List Value), WellAll P h vs (ns.map WData.int) -> IntsAre vs ns := by
 intro ns
 induction ns with
 | nil =>
  intro vs w
  rw [List.map_nil] at w
  cases w
  exact .nil
 | cons n ns ih =>
  intro vs w
  rw [List.map_cons] at w
  cases w with
  | cons a b =>
   cases a
   exact .cons _ _ (ih _ b)
theorem script_of {l : OpenLaw} {n : Nat} (hn : l.most = some n) {P : Params} {h : Heap} {args : List WData} {vals : List Value}
  (hpre : l.row.toRowW.claim.pre args = true) (hwl : WellAll P h vals args) :
  ∃ a vs ns, vals = [Value.ref a] /\ args = [WData.list (ns.map WData.int)] /\ h.get? a = some { cls := .type "list", data := .seq vs.toArray } /\ IntsAre vs ns /\ ns.length <= n := by
 have hsh : WShape.hasAll [] args [.list .int] = true := (pre_splitW hpre).1
 have hc : l.pre.holds [] { args := args } = true := (pre_splitW hpre).2
 obtain ⟨d, r, rfl, h1, h2⟩ := hasAllW_cons hsh
 obtain rfl := hasAllW_nil h2
 obtain ⟨xs, rfl, h3⟩ := hasW_list h1
 obtain ⟨ns, rfl⟩ := items_int h3
 have hlen : ns.length <= n := by
  unfold OpenLaw.pre at hc
  have h4 : (WTm.not (.lt (.lit (.int (n : Int))) (.len (.arg 0)))).holds [] { args := [.list (ns.map .int)] } = true := by
   have h4 := (holds_andW hc).1
   rw [hn] at h4
   exact h4
  have h5 := condW_of h4 (w_not (w_lt w_lit (w_len_list (w_arg rfl))))
  rw [List.length_map] at h5
  refine Nat.le_of_not_lt fun q => ?_
  have q' : (n : Int) < ((ns.length : Nat) : Int) := by omega
  first
   | (rw [decide_eq_true q'] at h5; exact absurd h5 (by decide))
   | (simp at h5; omega)
 cases hwl with
 | cons w1 w2 =>
  cases w2
  cases w1 with
  | list ho hall => exact ⟨_, _, ns, rfl, rfl, ho, ints_of_wellAll ns _ hall, hlen⟩
theorem post_true (l : OpenLaw) (args : List WData) : l.row.toRowW.claim.post args (.bool true) args = true :=
 postW_of (r := l.row.toRowW) (X := (true == true))
  (show WShape.has [] (.bool true) .bool = true by first | rfl | decide | simp [WShape.has, WShape.arms, WShape.armsAll])
  (show (WTm.eq .res (.lit (.bool true))).value [] { args := args, res := some (.bool true), after := args } = some (.bool (true == true)) from w_eq_bool (w_res rfl) w_lit) rfl
theorem attach_call {l : OpenLaw} {n : Nat} {q : Program} {loose : List Str} {XP : (Str -> Option Value) -> Heap -> Prop} {YP : World -> Heap -> Prop} {d : DefRec}
  (hn : l.most = some n) (hdf : d.params.defaults = [])
  (call : ∀ (w : World) (s₀ s₁ : Shared) (mg mb : Str -> Option Value) (fa : Addr) (o : Obj) (pm cd doc : Value) (a : Addr) (vs : List Value) (ns : List Int),
   Ground q loose [] XP w s₀ mg mb s₁.heap -> YP w s₁.heap ->
   s₁.heap.get? fa = some o -> o.data = .func (docDef d.name d.params d.body d.scope pm cd doc) -> s₁.heap.CodeRec cd d.name -> mg d.name = some (.ref fa) ->
   s₁.heap.get? a = some { cls := .type "list", data := .seq vs.toArray } -> IntsAre vs ns -> ns.length <= n -> s₁.gens = #[] ->
   codeAny (model l.prog w) callerA (.call (.ref fa) ⟨[.ref a], []⟩) (fun r s' => r = .ok (.ret (.bool true)) /\ OldK s₁.heap s'.heap /\ s'.os = s₁.os /\ AllBare s'.gens) s₁) :
  WalkO q loose XP YP l.row.toRowW d [] (fun f vs => PySem.call f vs) := by
 intro w s₀ s₁ mg mb G Y fa o pm cd doc dV kV ho hd hcd hD hmg hg args vals as hpre hlay hrd hwl hlo
 obtain rfl : dV = .none := Dflts.none hD hdf
 obtain rfl : kV = .none := Dflts.noKw hD
 obtain ⟨a, vs, ns, rfl, rfl, hobj, hints, hlen⟩ := script_of hn hpre hwl
 refine enter_call (codeAny_mono (call w s₀ s₁ mg mb fa o pm cd doc a vs ns G Y ho (fd_plain hd) hcd hmg hobj hints hlen hg) fun r s' hq => ?_)
 obtain ⟨rfl, h2, h3, h4⟩ := hq
 exact ⟨.inl ⟨.bool true, .bool true, [], rfl, fun _ => rfl, .bool true, post_true l _, fun _ => ⟨List.Pairwise.nil, fun _ hm => (nomatch hm)⟩⟩, h2, h3, h4⟩
section
variable {prog : Program} {w : World} {A : Around} {E : Value -> Shared -> Prop} {s : Shared} {K : Frag}
end
end Att
namespace L2
open PySem PySem.Spec PyProof.Rows
theorem vals_ints : ∀ {vs : List Value} {ns : List Int}, IntsAre vs ns -> Vals (ns.map V.int) vs
 | _, _, .nil => .nil
 | _, _, .cons n t h => .cons ⟨t, rfl⟩ (vals_ints h)
def Only (H : Hp) : Prop := ∀ b, H b = none \/ ∃ o xs, H b = some (.frz o (.lst xs))
theorem law_call {P : Program} {w : World} {K : PySem.W.Frag} {mg mb : Str -> Option Value} {CX : CXT} {k : Nat} {fa a : Addr} {fd : FuncData} {x : Str} {sp : Sp} {s₁ : Shared} {vs : List Value} {ns : List Int}
  (KX : K.In s₁.heap) (hns : s₁.heap.Ns mainGlobals mg) (hb : s₁.heap.Ns builtinsNs mb) (hbb : ∀ x : Str, x ≠ "__name__" -> mb x = bootBuiltins x) (hlim : s₁.heap.NoLimit) (hg : s₁.gens = #[])
  (ha : s₁.heap.get? a = some { cls := .type "list", data := .seq vs.toArray }) (hi : IntsAre vs ns) (hl : ns.length <= sizeLine) (hr : Room k callerA)
  (F : ∀ base : Heap, K.In base -> base.Ns mainGlobals mg -> FnOk P w K mg base CX k fa fd [x] sp) (hbind : ∀ (s : Shared) (u : Value), BindsTo s fd ⟨[u], []⟩ [(x, u)])
  (hsp : ∀ H : Hp, Only H -> SqL K H a (ns.map V.int) -> sp [.ref a] H (fun v _ => v = .bl true) fun _ _ _ => False)
  (hCX : ∀ H e s', CX [] H s₁ (fun _ _ _ => False) e s' -> False) :
  codeAny (model P w) callerA (.call (.ref fa) ⟨[.ref a], []⟩) (fun r s' => r = .ok (.ret (.bool true)) /\ OldK s₁.heap s'.heap /\ s'.os = s₁.os /\ AllBare s'.gens) s₁ := by
 have rv := vals_ints hi
 have lenV := hi.length
 have core : ∀ H : Hp, Only H -> SqL K H a (ns.map V.int) -> HOk P w H s₁.heap -> (∀ b, H b ≠ none -> b = a) -> (H a ≠ none -> K.lookup a = none) ->
   codeAny (model P w) callerA (.call (.ref fa) ⟨[.ref a], []⟩) (fun r s' => r = .ok (.ret (.bool true)) /\ OldK s₁.heap s'.heap /\ s'.os = s₁.os /\ AllBare s'.gens) s₁ := by
  intro H hO hS hok hA hK
  have base_of : ∀ {b : Addr} {o : Obj}, s₁.heap.get? b = some o -> H b = none -> (hidT s₁.heap H).get? b = some o := fun e n => hidT_get e n
  have noA : ∀ {b : Addr} {o : Obj} {es : Array DictEntry} {ep : Nat}, s₁.heap.get? b = some o -> o.data = .dict es ep -> H b = none := fun {b o es ep} e d => by
   cases q : H b with
   | none => rfl
   | some u =>
    have e' : b = a := hA b (by rw [q]; simp)
    subst e'
    rw [ha] at e; cases e
    have d' : Data.seq vs.toArray _ = Data.dict es ep := d
    cases d'
  have nsK : ∀ {b : Addr} {m : Str -> Option Value}, s₁.heap.Ns b m -> (hidT s₁.heap H).Ns b m := fun {b m} ⟨o, es, ep, e, d, r⟩ => ⟨o, es, ep, base_of e (noA e d), d, r⟩
  have hKb : K.In (hidT s₁.heap H) := fun b o e => base_of (KX b o e) (by
   cases q : H b with
   | none => rfl
   | some u =>
    have e' : b = a := hA b (by rw [q]; simp)
    subst e'
    rw [hK (by rw [q]; simp)] at e; cases e)
  have hM : Mod K mg (hidT s₁.heap H) := ⟨hKb, nsK hns, ⟨mb, nsK hb, hbb⟩, let ⟨mc, h1, h2⟩ := hlim; ⟨mc, nsK h1, h2⟩⟩
  have e0 : Env0 P w K mg (hidT s₁.heap H) callerA [] s₁ H := ⟨rfl, hM, fun b o e => of_hidT e, Nat.le_of_eq (hidT_size _ _), trivial, fun b hb => absurd (show b ∈ ([] : List Addr) from hb) (by simp), hok, .of_eq hg⟩
  refine codeAny_mono ((F _ hKb (nsK hns)).run callerA [] s₁ H ⟨[.ref a], []⟩ [.ref a] [.ref a] _ _ hr e0 (hbind s₁ (.ref a)) (.cons rfl .nil) (hsp H hO hS)) fun r s' h => ?_
  cases r with
  | error e => exact (hCX H e s' h).elim
  | ok fl =>
   cases fl with
   | next => exact False.elim h
   | brk => exact False.elim h
   | cont => exact False.elim h
   | ret u =>
    obtain ⟨v, H', os, bare, un, hok', r', q⟩ := h
    have q' : v = .bl true := q
    subst q'
    obtain rfl : u = Value.bool true := r'
    refine ⟨rfl, OldK.of_keep fun b o e => ?_, os, bare⟩
    cases q : H b with
    | none => exact un.keep b o e q (by intro z; exact absurd (show b ∈ ([] : List Addr) from z) (by simp)) (by simp)
    | some u =>
     rcases hO b with z | ⟨ob, xs, z⟩
     ·rw [q] at z; cases z
     ·have z2 := un.frzs b ob _ z
      obtain ⟨e1, _⟩ := hok b _ z
      obtain ⟨e2, _⟩ := hok' b _ z2
      rw [e] at e1; cases e1
      exact e2
 cases hk : K.lookup a with
 | some o =>
  have e := KX a o hk
  rw [ha] at e
  cases e
  refine core (fun _ => none) (fun _ => .inl rfl) (.inr ⟨_, vs.toArray, _, hk, rfl, rfl, rfl, by rw [List.size_toArray, lenV]; exact hl, by simpa using rv⟩) (fun b u z => by have z' : (none : Option HO) = some u := z; cases z') (fun b z => absurd rfl z) fun z => absurd rfl z
 | none =>
  refine core (fun b => if b = a then some (.frz { cls := .type "list", data := .seq vs.toArray } (.lst (ns.map V.int))) else none) (fun b => ?_) (.inl (.inr ⟨{ cls := .type "list", data := .seq vs.toArray }, if_pos rfl⟩)) (fun b u z => ?_) (fun b z => ?_) fun _ => hk
  ·by_cases hb : b = a
   ·exact .inr ⟨_, _, if_pos hb⟩
   ·exact .inl (if_neg hb)
  ·by_cases hb : b = a
   ·have z' := (if_pos hb).symm.trans z
    cases z'
    subst hb
    exact ⟨ha, by rw [List.length_map]; exact hl, vs, _, rv, ha⟩
   ·have z' := (if_neg hb).symm.trans z
    cases z'
  ·by_cases hb : b = a
   ·exact hb
   ·exact absurd (if_neg hb) z
end L2
namespace L2
open PySem PySem.Spec PyProof.Rows
theorem walk_of {l : PySem.W.OpenLaw} {n k : Nat} {q : Program} {loose : List Str} {XP : (Str -> Option Value) -> Heap -> Prop} {YP : World -> Heap -> Prop} {d : DefRec} {K : Params -> PySem.W.Frag} {CX : World -> CXT} {sp : World -> Sp} {x : Str}
  (hn : l.most = some n) (hn2 : n <= sizeLine) (hdf : d.params.defaults = []) (hr : Room k callerA)
  (hY : ∀ (w : World) (h : Heap), YP w h -> (K w.params).In h)
  (F : ∀ (w : World) (mg : Str -> Option Value) (fa : Addr) (h : Heap), (K w.params).In h -> h.Ns mainGlobals mg -> mg d.name = some (.ref fa) ->
   ∃ fd : FuncData, (∀ (s : Shared) (u : Value), BindsTo s fd ⟨[u], []⟩ [(x, u)]) /\
    ∀ base : Heap, (K w.params).In base -> base.Ns mainGlobals mg -> FnOk l.prog w (K w.params) mg base (CX w) k fa fd [x] (sp w))
  (hsp : ∀ (w : World) (H : Hp) (a : Addr) (ns : List Int), ns.length <= n -> Only H -> SqL (K w.params) H a (ns.map V.int) -> sp w [.ref a] H (fun v _ => v = .bl true) fun _ _ _ => False)
  (hCX : ∀ (w : World) (H : Hp) (s : Shared) (e : Value) (s' : Shared), CX w [] H s (fun _ _ _ => False) e s' -> False) :
  PySem.W.WalkO q loose XP YP l.row.toRowW d [] (fun f vs => PySem.call f vs) := by
 refine Att.attach_call hn hdf fun w s₀ s₁ mg mb fa o pm cd doc a vs ns G Y ho hd hcd hmg hobj hints hlen hg => ?_
 have KX := hY w _ Y
 obtain ⟨fd, hb, hF⟩ := F w mg fa _ KX G.T.g hmg
 exact law_call KX G.T.g G.T.b G.T.builtins G.T.nolimit hg hobj hints (Nat.le_trans hlen hn2) hr hF hb (fun H hO hS => hsp w H a ns hlen hO hS) fun H e s' => hCX w H s₁ e s'
end L2
namespace L2
open PySem PySem.Spec PyProof.Rows
def defArgs (s : Stmt) : Arguments := match s with
 | .FunctionDef _ a _ _ _ _ _ _ _ _ => a
 | _ => { posonlyargs := [], args := [], vararg := none, kwonlyargs := [], kw_defaults := [], kwarg := none, defaults := [] }
def defBody (s : Stmt) : List Stmt := match s with
 | .FunctionDef _ _ b _ _ _ _ _ _ _ => b
 | _ => []
def defScope (s : Stmt) : Scope := match s with
 | .FunctionDef _ _ _ _ _ _ sc _ _ _ => sc
 | _ => { kind := .function, names := [], isGenerator := false, isCoroutine := false }
abbrev CX0 : CXT := fun _ _ _ _ _ _ => False
abbrev E0 : XK := fun _ _ _ => False
theorem pass0 {X : Cx} : Passes CX0 X E0 := fun _ _ _ _ _ _ _ h => h.elim
structure Fun (K : PySem.W.Frag) (x qual : Str) (st : Stmt) (f : Addr) (fd : FuncData) : Prop where
 ex : ∃ (oc : Value) (od : Option Addr) (kV doc pm : Value) (an : Option Addr) (cdv ct : Value) (osl : Array (Option Value)),
  fd = PySem.W.fnOf x qual (defArgs st) (defBody st) (defScope st) .none kV doc pm an cdv ct /\ K.lookup f = some ⟨oc, od, .func fd, osl⟩ /\ PySem.W.codeIn K cdv qual = true
 kp : PySem.W.keepIn K (.ref f) = true
section
variable {P : Program} {w : World} {K : PySem.W.Frag} {mg : Str -> Option Value} {base : Heap}
theorem Fun.ok {x qual : Str} {st : Stmt} {f : Addr} {fd : FuncData} {N ps : List Str} {k : Nat} {sp : Sp} (F : Fun K x qual st f fd) (S : FnScope N ps (defScope st)) (len : ∀ vs H Q E, sp vs H Q E -> vs.length = ps.length)
  (hbody : ∀ (cdv : Value) (A : Around) (outer : List Env) (s : Shared) (H : Hp) (vs : List V) (Q : VK) (E : XK), Room k (A.deeper (envOfC qual (defScope st) s.heap.objs.size f cdv)) -> sp vs H Q E ->
   ∃ t, PSs (cxOf CX0 P w K mg base N qual (defScope st) f cdv A outer s H E).nox (defBody st) t /\ t { nx := fun _ H' => Q .non H', rt := Q } (start N vs) H) : FnOk P w K mg base CX0 (k + 1) f fd ps sp := by
 obtain ⟨oc, od, kV, doc, pm, an, cdv, ct, osl, rfl, lk, hcd⟩ := F.ex
 refine fn_of lk hcd S len fun A outer s H vs Q E hr hsp => ?_
 obtain ⟨t, h, q⟩ := hbody cdv A outer s H vs Q E hr hsp
 exact ⟨t, h.nox, q⟩
theorem Fun.binds {x qual : Str} {st : Stmt} {f : Addr} {fd : FuncData} {ps : List Str} (F : Fun K x qual st f fd)
  (h : ∀ (kV doc pm : Value) (an : Option Addr) (cdv ct : Value) (us : List Value), us.length = ps.length -> bindArgs (PySem.W.fnOf x qual (defArgs st) (defBody st) (defScope st) .none kV doc pm an cdv ct) ⟨us, []⟩ = pure (ps.zip us)) : Binds K fd ps [] := by
 obtain ⟨oc, od, kV, doc, pm, an, cdv, ct, osl, rfl, lk, hcd⟩ := F.ex
 exact .all (h kV doc pm an cdv ct)
theorem fun_mk {x qual : Str} {st : Stmt} {f : Addr} {oc : Value} {od an : Option Addr} {osl : Array (Option Value)} {kV doc pm cdv ct : Value} (l : K.lookup f = some ⟨oc, od, .func (PySem.W.fnOf x qual (defArgs st) (defBody st) (defScope st) .none kV doc pm an cdv ct), osl⟩)
  (c : PySem.W.codeIn K cdv qual = true) (k : PySem.W.keepIn K (.ref f) = true) : Fun K x qual st f (PySem.W.fnOf x qual (defArgs st) (defBody st) (defScope st) .none kV doc pm an cdv ct) := ⟨⟨oc, od, kV, doc, pm, an, cdv, ct, osl, rfl, l, c⟩, k⟩
end
section
variable {X : Cx}
end
def Same (H H' : Hp) : Prop := ∀ b o, H b = some o -> H' b = some o
theorem Same.refl (H : Hp) : Same H H := fun _ _ h => h
theorem Same.trans {H H1 H2 : Hp} (a : Same H H1) (b : Same H1 H2) : Same H H2 := fun c o h => b c o (a c o h)
theorem Same.free {H H' : Hp} (e : Same H H') {l : Addr} (h : H' l = Option.none) : H l = Option.none := by
 cases q : H l with
 | none => rfl
 | some o =>
  rw [e l o q] at h
  cases h
theorem Same.seq {K : PySem.W.Frag} {H H' : Hp} {a : Addr} {xs : List V} (e : Same H H') (h : SqL K H a xs) : SqL K H' a xs := by
 rcases h with (h | ⟨o, h⟩) | h
 ·exact .inl (.inl (e _ _ h))
 ·exact .inl (.inr ⟨o, e _ _ h⟩)
 ·exact .inr h
end L2
namespace L2
open PySem PySem.Spec PyProof.Rows
section
variable {κ : Type} [DecidableEq κ]
def valV (kvs : List (κ × V)) (k : κ) : Option V := (kvs.find? fun kv => decide (kv.1 = k)).map (·.2)
def putK (kvs : List (κ × V)) (k : κ) (v : V) : List (κ × V) :=
 if (kvs.any fun kv => decide (kv.1 = k)) = true then kvs.map (fun kv => if kv.1 = k then (kv.1, v) else kv) else kvs ++ [(k, v)]
def dropK (kvs : List (κ × V)) (k : κ) : List (κ × V) := kvs.filter fun kv => decide (kv.1 ≠ k)
theorem valV_pos {p : κ × V} {r : List (κ × V)} {k : κ} (e : p.1 = k) : valV (p :: r) k = some p.2 := by simp [valV, List.find?_cons, e]
theorem valV_neg {p : κ × V} {r : List (κ × V)} {k : κ} (e : ¬ p.1 = k) : valV (p :: r) k = valV r k := by simp [valV, List.find?_cons, e]
theorem valV_any (k : κ) : ∀ kvs : List (κ × V), (kvs.any fun kv => decide (kv.1 = k)) = (valV kvs k).isSome
 | [] => rfl
 | p :: r => by
  rw [List.any_cons]
  by_cases e : p.1 = k
  ·simp only [valV_pos e, decide_eq_true e, Bool.true_or, Option.isSome_some]
  ·rw [valV_neg e, decide_eq_false e, Bool.false_or]; exact valV_any k r
theorem length_putK (kvs : List (κ × V)) (k : κ) (v : V) : (putK kvs k v).length <= kvs.length + 1 := by
 unfold putK
 split
 ·rw [List.length_map]; omega
 ·rw [List.length_append, List.length_cons, List.length_nil]; omega
theorem RelO.isSome_eq {o : Option V} {u : Option Value} (r : RelO o u) : o.isSome = u.isSome := by
 cases o with
 | none => cases u with
  | none => rfl
  | some _ => exact (show False from r).elim
 | some _ => cases u with
  | none => exact (show False from r).elim
  | some _ => rfl
theorem RelO.getD {o : Option V} {u : Option Value} {d : V} {d' : Value} (r : RelO o u) (rd : RelV d d') : RelV (o.getD d) (u.getD d') := by
 cases o with
 | none => cases u with
  | none => exact rd
  | some _ => exact (show False from r).elim
 | some _ => cases u with
  | none => exact (show False from r).elim
  | some _ => exact r
theorem KV.val {kvs : List (κ × V)} {vs : List (κ × Value)} (r : KV kvs vs) (k : κ) : RelO (valV kvs k) (valueAt vs k) := by
 unfold KV at r
 induction r with
 | nil => exact True.intro
 | @cons p q ps qs h t ih =>
  obtain ⟨h1, h2⟩ := h
  by_cases e : p.1 = k
  ·have e' : q.1 = k := h1.symm.trans e
   have b : valueAt (q :: qs) k = some q.2 := by simp [valueAt, List.find?_cons, e']
   rw [valV_pos e, b]; exact h2
  ·have e' : ¬ q.1 = k := fun z => e (h1.trans z)
   have b : valueAt (q :: qs) k = valueAt qs k := by simp [valueAt, List.find?_cons, e']
   rw [valV_neg e, b]; exact ih
theorem KV.any {kvs : List (κ × V)} {vs : List (κ × Value)} (r : KV kvs vs) (k : κ) : (kvs.any fun kv => decide (kv.1 = k)) = vs.any fun kv => decide (kv.1 = k) := by
 unfold KV at r
 induction r with
 | nil => rfl
 | cons h t ih => rw [List.any_cons, List.any_cons, ih, h.1]
theorem KV.repl {kvs : List (κ × V)} {vs : List (κ × Value)} (r : KV kvs vs) (k : κ) {y : V} {u : Value} (ry : RelV y u) :
  KV (kvs.map fun kv => if kv.1 = k then (kv.1, y) else kv) (vs.map fun kv => if kv.1 = k then (kv.1, u) else kv) := by
 unfold KV at r ⊢
 induction r with
 | nil => exact .nil
 | @cons p q ps qs h t ih =>
  rw [List.map_cons, List.map_cons]
  refine .cons ?_ ih
  obtain ⟨h1, h2⟩ := h
  by_cases e : p.1 = k
  ·rw [if_pos e, if_pos (h1.symm.trans e)]; exact ⟨h1, ry⟩
  ·rw [if_neg e, if_neg (fun z => e (h1.trans z))]; exact ⟨h1, h2⟩
theorem KV.put {kvs : List (κ × V)} {vs : List (κ × Value)} (r : KV kvs vs) (k : κ) {y : V} {u : Value} (ry : RelV y u) : KV (putK kvs k y) (stored vs k u) := by
 unfold putK stored
 rw [r.any k]
 by_cases e : (vs.any fun kv => decide (kv.1 = k)) = true
 ·rw [if_pos e, if_pos e]; exact r.repl k ry
 ·rw [if_neg e, if_neg e]; exact Paired.snoc r ⟨rfl, ry⟩
theorem KV.drop {kvs : List (κ × V)} {vs : List (κ × Value)} (r : KV kvs vs) (k : κ) : KV (dropK kvs k) (without vs k) := by
 unfold KV at r ⊢
 unfold dropK without
 induction r with
 | nil => exact .nil
 | @cons p q ps qs h t ih =>
  obtain ⟨h1, h2⟩ := h
  rw [List.filter_cons, List.filter_cons]
  by_cases e : p.1 = k
  ·have a : ¬ decide (p.1 ≠ k) = true := by simp [e]
   have b : ¬ decide (q.1 ≠ k) = true := by simp [h1.symm.trans e]
   rw [if_neg a, if_neg b]; exact ih
  ·have e' : ¬ q.1 = k := fun z => e (h1.trans z)
   have a : decide (p.1 ≠ k) = true := by simp [e]
   have b : decide (q.1 ≠ k) = true := by simp [e']
   rw [if_pos a, if_pos b]; exact .cons ⟨h1, h2⟩ ih
theorem KV.keys {kvs : List (κ × V)} {vs : List (κ × Value)} (r : KV kvs vs) : kvs.map (·.1) = vs.map (·.1) := by
 unfold KV at r
 induction r with
 | nil => rfl
 | cons h t ih => rw [List.map_cons, List.map_cons, ih, h.1]
theorem KV.length {kvs : List (κ × V)} {vs : List (κ × Value)} (r : KV kvs vs) : kvs.length = vs.length := Paired.length r
end
theorem kV_is {P : Program} {w : World} {k : Key} {u : Value} (r : RelV (kV k) u) : (mixKind P w).is k u = true := by
 cases k with
 | inl i => obtain ⟨t, e⟩ := (show ∃ t, u = Value.int i t from r); subst e; exact mixKind_int P w i t
 | inr x => obtain ⟨t, e⟩ := (show ∃ t, u = Value.str x t from r); subst e; exact mixKind_str P w x t
theorem items_are {P : Program} {w : World} : ∀ {ks : List Key} {us : List Value}, Vals (ks.map kV) us -> ItemsAre (mixKind P w) ks us
 | [], _, r => by rw [List.map_nil] at r; cases r; exact .nil
 | k :: ks, _, r => by
  rw [List.map_cons] at r
  cases r with
  | cons h t => exact .cons (kV_is h) (items_are t)
abbrev KT (H : Hp) : List (List Key × V) -> List (List Key × Addr × Value) -> Prop := Paired fun p q => p.1 = q.1 /\ H q.2.1 = some (.tup (p.1.map kV)) /\ RelV p.2 q.2.2
theorem KT.val {H : Hp} {kvs : List (List Key × V)} {xs : List (List Key × Addr × Value)} (r : KT H kvs xs) (k : List Key) : RelO (valV kvs k) ((atKey xs k).map (·.2)) := by
 induction r with
 | nil => exact True.intro
 | @cons p q ps qs h t ih =>
  obtain ⟨h1, _, h2⟩ := h
  by_cases e : p.1 = k
  ·have e' : q.1 = k := h1.symm.trans e
   have b : atKey (q :: qs) k = some q.2 := by simp [atKey, List.find?_cons, e']
   rw [valV_pos e, b]; exact h2
  ·have e' : ¬ q.1 = k := fun z => e (h1.trans z)
   have b : atKey (q :: qs) k = atKey qs k := by simp [atKey, List.find?_cons, e']
   rw [valV_neg e, b]; exact ih
theorem KT.repl {H : Hp} {kvs : List (List Key × V)} {xs : List (List Key × Addr × Value)} (r : KT H kvs xs) (k : List Key) {y : V} {u : Value} (ry : RelV y u) :
  KT H (kvs.map fun kv => if kv.1 = k then (kv.1, y) else kv) (xs.map (putAt k u)) := by
 induction r with
 | nil => exact .nil
 | @cons p q ps qs h t ih =>
  rw [List.map_cons, List.map_cons]
  refine .cons ?_ ih
  obtain ⟨h1, h2, h3⟩ := h
  unfold putAt
  by_cases e : p.1 = k
  ·rw [if_pos e, if_pos (h1.symm.trans e)]; exact ⟨h1, h2, ry⟩
  ·rw [if_neg e, if_neg (fun z => e (h1.trans z))]; exact ⟨h1, h2, h3⟩
theorem KT.put {H : Hp} {kvs : List (List Key × V)} {xs : List (List Key × Addr × Value)} (r : KT H kvs xs) (k : List Key) {b : Addr} {y : V} {u : Value} (hb : H b = some (.tup (k.map kV))) (ry : RelV y u) :
  KT H (putK kvs k y) (storedH xs k b u) := by
 have e : (kvs.any fun kv => decide (kv.1 = k)) = (atKey xs k).isSome := by
  rw [valV_any, (r.val k).isSome_eq, Option.isSome_map]
 unfold putK storedH
 rw [e]
 by_cases q : (atKey xs k).isSome = true
 ·rw [if_pos q, if_pos q]; exact r.repl k ry
 ·rw [if_neg q, if_neg q]; exact Paired.snoc r ⟨rfl, hb, ry⟩
theorem KT.keeps {H H' : Hp} {kvs : List (List Key × V)} {xs : List (List Key × Addr × Value)} (r : KT H kvs xs) (ht : ∀ b ys, H b = some (.tup ys) -> H' b = some (.tup ys)) : KT H' kvs xs :=
 Paired.mapP r fun _ _ z => ⟨z.1, ht _ _ z.2.1, z.2.2⟩
section
variable {P : Program} {w : World} {H : Hp} {h : Heap} {a : Addr}
theorem rd_of {u : HO} (ok : HOk P w H h) (e : Rd H a u) : ObjOk P w H h a u := e.ok ok
theorem dk_rd {kvs : List (Key × V)} (ok : HOk P w H h) (e : Rd H a (.dK kvs)) : kvs.length <= sizeLine /\ (a == sysModules) = false /\ ∃ vs, KV kvs vs /\ h.DictOf (mixKind P w) a vs :=
 show ObjOk P w H h a (.dK kvs) from rd_of ok e
theorem dk_of {kvs : List (Key × V)} (ok : HOk P w H h) (e : H a = some (.dK kvs)) : kvs.length <= sizeLine /\ (a == sysModules) = false /\ ∃ vs, KV kvs vs /\ h.DictOf (mixKind P w) a vs := dk_rd ok (.inl e)
theorem key_of {ks : List Key} (ok : HOk P w H h) (e : H a = some (.tup (ks.map kV))) : (tupleKind (mixKind P w)).is h ks a := by
 obtain ⟨_, its, r, o, h1, h2, n, h3⟩ := (show ObjOk P w H h a (.tup (ks.map kV)) from ok a _ e)
 exact ⟨o, its.toArray, n, h1, h2, h3, by simpa using items_are r⟩
theorem dt_rd {kvs : List (List Key × V)} (ok : HOk P w H h) (e : Rd H a (.dT kvs)) : kvs.length <= sizeLine /\ (a == sysModules) = false /\
  ∃ xs, KT H kvs xs /\ h.DictOfH (tupleKind (mixKind P w)) a xs := by
 obtain ⟨z, y, xs, r, o, es, ep, h1, h2, h3, h4, h5⟩ := (show ObjOk P w H h a (.dT kvs) from rd_of ok e)
 refine ⟨z, y, xs, r, o, es, ep, h1, h2, h3, h4, fun x hx => ?_, h5⟩
 have all : ∀ {l : List (List Key × V)} {m : List (List Key × Addr × Value)}, KT H l m -> ∀ x ∈ m, (tupleKind (mixKind P w)).is h x.1 x.2.1 := by
  intro l m q
  induction q with
  | nil => intro x hx; exact nomatch hx
  | @cons p q ps qs hq t ih =>
   intro x hx
   rcases List.mem_cons.mp hx with e | hx
   ·subst e
    exact key_of ok (by rw [<- hq.1]; exact hq.2.1)
   ·exact ih x hx
 exact all r x hx
theorem dt_of {kvs : List (List Key × V)} (ok : HOk P w H h) (e : H a = some (.dT kvs)) : kvs.length <= sizeLine /\ (a == sysModules) = false /\
  ∃ xs, KT H kvs xs /\ h.DictOfH (tupleKind (mixKind P w)) a xs := dt_rd ok (.inl e)
end
def DGet (H : Hp) (a : Addr) (y : V) (r : Option V) : Prop :=
 (∃ kvs k, Rd H a (.dK kvs) /\ y = kV k /\ r = valV kvs k) \/ ∃ kvs k b, Rd H a (.dT kvs) /\ y = .ref b /\ H b = some (.tup (k.map kV)) /\ r = valV kvs k
def DPut (H : Hp) (a : Addr) (y v : V) (H' : Hp) : Prop :=
 (∃ kvs k, H a = some (.dK kvs) /\ y = kV k /\ kvs.length < sizeLine /\ H' = upd H a (.dK (putK kvs k v))) \/
 ∃ kvs k b, H a = some (.dT kvs) /\ y = .ref b /\ H b = some (.tup (k.map kV)) /\ kvs.length < sizeLine /\ H' = upd H a (.dT (putK kvs k v))
theorem DGet.k {H : Hp} {a : Addr} {kvs : List (Key × V)} {k : Key} (e : H a = some (.dK kvs)) : DGet H a (kV k) (valV kvs k) := .inl ⟨kvs, k, .inl e, rfl, rfl⟩
theorem DGet.t {H : Hp} {a b : Addr} {kvs : List (List Key × V)} {k : List Key} (e : H a = some (.dT kvs)) (eb : H b = some (.tup (k.map kV))) : DGet H a (.ref b) (valV kvs k) := .inr ⟨kvs, k, b, .inl e, rfl, eb, rfl⟩
theorem DPut.k {H : Hp} {a : Addr} {kvs : List (Key × V)} {k : Key} {v : V} (e : H a = some (.dK kvs)) (hl : kvs.length < sizeLine) : DPut H a (kV k) v (upd H a (.dK (putK kvs k v))) := .inl ⟨kvs, k, e, rfl, hl, rfl⟩
theorem DPut.t {H : Hp} {a b : Addr} {kvs : List (List Key × V)} {k : List Key} {v : V} (e : H a = some (.dT kvs)) (eb : H b = some (.tup (k.map kV))) (hl : kvs.length < sizeLine) :
  DPut H a (.ref b) v (upd H a (.dT (putK kvs k v))) := .inr ⟨kvs, k, b, e, rfl, eb, hl, rfl⟩
section
variable {X : Cx} {pins : List (Addr × Obj)} {σ : St} {H : Hp} {s : Shared} {a : Addr} {y v : V} {u r : Value} {o : Option V} {A : Around} {E : Value -> Shared -> Prop}
theorem Inv.big (I : Inv X pins σ H s) : sysModules < s.heap.objs.size := by
 have h : mainGlobals < s.heap.objs.size := (I.mod.glob.keeps I.bk).lt
 exact Nat.lt_trans (by decide) h
theorem d_getItem {Q : Value -> Shared -> Prop} (hu : A.units + 1 < cLine) (I : Inv X pins σ H s) (g : DGet H a y (some v)) (ry : RelV y u) (h : ∀ w' s', Inv X pins σ H s' -> RelV v w' -> Q w' s') :
  wpAny (model X.prog X.w) A (getItem (.ref a) u) Q E s := by
 rcases g with ⟨kvs, k, e, ey, l⟩ | ⟨kvs, k, b, e, ey, eb, l⟩
 ·subst ey
  obtain ⟨z, hd, vs, rel, dd⟩ := dk_rd I.hok e
  obtain ⟨w', hw, rw'⟩ := RelO.some_of (v := v) (o := valueAt vs k) (by rw [l]; exact rel.val k)
  exact wpAny_getItem_of (kV_is ry) dd.mapOf hw (h w' _ (I.tok _) rw')
 ·subst ey
  cases (show u = Value.ref b from ry)
  obtain ⟨z, hd, xs, rel, dd⟩ := dt_rd I.hok e
  obtain ⟨w', hw, rw'⟩ := RelO.some_of (v := v) (o := (atKey xs k).map (·.2)) (by rw [l]; exact rel.val k)
  obtain ⟨p, hp, hp2⟩ := Option.map_eq_some_iff.mp hw
  refine wpAny_getItem_heap (tupleKind_room_in1 hu) (key_of I.hok eb) dd hp ?_
  rw [hp2]
  exact h w' _ (I.tok _) rw'
theorem d_in {Q : Value -> Shared -> Prop} (hu : A.units + 1 < cLine) (I : Inv X pins σ H s) (g : DGet H a y o) (ry : RelV y u) (h : ∀ s', Inv X pins σ H s' -> Q (.bool o.isSome) s') :
  wpAny (model X.prog X.w) A (compareOp .In u (.ref a)) Q E s := by
 rcases g with ⟨kvs, k, e, ey, l⟩ | ⟨kvs, k, b, e, ey, eb, l⟩
 ·subst ey
  obtain ⟨z, hd, vs, rel, dd⟩ := dk_rd I.hok e
  refine wpAny_in_of (kV_is ry) hd dd.mapOf ?_
  rw [<- (rel.val k).isSome_eq, <- l]
  exact h _ (I.tok _)
 ·subst ey
  cases (show u = Value.ref b from ry)
  obtain ⟨z, hd, xs, rel, dd⟩ := dt_rd I.hok e
  refine wpAny_in_heap (tupleKind_room_in1 hu) (key_of I.hok eb) hd dd ?_
  have q := (rel.val k).isSome_eq
  rw [Option.isSome_map] at q
  rw [<- q, <- l]
  exact h _ (I.tok _)
theorem d_notIn {Q : Value -> Shared -> Prop} (hu : A.units + 1 < cLine) (I : Inv X pins σ H s) (g : DGet H a y o) (ry : RelV y u) (h : ∀ s', Inv X pins σ H s' -> Q (.bool (!o.isSome)) s') :
  wpAny (model X.prog X.w) A (compareOp .NotIn u (.ref a)) Q E s := by
 rcases g with ⟨kvs, k, e, ey, l⟩ | ⟨kvs, k, b, e, ey, eb, l⟩
 ·subst ey
  obtain ⟨z, hd, vs, rel, dd⟩ := dk_rd I.hok e
  refine wpAny_notIn_of (kV_is ry) hd dd.mapOf ?_
  rw [<- (rel.val k).isSome_eq, <- l]
  exact h _ (I.tok _)
 ·subst ey
  cases (show u = Value.ref b from ry)
  obtain ⟨z, hd, xs, rel, dd⟩ := dt_rd I.hok e
  refine wpAny_notIn_heap (tupleKind_room_in1 hu) (key_of I.hok eb) hd dd ?_
  have q := (rel.val k).isSome_eq
  rw [Option.isSome_map] at q
  rw [<- q, <- l]
  exact h _ (I.tok _)
theorem d_write {h' : Heap} {t' : Nat} {ob : HO} (I : Inv X pins σ H s) (mu : Mut (H a)) (hs : Heap.SameBut a s.heap h') (he : ∃ q, h'.get? a = some q) (new : ObjOk X.prog X.w (upd H a ob) h' a ob) :
  Inv X pins σ (upd H a ob) { s with heap := h', toks := t' } :=
 I.write (x := a) (e := a) mu (.inl rfl) (fun b q hb z => (hs.2 b hb).trans z) he new
theorem dk_new {P : Program} {w : World} {H' : Hp} {h' : Heap} {kvs : List (Key × V)} {vs : List (Key × Value)} (z : kvs.length <= sizeLine) (hd : (a == sysModules) = false) (rel : KV kvs vs) (dd : h'.DictOf (mixKind P w) a vs) :
  ObjOk P w H' h' a (.dK kvs) := ⟨z, hd, vs, rel, dd⟩
theorem d_setItem {H' : Hp} {Q : Unit -> Shared -> Prop} (hu : A.units + 1 < cLine) (I : Inv X pins σ H s) (g : DPut H a y v H') (ry : RelV y u) (rv : RelV v r) (h : ∀ s', Inv X pins σ H' s' -> Q () s') :
  wpAny (model X.prog X.w) A (setItem (.ref a) u r) Q E s := by
 rcases g with ⟨kvs, k, e, ey, l, eH⟩ | ⟨kvs, k, b, e, ey, eb, l, eH⟩
 ·subst ey eH
  obtain ⟨z, hd, vs, rel, dd⟩ := dk_of I.hok e
  have hz : vs.length <= sizeLine := by rw [<- rel.length]; exact z
  have hl : (putK kvs k v).length <= sizeLine := by have := length_putK kvs k v; omega
  refine wpAny_setItem_pairs (hsz := hz) (kV_is ry) dd fun h' dd' hs => h _ ?_
  have he : ∃ q, h'.get? a = some q := let ⟨q, _, _, hq, _⟩ := dd'; ⟨q, hq⟩
  exact d_write I (by rw [e]; exact True.intro) hs he (dk_new hl hd (rel.put k rv) dd')
 ·subst ey eH
  cases (show u = Value.ref b from ry)
  obtain ⟨z, hd, xs, rel, dd⟩ := dt_of I.hok e
  have hz : xs.length <= sizeLine := by rw [<- Paired.length rel]; exact z
  have hl : (putK kvs k v).length <= sizeLine := by have := length_putK kvs k v; omega
  refine wpAny_setItem_heap (hsz := hz) (tupleKind_room_in1 hu) (key_of I.hok eb) dd fun h' dd' hs => h _ ?_
  obtain ⟨q, es, ep, hq, h2, h3, h4, _, h5⟩ := dd'
  refine d_write I (by rw [e]; exact True.intro) hs ⟨q, hq⟩ ⟨hl, hd, _, (rel.put k eb rv).keeps fun c ys ec => ?_, q, es, ep, hq, h2, h3, h4, h5⟩
  rw [upd_ne (ne_of ec e (fun z => nomatch z))]
  exact ec
end
section
variable {X : Cx} {pins : List (Addr × Obj)} {σ : St} {H : Hp} {s : Shared} {a : Addr} {kvs : List (Key × V)} {k : Key} {u : Value} {A : Around} {E : Value -> Shared -> Prop}
theorem d_len {Q : Value -> Shared -> Prop} (I : Inv X pins σ H s) (e : Rd H a (.dK kvs)) (h : ∀ t s', Inv X pins σ H s' -> Q (.int kvs.length t) s') : wpAny (model X.prog X.w) A (call (.builtin "len") [.ref a]) Q E s := by
 obtain ⟨z, hd, vs, rel, dd⟩ := dk_rd I.hok e
 refine call_len_dict hd dd (by rw [<- rel.length]; rw [sizeLine_eq] at z; omega) ?_
 rw [<- rel.length]
 exact h _ _ (I.tok _)
end
theorem dict_typeIs {X : Cx} {pins : List (Addr × Obj)} {σ : St} {H : Hp} {s : Shared} {a : Addr} {y : V} {o : Option V} (I : Inv X pins σ H s) (g : DGet H a y o) : s.TypeIs (.ref a) "dict" := by
 rcases g with ⟨kvs, k, e, _, _⟩ | ⟨kvs, k, b, e, _, _, _⟩
 ·obtain ⟨_, _, vs, _, dd⟩ := dk_rd I.hok e
  exact dd.typeIs
 ·obtain ⟨_, _, xs, _, dd⟩ := dt_rd I.hok e
  exact dd.typeIs
def sDPut (td ty tv : TE) : TS := fun D σ H => tv σ H fun v H1 => td σ H1 fun x H2 => ty σ H2 fun y H3 => ∃ a H4, x = .ref a /\ DPut H3 a y v H4 /\ D.nx σ H4
section
variable {X : Cx} {o i e value : Expr} {pos pos' tpos : Pos} {td ty tv : TE}
end
theorem dk_empty {P : Program} {w : World} {H : Hp} (h : Heap) (hb : sysModules < h.objs.size) : ObjOk P w H (h.push { cls := .type "dict", data := .dict #[] }) h.objs.size (.dK []) :=
 ⟨Nat.zero_le _, beq_eq_false_iff_ne.mpr (Ne.symm (Nat.ne_of_lt hb)), [], .nil, Heap.DictOf.new h⟩
def tDNewK : TE := fun _ H Q => ∀ p, H p = none -> Q (.ref p) (upd H p (.dK []))
section
variable {X : Cx} {pos : Pos}
theorem pe_dnewK : PE X (.Dict [] [] pos) tDNewK := fun pins s σ H Q I h =>
 wpAny_Dict_empty ⟨.ref s.heap.objs.size, _, I.laid (a := s.heap.objs.size) (o := .dK []) (t' := s.toks) (fun _ _ q => Heap.get?_push_of_some _ q) (Nat.le_refl _) (dk_empty s.heap I.big), rfl, h _ (I.hok.fresh (Nat.le_refl _))⟩
end
def tPairs : List (TE × TE) -> St -> Hp -> (List (V × V) -> Hp -> Prop) -> Prop
 | [], _, H, Q => Q [] H
 | (tk, tv) :: r, σ, H, Q => tk σ H fun x H1 => tv σ H1 fun y H2 => tPairs r σ H2 fun ps H3 => Q ((x, y) :: ps) H3
abbrev VV : List (V × V) -> List (Value × Value) -> Prop := Paired fun p q => RelV p.1 q.1 /\ RelV p.2 q.2
def PPs (X : Cx) (pos : Pos) (keys : List (Option Expr)) (values : List Expr) (trs : List (TE × TE)) : Prop :=
 ∀ (pins : List (Addr × Obj)) (s : Shared) (σ : St) (H : Hp) (Q : List (V × V) -> Hp -> Prop), Inv X pins σ H s -> tPairs trs σ H Q ->
  wpAny (model X.prog X.w) X.A (evalPairs (pairTrees keys values X.env pos)) (fun vs s' => ∃ ps H', Inv X pins σ H' s' /\ VV ps vs /\ Q ps H') X.xe s
theorem pps_nil {X : Cx} {pos : Pos} : PPs X pos [] [] [] := fun pins s σ H Q I h => pairTrees_nil_walk ⟨[], H, I, .nil, h⟩
theorem pps_cons {X : Cx} {pos : Pos} {k v : Expr} {ks : List (Option Expr)} {vs : List Expr} {tk tv : TE} {trs : List (TE × TE)} (hk : PE X k tk) (hv : PE X v tv) (hr : PPs X pos ks vs trs) :
  PPs X pos (some k :: ks) (v :: vs) ((tk, tv) :: trs) := fun pins s σ H Q I h =>
 pairTrees_cons_walk (thn (hk pins s σ H _ I h) fun u s1 ⟨x, H1, I1, rx, q1⟩ => thn (hv pins s1 σ H1 _ I1 q1) fun w2 s2 ⟨y, H2, I2, ry, q2⟩ =>
  thn (hr pins s2 σ H2 _ I2 q2) fun ws s3 ⟨ps, H3, I3, rel, q3⟩ => ⟨(x, y) :: ps, H3, I3, .cons ⟨rx, ry⟩ rel, q3⟩)
def mergeK (kvs more : List (Key × V)) : List (Key × V) := more.foldl (fun acc kv => putK acc kv.1 kv.2) kvs
theorem KV.merge : ∀ {more : List (Key × V)} {rs : List (Key × Value)} {kvs : List (Key × V)} {vs : List (Key × Value)}, KV more rs -> KV kvs vs -> KV (mergeK kvs more) (merged vs rs) := by
 intro more rs kvs vs r
 unfold KV at r
 induction r generalizing kvs vs with
 | nil => intro q; exact q
 | @cons p q ps qs h t ih =>
  intro r0
  have e : KV (putK kvs p.1 p.2) (stored vs q.1 q.2) := by
   have := r0.put p.1 h.2
   rw [<- h.1]; exact this
  exact ih e
theorem length_mergeK : ∀ (more kvs : List (Key × V)), (mergeK kvs more).length <= kvs.length + more.length
 | [], kvs => by show kvs.length <= kvs.length + 0; omega
 | p :: r, kvs => by
  have h1 := length_mergeK r (putK kvs p.1 p.2)
  have h2 := length_putK kvs p.1 p.2
  show (mergeK (putK kvs p.1 p.2) r).length <= _
  rw [List.length_cons]; omega
theorem carries_of {P : Program} {w : World} : ∀ {kvs : List (Key × V)} {ws : List (Value × Value)}, VV (kvs.map fun kv => (kV kv.1, kv.2)) ws -> ∃ rs, Carries (mixKind P w) ws rs /\ KV kvs rs
 | [], _, r => by rw [List.map_nil] at r; cases r; exact ⟨[], True.intro, .nil⟩
 | p :: kvs, _, r => by
  rw [List.map_cons] at r
  cases r with
  | @cons a b as bs h t =>
   obtain ⟨rs, c, q⟩ := carries_of (P := P) (w := w) t
   obtain ⟨b1, b2⟩ := b
   exact ⟨(p.1, b2) :: rs, ⟨kV_is h.1, rfl, c⟩, .cons ⟨rfl, h.2⟩ q⟩
def tDisp (trs : List (TE × TE)) : TE := fun σ H Q => ∀ p, H p = none -> tPairs trs σ (upd H p (.dK [])) fun ps H2 => H2 p = some (.dK []) /\ ∃ kvs : List (Key × V), ps = kvs.map (fun kv => (kV kv.1, kv.2)) /\ kvs.length <= 15 /\ Q (.ref p) (upd H2 p (.dK (mergeK [] kvs)))
theorem pe_disp {X : Cx} {pos : Pos} {keys : List (Option Expr)} {values : List Expr} {trs : List (TE × TE)} (h : PPs X pos keys values trs) (hall : keys.all (·.isSome) = true) (hl : keys.length = values.length) (h0 : keys ≠ [])
  (h15 : keys.length <= 15) : PE X (.Dict keys values pos) (tDisp trs) := by
 intro pins s σ H Q I q
 have hn := I.hok.fresh (Nat.le_refl s.heap.objs.size)
 have I1 := I.laid (a := s.heap.objs.size) (o := .dK []) (h' := s.heap.push { cls := .type "dict", data := .dict #[] }) (t' := s.toks) (fun _ _ q => Heap.get?_push_of_some _ q) (Nat.le_refl _) (dk_empty s.heap I.big)
 refine wpAny_Dict_walk (knd := mixKind X.prog X.w) hall hl h0 h15 (thn (h pins _ σ _ _ I1 (q _ hn)) fun ws s2 ⟨ps, H2, I2, rel, e, kvs, ep, lk, q2⟩ => ?_)
 subst ep
 obtain ⟨rs, c, rk⟩ := carries_of (P := X.prog) (w := X.w) rel
 obtain ⟨z, hd, vs0, r0, dd⟩ := dk_of I2.hok e
 cases r0
 refine ⟨rs, c, dd, fun h' dd' hs => ⟨.ref s.heap.objs.size, _, ?_, rfl, q2⟩⟩
 have hz : (mergeK [] kvs).length <= sizeLine := by
  have h1 := length_mergeK kvs []
  rw [List.length_nil] at h1
  rw [sizeLine_eq]; omega
 have he : ∃ q, h'.get? s.heap.objs.size = some q := let ⟨q, _, _, hq, _⟩ := dd'; ⟨q, hq⟩
 exact d_write I2 (by rw [e]; exact True.intro) hs he (dk_new hz hd (rk.merge .nil) dd')
section
variable {X : Cx} {pins : List (Addr × Obj)} {σ : St} {H : Hp} {s : Shared} {a : Addr} {y d : V} {u r : Value} {o : Option V} {A : Around} {E : Value -> Shared -> Prop}
end
section
variable {X : Cx} {o e f : Expr} {apos cpos : Pos} {td ty tx : TE}
end
section
variable {X : Cx} {pins : List (Addr × Obj)} {σ : St} {H : Hp} {s : Shared} {a : Addr} {kvs : List (Key × V)} {A : Around} {E : Value -> Shared -> Prop}
end
section
variable {X : Cx} {pins : List (Addr × Obj)} {σ : St} {H : Hp} {s : Shared} {a : Addr} {y : V} {u : Value} {A : Around} {E : Value -> Shared -> Prop}
end
end L2
set_option maxHeartbeats 1000000
namespace Pu
inductive D where
 | non | bl (b : Bool) | int (i : Int) | str (s : List Nat) | tup (xs : List D) | lst (xs : List D)
 | dct (t : Bool) (ks vs : List D)
 | ins (c : String) (ns : List String) (xs : List D)
 | exn (c : String) (ns : List String) (xs : List D)
 | fn (f : String)
inductive R (α : Type) where
 | ok (a : α) | exc (x : D) | bad
@[inline] def R.bind {α β : Type} (r : R α) (f : α -> R β) : R β := match r with
 | .ok a => f a
 | .exc x => .exc x
 | .bad => .bad
theorem R.ok_of {α β : Type} {r : R α} {f : α -> R β} {b : β} (h : r.bind f = .ok b) : ∃ a, r = .ok a /\ f a = .ok b := by
 cases r with
 | ok a => exact ⟨a, rfl, h⟩
 | exc x => exact nomatch h
 | bad => exact nomatch h
noncomputable section
open Classical in
def guardR {α : Type} (c : Prop) (r : R α) : R α := if c then r else .bad
theorem guardR_pos {α : Type} {c : Prop} {r : R α} (h : c) : guardR c r = r := if_pos h
theorem guardR_of {α : Type} {c : Prop} {r : R α} {a : α} (h : guardR c r = .ok a) : c /\ r = .ok a := by
 unfold guardR at h
 split at h
 ·exact ⟨by assumption, h⟩
 ·exact nomatch h
inductive OK where
 | l | d (t : Bool) (ks : List D) | i (n : Nat) (c : String) (ns : List String)
def ofK : OK -> List D -> D
 | .l, xs => .lst xs
 | .d t ks, xs => .dct t ks xs
 | .i _ c ns, xs => .ins c ns xs
inductive Sl where
 | v (d : D) | o (k : OK) (xs : List D)
abbrev PSt := List (Option Sl)
abbrev Ex := PSt -> R D
inductive Fl where
 | nx (st : PSt) | rt (d : D) | bk (st : PSt) | ct (st : PSt)
abbrev Bd := PSt -> R Fl
@[irreducible] def big : Nat := 10000000
theorem big_eq : big = 10000000 := by unfold big; rfl
theorem le_big {n : Nat} (h : n <= 10000000) : n <= big := by rw [big_eq]; exact h
theorem lt_big {n : Nat} (h : n < 10000000) : n < big := by rw [big_eq]; exact h
theorem le_bigI {n : Int} (h : n <= 10000000) : n <= (big : Int) := by rw [big_eq]; exact h
theorem ge_bigI {n : Int} (h : -10000000 <= n) : -(big : Int) <= n := by rw [big_eq]; exact h
def sIx (n d : Nat) : Option Int -> Nat
 | none => d
 | some v => if v < 0 then (v + (n : Int)).toNat else min v.toNat n
def ixN (n : Nat) (i : Int) : Option Nat := if 0 <= i then (if i < n then some i.toNat else none) else if -(n : Int) <= i then some (i + n).toNat else none
def atI {α : Type} (xs : List α) (i : Int) : Option α := (ixN xs.length i).bind fun j => xs[j]?
def cut {α : Type} (xs : List α) (lo hi : Option Int) : List α := (xs.drop (sIx xs.length 0 lo)).take (sIx xs.length xs.length hi - sIx xs.length 0 lo)
def rep {α : Type} (n : Nat) (xs : List α) : List α := (List.replicate n xs).flatten
def ofO {α : Type} : Option α -> R α
 | some a => .ok a
 | none => .bad
abbrev Op2 := D -> D -> R D
def dAdd : Op2
 | .int i, .int j => .ok (.int (i + j))
 | .str x, .str y => guardR (x.length + y.length <= big) (.ok (.str (x ++ y)))
 | .lst x, .lst y => guardR (x.length + y.length <= big) (.ok (.lst (x ++ y)))
 | _, _ => .bad
def dSub : Op2
 | .int i, .int j => .ok (.int (i - j))
 | _, _ => .bad
def dFdiv : Op2
 | .int i, .int j => guardR (0 < j /\ j < 1073741824) (.ok (.int (i / j)))
 | _, _ => .bad
def dMod : Op2
 | .int i, .int j => guardR (0 < j) (.ok (.int (i % j)))
 | _, _ => .bad
def dPow : Op2
 | .int i, .int j => guardR (0 <= j /\ j <= 1000000 /\ i.natAbs < 18446744073709551616) (.ok (.int (i ^ j.toNat)))
 | _, _ => .bad
def dNeg : D -> R D
 | .int i => .ok (.int (-i))
 | _ => .bad
def keyS : D -> Bool
 | .int _ => true
 | .str _ => true
 | _ => false
def keyOk (t : Bool) (d : D) : Bool := match d with
 | .int _ => !t
 | .str _ => !t
 | .tup xs => t && xs.all keyS
 | _ => false
mutual
def eqK : D -> D -> Bool
 | .int i, .int j => i == j
 | .str x, .str y => x == y
 | .tup x, .tup y => eqKs x y
 | _, _ => false
def eqKs : List D -> List D -> Bool
 | [], [] => true
 | a :: x, b :: y => eqK a b && eqKs x y
 | _, _ => false
end
def getK (ks vs : List D) (k : D) : Option D := ((ks.zip vs).find? fun p => eqK p.1 k).map (·.2)
def hasK (ks : List D) (k : D) : Bool := ks.any fun x => eqK x k
def putKs (ks : List D) (k : D) : List D := if hasK ks k = true then ks else ks ++ [k]
def putVs (ks vs : List D) (k v : D) : List D := if hasK ks k = true then (ks.zip vs).map (fun p => if eqK p.1 k = true then v else p.2) else vs ++ [v]
def dIx : Op2
 | .dct t ks vs, k => guardR (keyOk t k = true) (ofO (getK ks vs k))
 | .lst x, .int i => ofO (atI x i)
 | .tup x, .int i => ofO (atI x i)
 | .str x, .int i => guardR (x.length <= big) (ofO ((atI x i).map fun c => .str [c]))
 | _, _ => .bad
mutual
def eqD : D -> D -> Bool
 | .non, .non => true
 | .bl a, .bl b => a == b
 | .bl a, .int j => (if a then (1 : Int) else 0) == j
 | .int i, .bl b => i == (if b then (1 : Int) else 0)
 | .int i, .int j => i == j
 | .str x, .str y => x == y
 | .tup x, .tup y => eqDs x y
 | .lst x, .lst y => eqDs x y
 | _, _ => false
def eqDs : List D -> List D -> Bool
 | [], [] => true
 | a :: x, b :: y => eqD a b && eqDs x y
 | _, _ => false
end
mutual
def dep : D -> Nat
 | .tup x => deps x + 1
 | .lst x => deps x + 1
 | .non => 0
 | .bl _ => 0
 | .int _ => 0
 | .str _ => 0
 | .dct _ _ _ => 0
 | .ins _ _ _ => 0
 | .exn _ _ _ => 0
 | .fn _ => 0
def deps : List D -> Nat
 | [] => 0
 | a :: x => max (dep a) (deps x)
end
mutual
def plain : D -> Bool
 | .tup x => plains x
 | .lst x => plains x
 | .non => true
 | .bl _ => true
 | .int _ => true
 | .str _ => true
 | .dct _ _ _ => false
 | .ins _ _ _ => false
 | .exn _ _ _ => false
 | .fn _ => false
def plains : List D -> Bool
 | [] => true
 | a :: x => plain a && plains x
end
def dEq : Op2 := fun a b => guardR (dep a <= 64 /\ plain a = true /\ plain b = true) (.ok (.bl (eqD a b)))
def dNe : Op2 := fun a b => guardR (dep a <= 64 /\ plain a = true /\ plain b = true) (.ok (.bl (!eqD a b)))
def dLe : Op2
 | .int i, .int j => .ok (.bl (decide (i <= j)))
 | _, _ => .bad
def dGt : Op2
 | .int i, .int j => .ok (.bl (decide (j < i)))
 | _, _ => .bad
def dGe : Op2
 | .int i, .int j => .ok (.bl (decide (j <= i)))
 | _, _ => .bad
def dLen : D -> R D
 | .dct false ks _ => .ok (.int ks.length)
 | .lst x => .ok (.int x.length)
 | .tup x => .ok (.int x.length)
 | .str x => guardR (x.length <= big) (.ok (.int x.length))
 | _ => .bad
def bltD : D -> Bool
 | .ins _ _ _ => false
 | .exn _ _ _ => false
 | .fn _ => false
 | _ => true
def isSt : D -> Bool
 | .str _ => true
 | _ => false
def isBl : D -> Bool
 | .bl _ => true
 | _ => false
def isIn : D -> Bool
 | .bl _ => true
 | .int _ => true
 | _ => false
def isTu : D -> Bool
 | .tup _ => true
 | _ => false
def isDc : D -> Bool
 | .dct _ _ _ => true
 | _ => false
def isLs : D -> Bool
 | .lst _ => true
 | _ => false
def findN (x y : List Nat) (lo : Nat) : Option Nat := (List.range' lo (x.length + 1 - lo)).find? fun i => decide (i + y.length <= x.length) && ((x.drop i).take y.length == y)
abbrev Mop := D -> List D -> R D
def mIndex : Mop
 | .str x, [.str y] => (ofO (findN x y 0)).bind fun i => .ok (.int i)
 | _, _ => .bad
def dMax2 : D -> D -> R D
 | .int i, .int j => .ok (.int (if j > i then j else i))
 | _, _ => .bad
def dMin2 : D -> D -> R D
 | .int i, .int j => .ok (.int (if j < i then j else i))
 | _, _ => .bad
def inD (x : D) (ys : List D) : Bool := ys.any fun y => eqD y x
def dIn : D -> D -> R D
 | k, .dct t ks _ => guardR (keyOk t k = true) (.ok (.bl (hasK ks k)))
 | x, .lst ys => guardR (deps ys <= 60 /\ plain x = true /\ plains ys = true) (.ok (.bl (inD x ys)))
 | x, .tup ys => guardR (deps ys <= 60 /\ plain x = true /\ plains ys = true) (.ok (.bl (inD x ys)))
 | .str x, .str y => .ok (.bl (findN y x 0).isSome)
 | _, _ => .bad
def dNotIn : D -> D -> R D
 | k, .dct t ks _ => guardR (keyOk t k = true) (.ok (.bl (!hasK ks k)))
 | x, .lst ys => guardR (deps ys <= 60 /\ plain x = true /\ plains ys = true) (.ok (.bl (!inD x ys)))
 | x, .tup ys => guardR (deps ys <= 60 /\ plain x = true /\ plains ys = true) (.ok (.bl (!inD x ys)))
 | .str x, .str y => .ok (.bl (!(findN y x 0).isSome))
 | _, _ => .bad
def eVar (i : Nat) : Ex := fun st => match st[i]? with
 | some (some (.v d)) => .ok d
 | _ => .bad
def ePeek (i : Nat) : Ex := fun st => match st[i]? with
 | some (some (.v d)) => .ok d
 | some (some (.o k xs)) => .ok (ofK k xs)
 | _ => .bad
def eC (d : D) : Ex := fun _ => .ok d
def e2 (op : Op2) (f g : Ex) : Ex := fun st => (f st).bind fun x => (g st).bind fun y => op x y
def e1 (op : D -> R D) (f : Ex) : Ex := fun st => (f st).bind op
def eB (p : D -> Bool) (f : Ex) : Ex := fun st => (f st).bind fun x => guardR (bltD x = true) (.ok (.bl (p x)))
def onB {α : Type} (d : D) (f : Bool -> R α) : R α := match d with
 | .bl b => f b
 | _ => .bad
theorem onB_of {α : Type} {d : D} {f : Bool -> R α} {a : α} (h : onB d f = .ok a) : ∃ b, d = .bl b /\ f b = .ok a := by
 cases d <;> first | exact ⟨_, rfl, h⟩ | exact nomatch h
def eAnd (f g : Ex) : Ex := fun st => (f st).bind fun x => onB x fun b => if b = true then g st else .ok (.bl false)
def eOr (f g : Ex) : Ex := fun st => (f st).bind fun x => onB x fun b => if b = true then .ok (.bl true) else g st
def eNot (f : Ex) : Ex := fun st => (f st).bind fun x => onB x fun b => .ok (.bl (!b))
def eIf (c f g : Ex) : Ex := fun st => (c st).bind fun x => onB x fun b => if b = true then f st else g st
abbrev Exs := PSt -> R (List D)
def aNil : Exs := fun _ => .ok []
def aCons (f : Ex) (r : Exs) : Exs := fun st => (f st).bind fun x => (r st).bind fun xs => .ok (x :: xs)
def eTup (r : Exs) : Ex := fun st => (r st).bind fun xs => guardR (xs.length <= big) (.ok (.tup xs))
def eLst (r : Exs) : Ex := fun st => (r st).bind fun xs => guardR (xs.length <= big) (.ok (.lst xs))
def eCall (p : List D -> R D) (r : Exs) : Ex := fun st => (r st).bind p
def eMt (m : Mop) (f : Ex) (r : Exs) : Ex := fun st => (f st).bind fun x => (r st).bind fun xs => m x xs
def inI (d : D) {α : Type} (f : Int -> R α) : R α := match d with
 | .int i => f i
 | _ => .bad
theorem inI_of {α : Type} {d : D} {f : Int -> R α} {a : α} (h : inI d f = .ok a) : ∃ i, d = .int i /\ f i = .ok a := by
 cases d <;> first | exact ⟨_, rfl, h⟩ | exact nomatch h
abbrev ExO := PSt -> R (Option Int)
def oNone : ExO := fun _ => .ok none
def oSome (f : Ex) : ExO := fun st => (f st).bind fun x => inI x fun i => .ok (some i)
def dSl (x : D) (lo hi : Option Int) : R D := match x with
 | .lst xs => .ok (.lst (cut xs lo hi))
 | .str xs => guardR (xs.length <= big) (.ok (.str (cut xs lo hi)))
 | _ => .bad
def eSl (f : Ex) (lo hi : ExO) : Ex := fun st => (f st).bind fun x => (lo st).bind fun l => (hi st).bind fun h => dSl x l h
abbrev ItE := PSt -> R (List D)
def itE (f : Ex) : ItE := fun st => (f st).bind fun x => match x with
 | .lst xs => .ok xs
 | .tup xs => .ok xs
 | .str xs => guardR (xs.length <= big) (.ok (xs.map fun c => .str [c]))
 | _ => .bad
def rangeD (lo : Int) (n : Nat) : List D := (List.range n).map fun (k : Nat) => .int (lo + (k : Int))
def itR1 (f : Ex) : ItE := fun st => (f st).bind fun x => inI x fun j => guardR (-(big : Int) <= j /\ j <= (big : Int)) (.ok (rangeD 0 j.toNat))
def itR2 (f g : Ex) : ItE := fun st => (f st).bind fun x => (g st).bind fun y => inI x fun i => inI y fun j => guardR (-(big : Int) <= i /\ i <= (big : Int) /\ -(big : Int) <= j /\ j <= (big : Int)) (.ok (rangeD i (j - i).toNat))
abbrev Tg := D -> PSt -> R PSt
def tgN (i : Nat) : Tg := fun d st => .ok (st.set i (some (.v d)))
def setAll : List Nat -> List D -> PSt -> R PSt
 | [], [], st => .ok st
 | i :: is, d :: ds, st => setAll is ds (st.set i (some (.v d)))
 | _, _, _ => .bad
def tgT (is : List Nat) : Tg := fun d st => match d with
 | .tup xs => setAll is xs st
 | .lst xs => setAll is xs st
 | _ => .bad
def compR (tg : Tg) (c f : Ex) (st : PSt) : List D -> R (List D)
 | [] => .ok []
 | d :: ds => (tg d st).bind fun s1 => (c s1).bind fun x => onB x fun b => if b = true then (f s1).bind fun y => (compR tg c f st ds).bind fun ys => .ok (y :: ys) else compR tg c f st ds
def clr (is : List Nat) (st : PSt) : PSt := is.foldl (fun s i => s.set i none) st
def eComp (is : List Nat) (tg : Tg) (it : ItE) (c f : Ex) : Ex := fun st => (it st).bind fun xs => guardR (xs.length <= big) ((compR tg c f (clr is st) xs).bind fun ys => .ok (.lst ys))
def eTrue : Ex := fun _ => .ok (.bl true)
def onNx (r : R Fl) (f : PSt -> R Fl) : R Fl := r.bind fun x => match x with
 | .nx st => f st
 | .rt d => .ok (.rt d)
 | .bk st => .ok (.bk st)
 | .ct st => .ok (.ct st)
def sNext : Bd := fun st => .ok (.nx st)
def sSeq (a b : Bd) : Bd := fun st => onNx (a st) b
def sSet (i : Nat) (f : Ex) : Bd := fun st => (f st).bind fun d => .ok (.nx (st.set i (some (.v d))))
def sSetO (i : Nat) (f : Ex) : Bd := fun st => (f st).bind fun d => match d with
 | .lst xs => .ok (.nx (st.set i (some (.o .l xs))))
 | _ => .bad
def sTgt (tg : Tg) (f : Ex) : Bd := fun st => (f st).bind fun d => (tg d st).bind fun s1 => .ok (.nx s1)
def sApp (i : Nat) (f : Ex) : Bd := fun st => (f st).bind fun d => match st[i]? with
 | some (some (.o .l xs)) => guardR (xs.length < big) (.ok (.nx (st.set i (some (.o .l (xs ++ [d]))))))
 | _ => .bad
def sDNew (i : Nat) (t : Bool) : Bd := fun st => .ok (.nx (st.set i (some (.o (.d t []) []))))
def sDPut (i : Nat) (g f : Ex) : Bd := fun st => (f st).bind fun d => (g st).bind fun k => match st[i]? with
 | some (some (.o (.d t ks) vs)) => guardR (keyOk t k = true /\ vs.length < big) (.ok (.nx (st.set i (some (.o (.d t (putKs ks k)) (putVs ks vs k d))))))
 | _ => .bad
def sFldC (i : Nat) (c f : String) (e : Ex) : Bd := fun st => (e st).bind fun d => match st[i]? with
 | some (some (.o (.i n c' ns) xs)) => guardR (c' = c /\ f ∉ ns /\ ns.length < 900) (.ok (.nx (st.set i (some (.o (.i n c' (ns ++ [f])) (xs ++ [d]))))))
 | _ => .bad
def sNever : Bd := fun _ => .bad
def fz1 (st : PSt) (i : Nat) : PSt := match st[i]? with
 | some (some (.o k xs)) => st.set i (some (.v (ofK k xs)))
 | _ => st
def sFz (is : List Nat) (b : Bd) : Bd := fun st => b (is.foldl fz1 st)
def sRet (f : Ex) : Bd := fun st => (f st).bind fun d => .ok (.rt d)
def sExp (f : Ex) : Bd := fun st => (f st).bind fun _ => .ok (.nx st)
def sIf (c : Ex) (a b : Bd) : Bd := fun st => (c st).bind fun x => onB x fun q => if q = true then a st else b st
def forR (tg : Tg) (body : Bd) : List D -> PSt -> R Fl
 | [], st => .ok (.nx st)
 | d :: ds, st => (tg d st).bind fun s1 => (body s1).bind fun x => match x with
  | .nx s2 => forR tg body ds s2
  | .ct s2 => forR tg body ds s2
  | .bk s2 => .ok (.nx s2)
  | .rt v => .ok (.rt v)
def sFor (tg : Tg) (it : ItE) (body : Bd) : Bd := fun st => (it st).bind fun xs => forR tg body xs st
def whileR (c : Ex) (body : Bd) : Nat -> PSt -> R Fl
 | 0, _ => .bad
 | n + 1, st => (c st).bind fun x => onB x fun q => if q = true then (body st).bind fun x => (match x with
  | .nx s2 => whileR c body n s2
  | .ct s2 => whileR c body n s2
  | .bk s2 => .ok (.nx s2)
  | .rt v => .ok (.rt v)) else .ok (.nx st)
def sWhile (n : Nat) (c : Ex) (body : Bd) : Bd := fun st => whileR c body n st
def runD (np n : Nat) (b : Bd) (ds : List D) : R D :=
 guardR (ds.length = np) ((b (ds.map (fun d => some (.v d)) ++ List.replicate (n - np) none)).bind fun x => match x with
  | .nx _ => .ok .non
  | .rt d => .ok d
  | _ => .bad)
def runI1 (c : String) (np n : Nat) (b : Bd) (x : Nat) (ds : List D) : R D :=
 guardR (ds.length = np) ((b (some (.o (.i x c []) []) :: (ds.map (fun d => some (.v d)) ++ List.replicate (n - np - 1) none))).bind fun (fl : Fl) => match fl with
  | .nx st => (match (st[0]? : Option (Option Sl)) with
   | some (some (.o (.i y c' ns) xs)) => guardR (y = x) (.ok (.ins c' ns xs))
   | _ => .bad)
  | _ => .bad)
open Classical in
def runI (c : String) (np n : Nat) (b : Bd) (ds : List D) : R D := if h : ∃ d, ∀ x, runI1 c np n b x ds = .ok d then .ok (choose h) else .bad
theorem runI_of {c : String} {np n : Nat} {b : Bd} {ds : List D} {d : D} (h : runI c np n b ds = .ok d) (x : Nat) : runI1 c np n b x ds = .ok d := by
 unfold runI at h
 split at h
 ·rename_i e
  have := Classical.choose_spec e x
  rw [this]
  exact h
 ·cases h
end
end Pu
namespace Pu
@[simp] theorem bg0 : 0 <= big := le_big (by decide)
@[simp] theorem bl0 : 0 < big := lt_big (by decide)
@[simp] theorem bi0 : (0 : Int) <= (big : Int) := le_bigI (by decide)
@[simp] theorem bj0 : -(big : Int) <= (0 : Int) := ge_bigI (by decide)
@[simp] theorem bg1 : 1 <= big := le_big (by decide)
@[simp] theorem bl1 : 1 < big := lt_big (by decide)
@[simp] theorem bi1 : (1 : Int) <= (big : Int) := le_bigI (by decide)
@[simp] theorem bj1 : -(big : Int) <= (1 : Int) := ge_bigI (by decide)
@[simp] theorem bg2 : 2 <= big := le_big (by decide)
@[simp] theorem bl2 : 2 < big := lt_big (by decide)
@[simp] theorem bi2 : (2 : Int) <= (big : Int) := le_bigI (by decide)
@[simp] theorem bj2 : -(big : Int) <= (2 : Int) := ge_bigI (by decide)
@[simp] theorem bg3 : 3 <= big := le_big (by decide)
@[simp] theorem bl3 : 3 < big := lt_big (by decide)
@[simp] theorem bi3 : (3 : Int) <= (big : Int) := le_bigI (by decide)
@[simp] theorem bj3 : -(big : Int) <= (3 : Int) := ge_bigI (by decide)
@[simp] theorem bg4 : 4 <= big := le_big (by decide)
@[simp] theorem bl4 : 4 < big := lt_big (by decide)
@[simp] theorem bi4 : (4 : Int) <= (big : Int) := le_bigI (by decide)
@[simp] theorem bj4 : -(big : Int) <= (4 : Int) := ge_bigI (by decide)
@[simp] theorem bg5 : 5 <= big := le_big (by decide)
@[simp] theorem bl5 : 5 < big := lt_big (by decide)
@[simp] theorem bi5 : (5 : Int) <= (big : Int) := le_bigI (by decide)
@[simp] theorem bj5 : -(big : Int) <= (5 : Int) := ge_bigI (by decide)
@[simp] theorem bg6 : 6 <= big := le_big (by decide)
@[simp] theorem bl6 : 6 < big := lt_big (by decide)
@[simp] theorem bi6 : (6 : Int) <= (big : Int) := le_bigI (by decide)
@[simp] theorem bj6 : -(big : Int) <= (6 : Int) := ge_bigI (by decide)
@[simp] theorem bg7 : 7 <= big := le_big (by decide)
@[simp] theorem bl7 : 7 < big := lt_big (by decide)
@[simp] theorem bi7 : (7 : Int) <= (big : Int) := le_bigI (by decide)
@[simp] theorem bj7 : -(big : Int) <= (7 : Int) := ge_bigI (by decide)
@[simp] theorem bg8 : 8 <= big := le_big (by decide)
@[simp] theorem bl8 : 8 < big := lt_big (by decide)
@[simp] theorem bi8 : (8 : Int) <= (big : Int) := le_bigI (by decide)
@[simp] theorem bj8 : -(big : Int) <= (8 : Int) := ge_bigI (by decide)
@[simp] theorem bg9 : 9 <= big := le_big (by decide)
@[simp] theorem bl9 : 9 < big := lt_big (by decide)
@[simp] theorem bi9 : (9 : Int) <= (big : Int) := le_bigI (by decide)
@[simp] theorem bj9 : -(big : Int) <= (9 : Int) := ge_bigI (by decide)
@[simp] theorem bg10 : 10 <= big := le_big (by decide)
@[simp] theorem bl10 : 10 < big := lt_big (by decide)
@[simp] theorem bi10 : (10 : Int) <= (big : Int) := le_bigI (by decide)
@[simp] theorem bj10 : -(big : Int) <= (10 : Int) := ge_bigI (by decide)
@[simp] theorem bg11 : 11 <= big := le_big (by decide)
@[simp] theorem bl11 : 11 < big := lt_big (by decide)
@[simp] theorem bi11 : (11 : Int) <= (big : Int) := le_bigI (by decide)
@[simp] theorem bj11 : -(big : Int) <= (11 : Int) := ge_bigI (by decide)
@[simp] theorem bg12 : 12 <= big := le_big (by decide)
@[simp] theorem bl12 : 12 < big := lt_big (by decide)
@[simp] theorem bi12 : (12 : Int) <= (big : Int) := le_bigI (by decide)
@[simp] theorem bj12 : -(big : Int) <= (12 : Int) := ge_bigI (by decide)
@[simp] theorem bg13 : 13 <= big := le_big (by decide)
@[simp] theorem bl13 : 13 < big := lt_big (by decide)
@[simp] theorem bi13 : (13 : Int) <= (big : Int) := le_bigI (by decide)
@[simp] theorem bj13 : -(big : Int) <= (13 : Int) := ge_bigI (by decide)
@[simp] theorem bg14 : 14 <= big := le_big (by decide)
@[simp] theorem bl14 : 14 < big := lt_big (by decide)
@[simp] theorem bi14 : (14 : Int) <= (big : Int) := le_bigI (by decide)
@[simp] theorem bj14 : -(big : Int) <= (14 : Int) := ge_bigI (by decide)
@[simp] theorem bg15 : 15 <= big := le_big (by decide)
@[simp] theorem bl15 : 15 < big := lt_big (by decide)
@[simp] theorem bi15 : (15 : Int) <= (big : Int) := le_bigI (by decide)
@[simp] theorem bj15 : -(big : Int) <= (15 : Int) := ge_bigI (by decide)
@[simp] theorem bg16 : 16 <= big := le_big (by decide)
@[simp] theorem bl16 : 16 < big := lt_big (by decide)
@[simp] theorem bi16 : (16 : Int) <= (big : Int) := le_bigI (by decide)
@[simp] theorem bj16 : -(big : Int) <= (16 : Int) := ge_bigI (by decide)
@[simp] theorem bg17 : 17 <= big := le_big (by decide)
@[simp] theorem bl17 : 17 < big := lt_big (by decide)
@[simp] theorem bi17 : (17 : Int) <= (big : Int) := le_bigI (by decide)
@[simp] theorem bj17 : -(big : Int) <= (17 : Int) := ge_bigI (by decide)
@[simp] theorem bg18 : 18 <= big := le_big (by decide)
@[simp] theorem bl18 : 18 < big := lt_big (by decide)
@[simp] theorem bi18 : (18 : Int) <= (big : Int) := le_bigI (by decide)
@[simp] theorem bj18 : -(big : Int) <= (18 : Int) := ge_bigI (by decide)
@[simp] theorem bg19 : 19 <= big := le_big (by decide)
@[simp] theorem bl19 : 19 < big := lt_big (by decide)
@[simp] theorem bi19 : (19 : Int) <= (big : Int) := le_bigI (by decide)
@[simp] theorem bj19 : -(big : Int) <= (19 : Int) := ge_bigI (by decide)
@[simp] theorem bg20 : 20 <= big := le_big (by decide)
@[simp] theorem bl20 : 20 < big := lt_big (by decide)
@[simp] theorem bi20 : (20 : Int) <= (big : Int) := le_bigI (by decide)
@[simp] theorem bj20 : -(big : Int) <= (20 : Int) := ge_bigI (by decide)
@[simp] theorem bg21 : 21 <= big := le_big (by decide)
@[simp] theorem bl21 : 21 < big := lt_big (by decide)
@[simp] theorem bi21 : (21 : Int) <= (big : Int) := le_bigI (by decide)
@[simp] theorem bj21 : -(big : Int) <= (21 : Int) := ge_bigI (by decide)
@[simp] theorem bg22 : 22 <= big := le_big (by decide)
@[simp] theorem bl22 : 22 < big := lt_big (by decide)
@[simp] theorem bi22 : (22 : Int) <= (big : Int) := le_bigI (by decide)
@[simp] theorem bj22 : -(big : Int) <= (22 : Int) := ge_bigI (by decide)
@[simp] theorem bg23 : 23 <= big := le_big (by decide)
@[simp] theorem bl23 : 23 < big := lt_big (by decide)
@[simp] theorem bi23 : (23 : Int) <= (big : Int) := le_bigI (by decide)
@[simp] theorem bj23 : -(big : Int) <= (23 : Int) := ge_bigI (by decide)
@[simp] theorem bg24 : 24 <= big := le_big (by decide)
@[simp] theorem bl24 : 24 < big := lt_big (by decide)
@[simp] theorem bi24 : (24 : Int) <= (big : Int) := le_bigI (by decide)
@[simp] theorem bj24 : -(big : Int) <= (24 : Int) := ge_bigI (by decide)
@[simp] theorem bg25 : 25 <= big := le_big (by decide)
@[simp] theorem bl25 : 25 < big := lt_big (by decide)
@[simp] theorem bi25 : (25 : Int) <= (big : Int) := le_bigI (by decide)
@[simp] theorem bj25 : -(big : Int) <= (25 : Int) := ge_bigI (by decide)
@[simp] theorem bg26 : 26 <= big := le_big (by decide)
@[simp] theorem bl26 : 26 < big := lt_big (by decide)
@[simp] theorem bi26 : (26 : Int) <= (big : Int) := le_bigI (by decide)
@[simp] theorem bj26 : -(big : Int) <= (26 : Int) := ge_bigI (by decide)
@[simp] theorem bg27 : 27 <= big := le_big (by decide)
@[simp] theorem bl27 : 27 < big := lt_big (by decide)
@[simp] theorem bi27 : (27 : Int) <= (big : Int) := le_bigI (by decide)
@[simp] theorem bj27 : -(big : Int) <= (27 : Int) := ge_bigI (by decide)
@[simp] theorem bg28 : 28 <= big := le_big (by decide)
@[simp] theorem bl28 : 28 < big := lt_big (by decide)
@[simp] theorem bi28 : (28 : Int) <= (big : Int) := le_bigI (by decide)
@[simp] theorem bj28 : -(big : Int) <= (28 : Int) := ge_bigI (by decide)
@[simp] theorem bg29 : 29 <= big := le_big (by decide)
@[simp] theorem bl29 : 29 < big := lt_big (by decide)
@[simp] theorem bi29 : (29 : Int) <= (big : Int) := le_bigI (by decide)
@[simp] theorem bj29 : -(big : Int) <= (29 : Int) := ge_bigI (by decide)
@[simp] theorem bg30 : 30 <= big := le_big (by decide)
@[simp] theorem bl30 : 30 < big := lt_big (by decide)
@[simp] theorem bi30 : (30 : Int) <= (big : Int) := le_bigI (by decide)
@[simp] theorem bj30 : -(big : Int) <= (30 : Int) := ge_bigI (by decide)
@[simp] theorem bg31 : 31 <= big := le_big (by decide)
@[simp] theorem bl31 : 31 < big := lt_big (by decide)
@[simp] theorem bi31 : (31 : Int) <= (big : Int) := le_bigI (by decide)
@[simp] theorem bj31 : -(big : Int) <= (31 : Int) := ge_bigI (by decide)
@[simp] theorem bg32 : 32 <= big := le_big (by decide)
@[simp] theorem bl32 : 32 < big := lt_big (by decide)
@[simp] theorem bi32 : (32 : Int) <= (big : Int) := le_bigI (by decide)
@[simp] theorem bj32 : -(big : Int) <= (32 : Int) := ge_bigI (by decide)
@[simp] theorem bg33 : 33 <= big := le_big (by decide)
@[simp] theorem bl33 : 33 < big := lt_big (by decide)
@[simp] theorem bi33 : (33 : Int) <= (big : Int) := le_bigI (by decide)
@[simp] theorem bj33 : -(big : Int) <= (33 : Int) := ge_bigI (by decide)
@[simp] theorem bg34 : 34 <= big := le_big (by decide)
@[simp] theorem bl34 : 34 < big := lt_big (by decide)
@[simp] theorem bi34 : (34 : Int) <= (big : Int) := le_bigI (by decide)
@[simp] theorem bj34 : -(big : Int) <= (34 : Int) := ge_bigI (by decide)
@[simp] theorem bg35 : 35 <= big := le_big (by decide)
@[simp] theorem bl35 : 35 < big := lt_big (by decide)
@[simp] theorem bi35 : (35 : Int) <= (big : Int) := le_bigI (by decide)
@[simp] theorem bj35 : -(big : Int) <= (35 : Int) := ge_bigI (by decide)
@[simp] theorem bg36 : 36 <= big := le_big (by decide)
@[simp] theorem bl36 : 36 < big := lt_big (by decide)
@[simp] theorem bi36 : (36 : Int) <= (big : Int) := le_bigI (by decide)
@[simp] theorem bj36 : -(big : Int) <= (36 : Int) := ge_bigI (by decide)
@[simp] theorem bg37 : 37 <= big := le_big (by decide)
@[simp] theorem bl37 : 37 < big := lt_big (by decide)
@[simp] theorem bi37 : (37 : Int) <= (big : Int) := le_bigI (by decide)
@[simp] theorem bj37 : -(big : Int) <= (37 : Int) := ge_bigI (by decide)
@[simp] theorem bg38 : 38 <= big := le_big (by decide)
@[simp] theorem bl38 : 38 < big := lt_big (by decide)
@[simp] theorem bi38 : (38 : Int) <= (big : Int) := le_bigI (by decide)
@[simp] theorem bj38 : -(big : Int) <= (38 : Int) := ge_bigI (by decide)
@[simp] theorem bg39 : 39 <= big := le_big (by decide)
@[simp] theorem bl39 : 39 < big := lt_big (by decide)
@[simp] theorem bi39 : (39 : Int) <= (big : Int) := le_bigI (by decide)
@[simp] theorem bj39 : -(big : Int) <= (39 : Int) := ge_bigI (by decide)
@[simp] theorem bg40 : 40 <= big := le_big (by decide)
@[simp] theorem bl40 : 40 < big := lt_big (by decide)
@[simp] theorem bi40 : (40 : Int) <= (big : Int) := le_bigI (by decide)
@[simp] theorem bj40 : -(big : Int) <= (40 : Int) := ge_bigI (by decide)
@[simp] theorem bg41 : 41 <= big := le_big (by decide)
@[simp] theorem bl41 : 41 < big := lt_big (by decide)
@[simp] theorem bi41 : (41 : Int) <= (big : Int) := le_bigI (by decide)
@[simp] theorem bj41 : -(big : Int) <= (41 : Int) := ge_bigI (by decide)
@[simp] theorem bg42 : 42 <= big := le_big (by decide)
@[simp] theorem bl42 : 42 < big := lt_big (by decide)
@[simp] theorem bi42 : (42 : Int) <= (big : Int) := le_bigI (by decide)
@[simp] theorem bj42 : -(big : Int) <= (42 : Int) := ge_bigI (by decide)
@[simp] theorem bg43 : 43 <= big := le_big (by decide)
@[simp] theorem bl43 : 43 < big := lt_big (by decide)
@[simp] theorem bi43 : (43 : Int) <= (big : Int) := le_bigI (by decide)
@[simp] theorem bj43 : -(big : Int) <= (43 : Int) := ge_bigI (by decide)
@[simp] theorem bg44 : 44 <= big := le_big (by decide)
@[simp] theorem bl44 : 44 < big := lt_big (by decide)
@[simp] theorem bi44 : (44 : Int) <= (big : Int) := le_bigI (by decide)
@[simp] theorem bj44 : -(big : Int) <= (44 : Int) := ge_bigI (by decide)
@[simp] theorem bg45 : 45 <= big := le_big (by decide)
@[simp] theorem bl45 : 45 < big := lt_big (by decide)
@[simp] theorem bi45 : (45 : Int) <= (big : Int) := le_bigI (by decide)
@[simp] theorem bj45 : -(big : Int) <= (45 : Int) := ge_bigI (by decide)
@[simp] theorem bg46 : 46 <= big := le_big (by decide)
@[simp] theorem bl46 : 46 < big := lt_big (by decide)
@[simp] theorem bi46 : (46 : Int) <= (big : Int) := le_bigI (by decide)
@[simp] theorem bj46 : -(big : Int) <= (46 : Int) := ge_bigI (by decide)
@[simp] theorem bg47 : 47 <= big := le_big (by decide)
@[simp] theorem bl47 : 47 < big := lt_big (by decide)
@[simp] theorem bi47 : (47 : Int) <= (big : Int) := le_bigI (by decide)
@[simp] theorem bj47 : -(big : Int) <= (47 : Int) := ge_bigI (by decide)
@[simp] theorem bg48 : 48 <= big := le_big (by decide)
@[simp] theorem bl48 : 48 < big := lt_big (by decide)
@[simp] theorem bi48 : (48 : Int) <= (big : Int) := le_bigI (by decide)
@[simp] theorem bj48 : -(big : Int) <= (48 : Int) := ge_bigI (by decide)
@[simp] theorem bg49 : 49 <= big := le_big (by decide)
@[simp] theorem bl49 : 49 < big := lt_big (by decide)
@[simp] theorem bi49 : (49 : Int) <= (big : Int) := le_bigI (by decide)
@[simp] theorem bj49 : -(big : Int) <= (49 : Int) := ge_bigI (by decide)
@[simp] theorem bg50 : 50 <= big := le_big (by decide)
@[simp] theorem bl50 : 50 < big := lt_big (by decide)
@[simp] theorem bi50 : (50 : Int) <= (big : Int) := le_bigI (by decide)
@[simp] theorem bj50 : -(big : Int) <= (50 : Int) := ge_bigI (by decide)
@[simp] theorem bg51 : 51 <= big := le_big (by decide)
@[simp] theorem bl51 : 51 < big := lt_big (by decide)
@[simp] theorem bi51 : (51 : Int) <= (big : Int) := le_bigI (by decide)
@[simp] theorem bj51 : -(big : Int) <= (51 : Int) := ge_bigI (by decide)
@[simp] theorem bg52 : 52 <= big := le_big (by decide)
@[simp] theorem bl52 : 52 < big := lt_big (by decide)
@[simp] theorem bi52 : (52 : Int) <= (big : Int) := le_bigI (by decide)
@[simp] theorem bj52 : -(big : Int) <= (52 : Int) := ge_bigI (by decide)
@[simp] theorem bg53 : 53 <= big := le_big (by decide)
@[simp] theorem bl53 : 53 < big := lt_big (by decide)
@[simp] theorem bi53 : (53 : Int) <= (big : Int) := le_bigI (by decide)
@[simp] theorem bj53 : -(big : Int) <= (53 : Int) := ge_bigI (by decide)
@[simp] theorem bg54 : 54 <= big := le_big (by decide)
@[simp] theorem bl54 : 54 < big := lt_big (by decide)
@[simp] theorem bi54 : (54 : Int) <= (big : Int) := le_bigI (by decide)
@[simp] theorem bj54 : -(big : Int) <= (54 : Int) := ge_bigI (by decide)
@[simp] theorem bg55 : 55 <= big := le_big (by decide)
@[simp] theorem bl55 : 55 < big := lt_big (by decide)
@[simp] theorem bi55 : (55 : Int) <= (big : Int) := le_bigI (by decide)
@[simp] theorem bj55 : -(big : Int) <= (55 : Int) := ge_bigI (by decide)
@[simp] theorem bg56 : 56 <= big := le_big (by decide)
@[simp] theorem bl56 : 56 < big := lt_big (by decide)
@[simp] theorem bi56 : (56 : Int) <= (big : Int) := le_bigI (by decide)
@[simp] theorem bj56 : -(big : Int) <= (56 : Int) := ge_bigI (by decide)
@[simp] theorem bg57 : 57 <= big := le_big (by decide)
@[simp] theorem bl57 : 57 < big := lt_big (by decide)
@[simp] theorem bi57 : (57 : Int) <= (big : Int) := le_bigI (by decide)
@[simp] theorem bj57 : -(big : Int) <= (57 : Int) := ge_bigI (by decide)
@[simp] theorem bg58 : 58 <= big := le_big (by decide)
@[simp] theorem bl58 : 58 < big := lt_big (by decide)
@[simp] theorem bi58 : (58 : Int) <= (big : Int) := le_bigI (by decide)
@[simp] theorem bj58 : -(big : Int) <= (58 : Int) := ge_bigI (by decide)
@[simp] theorem bg59 : 59 <= big := le_big (by decide)
@[simp] theorem bl59 : 59 < big := lt_big (by decide)
@[simp] theorem bi59 : (59 : Int) <= (big : Int) := le_bigI (by decide)
@[simp] theorem bj59 : -(big : Int) <= (59 : Int) := ge_bigI (by decide)
@[simp] theorem bg60 : 60 <= big := le_big (by decide)
@[simp] theorem bl60 : 60 < big := lt_big (by decide)
@[simp] theorem bi60 : (60 : Int) <= (big : Int) := le_bigI (by decide)
@[simp] theorem bj60 : -(big : Int) <= (60 : Int) := ge_bigI (by decide)
@[simp] theorem bg61 : 61 <= big := le_big (by decide)
@[simp] theorem bl61 : 61 < big := lt_big (by decide)
@[simp] theorem bi61 : (61 : Int) <= (big : Int) := le_bigI (by decide)
@[simp] theorem bj61 : -(big : Int) <= (61 : Int) := ge_bigI (by decide)
@[simp] theorem bg62 : 62 <= big := le_big (by decide)
@[simp] theorem bl62 : 62 < big := lt_big (by decide)
@[simp] theorem bi62 : (62 : Int) <= (big : Int) := le_bigI (by decide)
@[simp] theorem bj62 : -(big : Int) <= (62 : Int) := ge_bigI (by decide)
@[simp] theorem bg63 : 63 <= big := le_big (by decide)
@[simp] theorem bl63 : 63 < big := lt_big (by decide)
@[simp] theorem bi63 : (63 : Int) <= (big : Int) := le_bigI (by decide)
@[simp] theorem bj63 : -(big : Int) <= (63 : Int) := ge_bigI (by decide)
@[simp] theorem bg64 : 64 <= big := le_big (by decide)
@[simp] theorem bl64 : 64 < big := lt_big (by decide)
@[simp] theorem bi64 : (64 : Int) <= (big : Int) := le_bigI (by decide)
@[simp] theorem bj64 : -(big : Int) <= (64 : Int) := ge_bigI (by decide)
@[simp] theorem bind_ok' {α β : Type} (a : α) (f : α -> R β) : (R.ok a).bind f = f a := rfl
@[simp] theorem bind_bad' {α β : Type} (f : α -> R β) : (R.bad : R α).bind f = .bad := rfl
@[simp] theorem onB_bl {α : Type} (b : Bool) (f : Bool -> R α) : onB (.bl b) f = f b := rfl
@[simp] theorem inI_int {α : Type} (i : Int) (f : Int -> R α) : inI (.int i) f = f i := rfl
@[simp] theorem onNx_nx (st : PSt) (f : PSt -> R Fl) : onNx (.ok (.nx st)) f = f st := rfl
@[simp] theorem onNx_rt (d : D) (f : PSt -> R Fl) : onNx (.ok (.rt d)) f = .ok (.rt d) := rfl
@[simp] theorem eVar_ap (i : Nat) (st : PSt) : eVar i st = (match st[i]? with | some (some (.v d)) => R.ok d | _ => .bad) := rfl
@[simp] theorem ePeek_ap (i : Nat) (st : PSt) : ePeek i st = (match st[i]? with | some (some (.v d)) => R.ok d | some (some (.o k xs)) => .ok (ofK k xs) | _ => .bad) := rfl
@[simp] theorem eC_ap (d : D) (st : PSt) : eC d st = .ok d := rfl
@[simp] theorem e2_ap (op : Op2) (f g : Ex) (st : PSt) : e2 op f g st = (f st).bind fun x => (g st).bind fun y => op x y := rfl
@[simp] theorem e1_ap (op : D -> R D) (f : Ex) (st : PSt) : e1 op f st = (f st).bind op := rfl
@[simp] theorem eB_ap (p : D -> Bool) (f : Ex) (st : PSt) : eB p f st = (f st).bind fun x => guardR (bltD x = true) (.ok (.bl (p x))) := rfl
@[simp] theorem eAnd_ap (f g : Ex) (st : PSt) : eAnd f g st = (f st).bind fun x => onB x fun b => if b = true then g st else .ok (.bl false) := rfl
@[simp] theorem eOr_ap (f g : Ex) (st : PSt) : eOr f g st = (f st).bind fun x => onB x fun b => if b = true then .ok (.bl true) else g st := rfl
@[simp] theorem eNot_ap (f : Ex) (st : PSt) : eNot f st = (f st).bind fun x => onB x fun b => .ok (.bl (!b)) := rfl
@[simp] theorem eIf_ap (c f g : Ex) (st : PSt) : eIf c f g st = (c st).bind fun x => onB x fun b => if b = true then f st else g st := rfl
@[simp] theorem aNil_ap (st : PSt) : aNil st = .ok [] := rfl
@[simp] theorem aCons_ap (f : Ex) (r : Exs) (st : PSt) : aCons f r st = (f st).bind fun x => (r st).bind fun xs => .ok (x :: xs) := rfl
@[simp] theorem eTup_ap (r : Exs) (st : PSt) : eTup r st = (r st).bind fun xs => guardR (xs.length <= big) (.ok (.tup xs)) := rfl
@[simp] theorem eLst_ap (r : Exs) (st : PSt) : eLst r st = (r st).bind fun xs => guardR (xs.length <= big) (.ok (.lst xs)) := rfl
@[simp] theorem eCall_ap (p : List D -> R D) (r : Exs) (st : PSt) : eCall p r st = (r st).bind p := rfl
@[simp] theorem eMt_ap (m : Mop) (f : Ex) (r : Exs) (st : PSt) : eMt m f r st = (f st).bind fun x => (r st).bind fun xs => m x xs := rfl
@[simp] theorem oNone_ap (st : PSt) : oNone st = .ok none := rfl
@[simp] theorem oSome_ap (f : Ex) (st : PSt) : oSome f st = (f st).bind fun x => inI x fun i => .ok (some i) := rfl
@[simp] theorem eSl_ap (f : Ex) (lo hi : ExO) (st : PSt) : eSl f lo hi st = (f st).bind fun x => (lo st).bind fun l => (hi st).bind fun h => dSl x l h := rfl
@[simp] theorem itR1_ap (f : Ex) (st : PSt) : itR1 f st = (f st).bind fun x => inI x fun j => guardR (-(big : Int) <= j /\ j <= (big : Int)) (.ok (rangeD 0 j.toNat)) := rfl
@[simp] theorem itR2_ap (f g : Ex) (st : PSt) : itR2 f g st = (f st).bind fun x => (g st).bind fun y => inI x fun i => inI y fun j => guardR (-(big : Int) <= i /\ i <= (big : Int) /\ -(big : Int) <= j /\ j <= (big : Int)) (.ok (rangeD i (j - i).toNat)) := rfl
@[simp] theorem forR_nil (tg : Tg) (b : Bd) (st : PSt) : forR tg b [] st = .ok (.nx st) := rfl
theorem forR_cons (tg : Tg) (b : Bd) (d : D) (ds : List D) (st : PSt) : forR tg b (d :: ds) st = (tg d st).bind fun s1 => (b s1).bind fun x => match x with
  | .nx s2 => forR tg b ds s2
  | .ct s2 => forR tg b ds s2
  | .bk s2 => .ok (.nx s2)
  | .rt v => .ok (.rt v) := rfl
@[simp] theorem itE_ap (f : Ex) (st : PSt) : itE f st = (f st).bind fun x => match x with | .lst xs => .ok xs | .tup xs => .ok xs | .str xs => guardR (xs.length <= big) (.ok (xs.map fun c => .str [c])) | _ => .bad := rfl
@[simp] theorem sWhile_ap (n : Nat) (c : Ex) (b : Bd) (st : PSt) : sWhile n c b st = whileR c b n st := rfl
@[simp] theorem sApp_ap (i : Nat) (f : Ex) (st : PSt) : sApp i f st = (f st).bind fun d => match st[i]? with | some (some (.o .l xs)) => guardR (xs.length < big) (.ok (.nx (st.set i (some (.o .l (xs ++ [d])))))) | _ => .bad := rfl
@[simp] theorem sSetO_ap (i : Nat) (f : Ex) (st : PSt) : sSetO i f st = (f st).bind fun d => match d with | .lst xs => .ok (.nx (st.set i (some (.o .l xs)))) | _ => .bad := rfl
@[simp] theorem sFldC_ap (i : Nat) (c f : String) (e : Ex) (st : PSt) : sFldC i c f e st = (e st).bind fun d => match st[i]? with | some (some (.o (.i n c' ns) xs)) => guardR (c' = c /\ f ∉ ns /\ ns.length < 900) (.ok (.nx (st.set i (some (.o (.i n c' (ns ++ [f])) (xs ++ [d])))))) | _ => .bad := rfl
@[simp] theorem sDNew_ap (i : Nat) (t : Bool) (st : PSt) : sDNew i t st = .ok (.nx (st.set i (some (.o (.d t []) [])))) := rfl
@[simp] theorem sDPut_ap (i : Nat) (g f : Ex) (st : PSt) : sDPut i g f st = (f st).bind fun d => (g st).bind fun k => match st[i]? with | some (some (.o (.d t ks) vs)) => guardR (keyOk t k = true /\ vs.length < big) (.ok (.nx (st.set i (some (.o (.d t (putKs ks k)) (putVs ks vs k d)))))) | _ => .bad := rfl
@[simp] theorem dIx_dct (t : Bool) (ks vs : List D) (k : D) : dIx (.dct t ks vs) k = guardR (keyOk t k = true) (ofO (getK ks vs k)) := by cases k <;> rfl
@[simp] theorem dIn_dct (t : Bool) (ks vs : List D) (k : D) : dIn k (.dct t ks vs) = guardR (keyOk t k = true) (.ok (.bl (hasK ks k))) := by cases k <;> rfl
@[simp] theorem dNotIn_dct (t : Bool) (ks vs : List D) (k : D) : dNotIn k (.dct t ks vs) = guardR (keyOk t k = true) (.ok (.bl (!hasK ks k))) := by cases k <;> rfl
@[simp] theorem dLen_dct (ks vs : List D) : dLen (.dct false ks vs) = .ok (.int ks.length) := rfl
@[simp] theorem sFz_ap (is : List Nat) (b : Bd) (st : PSt) : sFz is b st = b (is.foldl fz1 st) := rfl
@[simp] theorem fz1_ap (st : PSt) (i : Nat) : fz1 st i = (match st[i]? with | some (some (.o k xs)) => st.set i (some (.v (ofK k xs))) | _ => st) := rfl
@[simp] theorem sExp_ap (f : Ex) (st : PSt) : sExp f st = (f st).bind fun _ => .ok (.nx st) := rfl
@[simp] theorem onNx_bk (st : PSt) (f : PSt -> R Fl) : onNx (.ok (.bk st)) f = .ok (.bk st) := rfl
@[simp] theorem onNx_ct (st : PSt) (f : PSt -> R Fl) : onNx (.ok (.ct st)) f = .ok (.ct st) := rfl
@[simp] theorem onNx_bad (f : PSt -> R Fl) : onNx .bad f = .bad := rfl
@[simp] theorem dNeg_int (i : Int) : dNeg (.int i) = .ok (.int (-i)) := rfl
@[simp] theorem mIndex_1 (x y : List Nat) : mIndex (.str x) [.str y] = (ofO (findN x y 0)).bind fun i => .ok (.int i) := rfl
@[simp] theorem dMax2_int (i j : Int) : dMax2 (.int i) (.int j) = .ok (.int (if j > i then j else i)) := rfl
@[simp] theorem dMin2_int (i j : Int) : dMin2 (.int i) (.int j) = .ok (.int (if j < i then j else i)) := rfl
@[simp] theorem dIn_str (x y : List Nat) : dIn (.str x) (.str y) = .ok (.bl (findN y x 0).isSome) := rfl
@[simp] theorem dNotIn_str (x y : List Nat) : dNotIn (.str x) (.str y) = .ok (.bl (!(findN y x 0).isSome)) := rfl
@[simp] theorem dIn_lst (x : D) (ys : List D) : dIn x (.lst ys) = guardR (deps ys <= 60 /\ plain x = true /\ plains ys = true) (.ok (.bl (inD x ys))) := by cases x <;> rfl
@[simp] theorem dIn_tup (x : D) (ys : List D) : dIn x (.tup ys) = guardR (deps ys <= 60 /\ plain x = true /\ plains ys = true) (.ok (.bl (inD x ys))) := by cases x <;> rfl
@[simp] theorem dNotIn_lst (x : D) (ys : List D) : dNotIn x (.lst ys) = guardR (deps ys <= 60 /\ plain x = true /\ plains ys = true) (.ok (.bl (!inD x ys))) := by cases x <;> rfl
@[simp] theorem dNotIn_tup (x : D) (ys : List D) : dNotIn x (.tup ys) = guardR (deps ys <= 60 /\ plain x = true /\ plains ys = true) (.ok (.bl (!inD x ys))) := by cases x <;> rfl
@[simp] theorem dLen_tup (x : List D) : dLen (.tup x) = .ok (.int x.length) := rfl
@[simp] theorem dGe_int (i j : Int) : dGe (.int i) (.int j) = .ok (.bl (decide (j <= i))) := rfl
@[simp] theorem dAdd_lst (x y : List D) : dAdd (.lst x) (.lst y) = guardR (x.length + y.length <= big) (.ok (.lst (x ++ y))) := rfl
@[simp] theorem dSl_lst (x : List D) (l h : Option Int) : dSl (.lst x) l h = .ok (.lst (cut x l h)) := rfl
@[simp] theorem bltD_non : bltD .non = true := rfl
@[simp] theorem bltD_bl (b : Bool) : bltD (.bl b) = true := rfl
@[simp] theorem bltD_int (b : Int) : bltD (.int b) = true := rfl
@[simp] theorem bltD_str (b : List Nat) : bltD (.str b) = true := rfl
@[simp] theorem bltD_tup (b : List D) : bltD (.tup b) = true := rfl
@[simp] theorem bltD_lst (b : List D) : bltD (.lst b) = true := rfl
@[simp] theorem bltD_dct (t : Bool) (a b : List D) : bltD (.dct t a b) = true := rfl
@[simp] theorem tgN_ap (i : Nat) (d : D) (st : PSt) : tgN i d st = .ok (st.set i (some (.v d))) := rfl
@[simp] theorem tgT_ap (is : List Nat) (xs : List D) (st : PSt) : tgT is (.tup xs) st = setAll is xs st := rfl
@[simp] theorem tgT_apL (is : List Nat) (xs : List D) (st : PSt) : tgT is (.lst xs) st = setAll is xs st := rfl
@[simp] theorem setAll_nil (st : PSt) : setAll [] [] st = .ok st := rfl
@[simp] theorem setAll_cons (i : Nat) (is : List Nat) (d : D) (ds : List D) (st : PSt) : setAll (i :: is) (d :: ds) st = setAll is ds (st.set i (some (.v d))) := rfl
@[simp] theorem clr_nil (st : PSt) : clr [] st = st := rfl
@[simp] theorem clr_cons (i : Nat) (is : List Nat) (st : PSt) : clr (i :: is) st = clr is (st.set i none) := rfl
@[simp] theorem compR_nil (tg : Tg) (c f : Ex) (st : PSt) : compR tg c f st [] = .ok [] := rfl
@[simp] theorem eTrue_ap (st : PSt) : eTrue st = .ok (.bl true) := rfl
@[simp] theorem eComp_ap (is : List Nat) (tg : Tg) (it : ItE) (c f : Ex) (st : PSt) : eComp is tg it c f st = (it st).bind fun xs => guardR (xs.length <= big) ((compR tg c f (clr is st) xs).bind fun ys => .ok (.lst ys)) := rfl
@[simp] theorem sNext_ap (st : PSt) : sNext st = .ok (.nx st) := rfl
@[simp] theorem sSeq_ap (a b : Bd) (st : PSt) : sSeq a b st = onNx (a st) b := rfl
@[simp] theorem sSet_ap (i : Nat) (f : Ex) (st : PSt) : sSet i f st = (f st).bind fun d => .ok (.nx (st.set i (some (.v d)))) := rfl
@[simp] theorem sTgt_ap (tg : Tg) (f : Ex) (st : PSt) : sTgt tg f st = (f st).bind fun d => (tg d st).bind fun s1 => .ok (.nx s1) := rfl
@[simp] theorem sRet_ap (f : Ex) (st : PSt) : sRet f st = (f st).bind fun d => .ok (.rt d) := rfl
@[simp] theorem sIf_ap (c : Ex) (a b : Bd) (st : PSt) : sIf c a b st = (c st).bind fun x => onB x fun q => if q = true then a st else b st := rfl
@[simp] theorem sFor_ap (tg : Tg) (it : ItE) (body : Bd) (st : PSt) : sFor tg it body st = (it st).bind fun xs => forR tg body xs st := rfl
@[simp] theorem dAdd_int (i j : Int) : dAdd (.int i) (.int j) = .ok (.int (i + j)) := rfl
@[simp] theorem dAdd_str (x y : List Nat) : dAdd (.str x) (.str y) = guardR (x.length + y.length <= big) (.ok (.str (x ++ y))) := rfl
@[simp] theorem dSub_int (i j : Int) : dSub (.int i) (.int j) = .ok (.int (i - j)) := rfl
@[simp] theorem dFdiv_int (i j : Int) : dFdiv (.int i) (.int j) = guardR (0 < j /\ j < 1073741824) (.ok (.int (i / j))) := rfl
@[simp] theorem dMod_int (i j : Int) : dMod (.int i) (.int j) = guardR (0 < j) (.ok (.int (i % j))) := rfl
@[simp] theorem dPow_int (i j : Int) : dPow (.int i) (.int j) = guardR (0 <= j /\ j <= 1000000 /\ i.natAbs < 18446744073709551616) (.ok (.int (i ^ j.toNat))) := rfl
@[simp] theorem dLe_int (i j : Int) : dLe (.int i) (.int j) = .ok (.bl (decide (i <= j))) := rfl
@[simp] theorem dGt_int (i j : Int) : dGt (.int i) (.int j) = .ok (.bl (decide (j < i))) := rfl
@[simp] theorem dEq_ap (x y : D) : dEq x y = guardR (dep x <= 64 /\ plain x = true /\ plain y = true) (.ok (.bl (eqD x y))) := rfl
@[simp] theorem dNe_ap (x y : D) : dNe x y = guardR (dep x <= 64 /\ plain x = true /\ plain y = true) (.ok (.bl (!eqD x y))) := rfl
@[simp] theorem dep_non : dep .non = 0 := by unfold dep; rfl
@[simp] theorem dep_bl (b : Bool) : dep (.bl b) = 0 := by unfold dep; rfl
@[simp] theorem dep_int (i : Int) : dep (.int i) = 0 := by unfold dep; rfl
@[simp] theorem dep_str (s : List Nat) : dep (.str s) = 0 := by unfold dep; rfl
@[simp] theorem dep_tup (x : List D) : dep (.tup x) = deps x + 1 := by conv => lhs; unfold dep
@[simp] theorem dep_lst (x : List D) : dep (.lst x) = deps x + 1 := by conv => lhs; unfold dep
@[simp] theorem plain_non : plain .non = true := by unfold plain; rfl
@[simp] theorem plain_bl (b : Bool) : plain (.bl b) = true := by unfold plain; rfl
@[simp] theorem plain_int (i : Int) : plain (.int i) = true := by unfold plain; rfl
@[simp] theorem plain_str (s : List Nat) : plain (.str s) = true := by unfold plain; rfl
@[simp] theorem plain_tup (x : List D) : plain (.tup x) = plains x := by conv => lhs; unfold plain
@[simp] theorem plain_lst (x : List D) : plain (.lst x) = plains x := by conv => lhs; unfold plain
@[simp] theorem plain_dct (t : Bool) (k v : List D) : plain (.dct t k v) = false := by unfold plain; rfl
@[simp] theorem plain_ins (c : String) (n : List String) (v : List D) : plain (.ins c n v) = false := by unfold plain; rfl
@[simp] theorem plain_exn (c : String) (n : List String) (v : List D) : plain (.exn c n v) = false := by unfold plain; rfl
@[simp] theorem plain_fn (f : String) : plain (.fn f) = false := by unfold plain; rfl
@[simp] theorem plains_nil : plains [] = true := by unfold plains; rfl
@[simp] theorem plains_cons (a : D) (x : List D) : plains (a :: x) = (plain a && plains x) := by conv => lhs; unfold plains
@[simp] theorem deps_nil : deps [] = 0 := by unfold deps; rfl
@[simp] theorem deps_cons (a : D) (x : List D) : deps (a :: x) = max (dep a) (deps x) := by conv => lhs; unfold deps
@[simp] theorem eqD_int (i j : Int) : eqD (.int i) (.int j) = (i == j) := by unfold eqD; rfl
@[simp] theorem eqD_str (i j : List Nat) : eqD (.str i) (.str j) = (i == j) := by unfold eqD; rfl
@[simp] theorem eqD_non_non : eqD .non .non = true := by unfold eqD; rfl
@[simp] theorem eqD_non_bl (b : Bool) : eqD .non (.bl b) = false := by unfold eqD; rfl
@[simp] theorem eqD_non_int (j : Int) : eqD .non (.int j) = false := by unfold eqD; rfl
@[simp] theorem eqD_non_str (t : List Nat) : eqD .non (.str t) = false := by unfold eqD; rfl
@[simp] theorem eqD_non_tup (y : List D) : eqD .non (.tup y) = false := by unfold eqD; rfl
@[simp] theorem eqD_non_lst (y : List D) : eqD .non (.lst y) = false := by unfold eqD; rfl
@[simp] theorem eqD_bl_non (a : Bool) : eqD (.bl a) .non = false := by unfold eqD; rfl
@[simp] theorem eqD_bl_bl (a : Bool) (b : Bool) : eqD (.bl a) (.bl b) = (a == b) := by unfold eqD; rfl
@[simp] theorem eqD_bl_int (a : Bool) (j : Int) : eqD (.bl a) (.int j) = ((if a then (1 : Int) else 0) == j) := by unfold eqD; rfl
@[simp] theorem eqD_bl_str (a : Bool) (t : List Nat) : eqD (.bl a) (.str t) = false := by unfold eqD; rfl
@[simp] theorem eqD_bl_tup (a : Bool) (y : List D) : eqD (.bl a) (.tup y) = false := by unfold eqD; rfl
@[simp] theorem eqD_bl_lst (a : Bool) (y : List D) : eqD (.bl a) (.lst y) = false := by unfold eqD; rfl
@[simp] theorem eqD_int_non (i : Int) : eqD (.int i) .non = false := by unfold eqD; rfl
@[simp] theorem eqD_int_bl (i : Int) (b : Bool) : eqD (.int i) (.bl b) = (i == (if b then (1 : Int) else 0)) := by unfold eqD; rfl
@[simp] theorem eqD_int_str (i : Int) (t : List Nat) : eqD (.int i) (.str t) = false := by unfold eqD; rfl
@[simp] theorem eqD_int_tup (i : Int) (y : List D) : eqD (.int i) (.tup y) = false := by unfold eqD; rfl
@[simp] theorem eqD_int_lst (i : Int) (y : List D) : eqD (.int i) (.lst y) = false := by unfold eqD; rfl
@[simp] theorem eqD_str_non (s : List Nat) : eqD (.str s) .non = false := by unfold eqD; rfl
@[simp] theorem eqD_str_bl (s : List Nat) (b : Bool) : eqD (.str s) (.bl b) = false := by unfold eqD; rfl
@[simp] theorem eqD_str_int (s : List Nat) (j : Int) : eqD (.str s) (.int j) = false := by unfold eqD; rfl
@[simp] theorem eqD_str_tup (s : List Nat) (y : List D) : eqD (.str s) (.tup y) = false := by unfold eqD; rfl
@[simp] theorem eqD_str_lst (s : List Nat) (y : List D) : eqD (.str s) (.lst y) = false := by unfold eqD; rfl
@[simp] theorem eqD_tup_non (x : List D) : eqD (.tup x) .non = false := by unfold eqD; rfl
@[simp] theorem eqD_tup_bl (x : List D) (b : Bool) : eqD (.tup x) (.bl b) = false := by unfold eqD; rfl
@[simp] theorem eqD_tup_int (x : List D) (j : Int) : eqD (.tup x) (.int j) = false := by unfold eqD; rfl
@[simp] theorem eqD_tup_str (x : List D) (t : List Nat) : eqD (.tup x) (.str t) = false := by unfold eqD; rfl
@[simp] theorem eqD_tup_tup (x : List D) (y : List D) : eqD (.tup x) (.tup y) = eqDs x y := by conv => lhs; unfold eqD
@[simp] theorem eqD_tup_lst (x : List D) (y : List D) : eqD (.tup x) (.lst y) = false := by unfold eqD; rfl
@[simp] theorem eqD_lst_non (x : List D) : eqD (.lst x) .non = false := by unfold eqD; rfl
@[simp] theorem eqD_lst_bl (x : List D) (b : Bool) : eqD (.lst x) (.bl b) = false := by unfold eqD; rfl
@[simp] theorem eqD_lst_int (x : List D) (j : Int) : eqD (.lst x) (.int j) = false := by unfold eqD; rfl
@[simp] theorem eqD_lst_str (x : List D) (t : List Nat) : eqD (.lst x) (.str t) = false := by unfold eqD; rfl
@[simp] theorem eqD_lst_tup (x : List D) (y : List D) : eqD (.lst x) (.tup y) = false := by unfold eqD; rfl
@[simp] theorem eqD_lst_lst (x : List D) (y : List D) : eqD (.lst x) (.lst y) = eqDs x y := by conv => lhs; unfold eqD
@[simp] theorem eqDs_nil_nil : eqDs [] [] = true := by unfold eqDs; rfl
@[simp] theorem eqDs_nil_cons (b : D) (y : List D) : eqDs [] (b :: y) = false := by unfold eqDs; rfl
@[simp] theorem eqDs_cons_nil (b : D) (y : List D) : eqDs (b :: y) [] = false := by unfold eqDs; rfl
@[simp] theorem eqDs_cons_cons (a b : D) (x y : List D) : eqDs (a :: x) (b :: y) = (eqD a b && eqDs x y) := by conv => lhs; unfold eqDs
@[simp] theorem dLen_str (x : List Nat) : dLen (.str x) = guardR (x.length <= big) (.ok (.int x.length)) := rfl
@[simp] theorem dLen_lst (x : List D) : dLen (.lst x) = .ok (.int x.length) := rfl
@[simp] theorem dIx_str (x : List Nat) (i : Int) : dIx (.str x) (.int i) = guardR (x.length <= big) (ofO ((atI x i).map fun c => .str [c])) := rfl
@[simp] theorem dIx_tup (x : List D) (i : Int) : dIx (.tup x) (.int i) = ofO (atI x i) := rfl
@[simp] theorem dIx_lst (x : List D) (i : Int) : dIx (.lst x) (.int i) = ofO (atI x i) := rfl
@[simp] theorem dSl_str (x : List Nat) (l h : Option Int) : dSl (.str x) l h = guardR (x.length <= big) (.ok (.str (cut x l h))) := rfl
@[simp] theorem ofK_l (xs : List D) : ofK .l xs = .lst xs := rfl
@[simp] theorem ofK_d (t : Bool) (ks xs : List D) : ofK (.d t ks) xs = .dct t ks xs := rfl
@[simp] theorem ofK_i (n : Nat) (c : String) (ns : List String) (xs : List D) : ofK (.i n c ns) xs = .ins c ns xs := rfl
@[simp] theorem ofO_some {α : Type} (a : α) : ofO (some a) = .ok a := rfl
@[simp] theorem gR {α : Type} {c : Prop} {r : R α} (h : c) : guardR c r = r := guardR_pos h
@[simp] theorem neg_big_nat (n : Nat) : -(big : Int) <= (n : Int) := ge_bigI (by omega)
@[simp] theorem neg_big_pos {n : Int} (h : 0 <= n) : -(big : Int) <= n := ge_bigI (by omega)
@[simp] theorem runD_ap {np n : Nat} {b : Bd} {ds : List D} (h : ds.length = np) : runD np n b ds = (b (ds.map (fun d => some (.v d)) ++ List.replicate (n - np) none)).bind fun x => match x with
  | .nx _ => .ok .non
  | .rt d => .ok d
  | _ => .bad := guardR_pos h
theorem atI_in {α : Type} {xs : List α} {i : Int} (h0 : 0 <= i) (h : i < xs.length) : atI xs i = some (xs[i.toNat]'(by omega)) := by
 unfold atI ixN
 rw [if_pos h0, if_pos h]
 exact List.getElem?_eq_getElem (by omega)
theorem atI_nat {α : Type} {xs : List α} {i : Nat} (h : i < xs.length) : atI xs (i : Int) = some xs[i] := by
 rw [atI_in (by omega) (by omega)]
 simp
end Pu
namespace Pu
def dList : D -> R D
 | .lst x => .ok (.lst x)
 | .tup x => .ok (.lst x)
 | _ => .bad
def bls : List D -> R (List Bool)
 | [] => .ok []
 | .bl b :: r => (bls r).bind fun x => .ok (b :: x)
 | _ :: _ => .bad
def dInts : List D -> R (List Int)
 | [] => .ok []
 | .int i :: r => (dInts r).bind fun x => .ok (i :: x)
 | _ :: _ => .bad
def dAll : D -> R D
 | .lst x => (bls x).bind fun l => .ok (.bl (l.all id))
 | _ => .bad
theorem bls_of : ∀ {x : List D} {l : List Bool}, bls x = .ok l -> x = l.map D.bl
 | [], l, h => by cases h; rfl
 | d :: x, l, h => by
  cases d <;> first | (cases h; done) | skip
  obtain ⟨l', h1, h2⟩ := R.ok_of h
  cases h2
  rw [bls_of h1]; rfl
theorem dInts_of : ∀ {x : List D} {l : List Int}, dInts x = .ok l -> x = l.map D.int
 | [], l, h => by cases h; rfl
 | d :: x, l, h => by
  cases d <;> first | (cases h; done) | skip
  obtain ⟨l', h1, h2⟩ := R.ok_of h
  cases h2
  rw [dInts_of h1]; rfl
def R.nox {α : Type} (r : R α) : R α := match r with
 | .exc _ => .bad
 | r => r
theorem R.nox_ok {α : Type} {r : R α} {a : α} (h : r.nox = .ok a) : r = .ok a := by
 cases r with
 | ok b => exact h
 | exc x => cases h
 | bad => cases h
@[simp] theorem nox_ok' {α : Type} (a : α) : (R.ok a).nox = .ok a := rfl
def sNX (b : Bd) : Bd := fun st => (b st).nox
def eNX (f : Ex) : Ex := fun st => (f st).nox
def pNX (p : List D -> R D) : List D -> R D := fun ds => (p ds).nox
noncomputable def sRaise (c : String) (r : Exs) : Bd := fun st => (r st).nox.bind fun xs => guardR (xs.length <= 100) (.exc (.exn c [] []))
def hRun : List (List String × List String × (String -> Bd)) -> String -> PSt -> R Fl
 | [], _, _ => .bad
 | (yes, no, b) :: hs, c, st => if c ∈ yes then (b c st).nox else if c ∈ no then hRun hs c st else .bad
def hNo (b : Bd) : String -> Bd := fun _ => b
def sTry (b : Bd) (hs : List (List String × List String × (String -> Bd))) : Bd := fun st => match b st with
 | .exc (.exn c [] []) => hRun hs c st
 | .exc _ => .bad
 | r => r
def eCallX (p : List D -> R D) (r : Exs) : Ex := fun st => (r st).nox.bind p
inductive NFl where
 | nx (xss : List (List D)) (st : PSt) | rt (d : D)
abbrev NB := List (List D) -> PSt -> R NFl
def nSet (j : Nat) (f : Ex) : NB := fun xss st => (f st).bind fun d => .ok (.nx xss (st.set j (some (.v d))))
def nRet (f : Ex) : NB := fun _ st => (f st).bind fun d => .ok (.rt d)
def nIf (c : Ex) (a b : NB) : NB := fun xss st => (c st).bind fun x => onB x fun q => if q = true then a xss st else b xss st
noncomputable def nApp (g f : Ex) : NB := fun xss st => (g st).bind fun x => inI x fun j => (f st).bind fun d => (ofO (ixN xss.length j)).bind fun k => match xss[k]? with
 | some ys => guardR (ys.length < big) (.ok (.nx (xss.set k (ys ++ [d])) st))
 | none => .bad
def sRetO (i : Nat) : Bd := fun st => match st[i]? with
 | some (some (.o .l xs)) => .ok (.rt (.lst xs))
 | _ => .bad
def atom : D -> Bool
 | .non => true
 | .bl _ => true
 | .int _ => true
 | .str _ => true
 | _ => false
def rowOk : D -> Bool
 | .lst xs => xs.all atom
 | _ => false
noncomputable section
def dCopy2 : D -> R D
 | .lst xs => guardR (xs.length <= big /\ xs.all rowOk = true) (.ok (.lst xs))
 | _ => .bad
def unL : D -> List D
 | .lst xs => xs
 | _ => []
open Classical in
def runIX (c : String) (np n : Nat) (b : Bd) (ds : List D) : R D := if h : ∃ r, ∀ x, runI1 c np n b x ds = r then choose h else .bad
end
noncomputable section
end
noncomputable section
end
def zipD : List Nat -> List D -> List D
 | c :: z, d :: ds => .tup [.str [c], d] :: zipD z ds
 | _, _ => []
def itZip (f g : Ex) : ItE := fun st => (f st).bind fun x => (g st).bind fun y => match x, y with
 | .str z, .lst ds => .ok (zipD z ds)
 | _, _ => .bad
noncomputable section
def sDNew1 (i : Nat) (g f : Ex) : Bd := fun st => (g st).bind fun k => (f st).bind fun d => guardR (keyS k = true /\ atom d = true) (.ok (.nx (st.set i (some (.o (.d false [k]) [d])))))
end
noncomputable section
def mIdxL : Mop
 | .lst xs, [.int k] => (dInts xs).bind fun l => (ofO (l.findIdx? fun i => i == k)).bind fun n => guardR (xs.length <= big) (.ok (.int (n : Int)))
 | _, _ => .bad
end
noncomputable def dListD : D -> R D
 | .dct false ks _ => guardR (ks.length <= big) (.ok (.lst ks))
 | _ => .bad
def thenR (bd : Bd) (f : Ex) : Bd := fun st => match bd st with
 | .ok (.nx s) => (f s).bind fun d => match d with
  | .lst xs => .ok (.rt (.lst xs))
  | _ => .bad
 | _ => .bad
def dLtI : Op2
 | .int i, .int j => .ok (.bl (decide (i < j)))
 | _, _ => .bad
noncomputable def dMulI : Op2
 | .int i, .int j => guardR ((-18446744073709551616 < i /\ i < 18446744073709551616) \/ (-18446744073709551616 < j /\ j < 18446744073709551616)) (.ok (.int (i * j)))
 | _, _ => .bad
@[simp] theorem dLtI_int (i j : Int) : dLtI (.int i) (.int j) = .ok (.bl (decide (i < j))) := rfl
@[simp] theorem dMulI_int (i j : Int) : dMulI (.int i) (.int j) = guardR ((-18446744073709551616 < i /\ i < 18446744073709551616) \/ (-18446744073709551616 < j /\ j < 18446744073709551616)) (.ok (.int (i * j))) := rfl
end Pu
namespace Pu
noncomputable section
def eCallV (t : List (String × (List D -> R D))) (i : Nat) (r : Exs) : Ex := fun st => match st[i]? with
 | some (some (.v (.fn f))) => (ofO (t.lookup f)).bind fun p => (r st).bind p
 | _ => .bad
def dNotInC (ns : List Int) : D -> R D := fun x => guardR (plain x = true) (.ok (.bl (!inD x (ns.map D.int))))
def eRepL (r : Exs) (g : Ex) : Ex := fun st => (r st).bind fun xs => (g st).bind fun y => inI y fun j => guardR (xs.length <= big /\ xs.length * j.toNat <= big /\ -4611686018427387904 <= j /\ j < 4611686018427387904) (.ok (.lst (rep j.toNat xs)))
def sDNewV (i : Nat) (g f : Ex) : Bd := fun st => (g st).bind fun k => (f st).bind fun d => guardR (keyS k = true) (.ok (.nx (st.set i (some (.o (.d false [k]) [d])))))
def dInt : D -> R D
 | .int i => .ok (.int i)
 | .bl b => .ok (.int (if b then 1 else 0))
 | _ => .bad
end
end Pu
namespace Pu
@[irreducible] def huge : Nat := 2 ^ 9000
theorem huge_eq : huge = 2 ^ 9000 := by unfold huge; rfl
noncomputable section
def dMulB : Op2
 | .int i, .int j => guardR (i.natAbs < huge /\ j.natAbs < huge) (.ok (.int (i * j)))
 | .str x, .int j => guardR (x.length * j.toNat <= big /\ -4611686018427387904 <= j /\ j < 4611686018427387904) (.ok (.str (rep j.toNat x)))
 | _, _ => .bad
def dFdivB : Op2
 | .int i, .int j => guardR (0 < j /\ j.natAbs < huge) (.ok (.int (i / j)))
 | _, _ => .bad
end
end Pu
namespace Pu
def thenOX (bd : Bd) (i : Nat) : Bd := fun st => match bd st with
 | .ok (.nx s) => sRetO i s
 | .exc x => .exc x
 | _ => .bad
def eChn (o1 o2 : Op2) (f g h : Ex) : Ex := fun st => (f st).bind fun x => (g st).bind fun y => (o1 x y).bind fun d => onB d fun b => if b = true then (h st).bind fun z => o2 y z else .ok (.bl false)
def dLeS : Op2
 | .str s, .str t => .ok (.bl (!decide (t < s)))
 | _, _ => .bad
def zipS : List Nat -> List Nat -> List D
 | c :: z, d :: y => .tup [.str [c], .str [d]] :: zipS z y
 | _, _ => []
def itZipS (f g : Ex) : ItE := fun st => (f st).bind fun x => (g st).bind fun y => match x, y with
 | .str z, .str w => .ok (zipS z w)
 | _, _ => .bad
end Pu
namespace Pu
abbrev VB := List D -> Bd
def lookV (i : Nat) (xs : List D) (st : PSt) : PSt := st.set i (some (.v (.lst xs)))
def vNext : VB := fun _ => sNext
def vSeq (a b : VB) : VB := fun xs st => onNx (a xs st) (b xs)
noncomputable section
def vSetA (i j : Nat) (f : Ex) : VB := fun xs st => (f (lookV i xs st)).bind fun d => guardR (atom d = true) (.ok (.nx (st.set j (some (.v d)))))
def vTwoA (i j k : Nat) (f : Ex) : VB := fun xs st => (f (lookV i xs st)).bind fun d => match d with
 | .tup [a, b] => guardR (atom a = true /\ atom b = true) (.ok (.nx ((st.set j (some (.v a))).set k (some (.v b)))))
 | _ => .bad
def vRetA (i : Nat) (f : Ex) : VB := fun xs st => (f (lookV i xs st)).bind fun d => guardR (atom d = true) (.ok (.rt d))
end
def vSet (j : Nat) (f : Ex) : VB := fun _ => sSet j f
def vList (j : Nat) : VB := fun xs st => .ok (.nx (st.set j (some (.v (.lst xs)))))
def vIf (i : Nat) (c : Ex) (a b : VB) : VB := fun xs st => (c (lookV i xs st)).bind fun x => onB x fun q => if q = true then a xs st else b xs st
def vForR (j : Nat) (body : VB) (xs : List D) : List D -> PSt -> R Fl
 | [], st => .ok (.nx st)
 | d :: ds, st => (body xs (st.set j (some (.v d)))).bind fun r => match r with
  | .nx s2 => vForR j body xs ds s2
  | .rt v => .ok (.rt v)
  | _ => .bad
def vFor (j : Nat) (body : VB) : VB := fun xs st => vForR j body xs xs st
def vGone (b : Bd) : VB := fun _ st => (b st).bind fun fl => match fl with
 | .rt d => .ok (.rt d)
 | _ => .bad
def sOpenV (i : Nat) (f : Ex) (vb : VB) : Bd := fun st => (f st).bind fun d => match d with
 | .lst xs => (vb xs (st.set i none)).bind fun fl => match fl with
  | .rt d => .ok (.rt d)
  | _ => .bad
 | _ => .bad
end Pu
namespace Pu
noncomputable section
def b__law_cell : Bd := sSeq (sIf (e2 dLtI (eVar 1) (e1 dLen (eVar 0))) (sRet (e2 dMod (e2 dIx (eVar 0) (eVar 1)) (e2 dPow (eC (.int 10)) (eC (.int 30))))) (sNext)) (sSeq (sSet 2 (eC (.int 0))) (sSeq (sIf (e2 dGt (e1 dLen (eVar 0)) (eC (.int 0))) (sSet 2 (e2 dMod (e2 dIx (eVar 0) (e2 dMod (eVar 1) (e1 dLen (eVar 0)))) (eC (.int 999983)))) (sNext)) (sRet (e2 dMod (e2 dMulI (e2 dAdd (e2 dAdd (e2 dMulI (eVar 2) (eC (.int 48271))) (e2 dMulI (eC (.int 7919)) (eVar 1))) (eC (.int 11))) (e2 dAdd (eVar 1) (eC (.int 2)))) (eC (.int 2147483647))))))
def p__law_cell : List D -> R D := runD 2 3 b__law_cell
def b__law_pick : Bd := sSeq (sSet 3 (e2 dMod (e2 dAdd (eVar 0) (e2 dMulI (eC (.int 15485863)) (eVar 1))) (eC (.int 2147483629)))) (sSeq (sSet 3 (e2 dMod (e2 dMulI (e2 dMod (e2 dMulI (eVar 3) (eVar 3)) (eC (.int 2147483647))) (eC (.int 69621))) (eC (.int 2147483629)))) (sRet (e2 dMod (e2 dFdiv (e2 dMod (e2 dMulI (eVar 3) (eVar 3)) (eC (.int 2147483587))) (eC (.int 32))) (eVar 2))))
def p__law_pick : List D -> R D := runD 3 4 b__law_pick
def L__law_digits_0 (st : PSt) : R Fl := (sSeq (sApp 2 (e2 dMod (eVar 0) (eVar 3))) (sSet 0 (e2 dFdiv (eVar 0) (eVar 3)))) st
def b__law_digits : Bd := sSeq (sSetO 2 (eLst (aNil))) (sSeq (sFor (tgN 3) (itE (eVar 1)) (L__law_digits_0)) (sFz [2] (sRet (eVar 2))))
def p__law_digits : List D -> R D := runD 2 4 b__law_digits
def b_is_whole : Bd := sRet (eAnd (eB isIn (eVar 0)) (eNot (eB isBl (eVar 0))))
def p_is_whole : List D -> R D := runD 1 1 b_is_whole
def b_check_base : Bd := sIf (eNX (eOr (eNot (eCall p_is_whole (aCons (eVar 0) (aNil)))) (e1 (dNotInC [2, 3]) (eVar 0)))) (sRaise "NoFraction" (aCons (eC (.str [97, 32, 98, 97, 115, 101, 32, 105, 115, 32, 50, 32, 111, 114, 32, 51])) (aNil))) (sNext)
def p_check_base : List D -> R D := runD 1 1 b_check_base
def b_is_below : Bd := sRet (eAnd (eCall p_is_whole (aCons (eVar 0) (aNil))) (eAnd (e2 dGe (eVar 0) (eC (.int 0))) (e2 dLtI (eVar 0) (eVar 1))))
def p_is_below : List D -> R D := runD 2 2 b_is_below
def b_check_fraction : Bd := sSeq (sExp (eCallX p_check_base (aCons (eVar 2) (aNil)))) (sSeq (sIf (eNX (eOr (eNot (eCall p_is_below (aCons (eVar 1) (aCons (e2 dAdd (eC (.int 6)) (eC (.int 1))) (aNil))))) (e2 dEq (eVar 1) (eC (.int 0))))) (sRaise "NoFraction" (aCons (eC (.str [97, 32, 98, 111, 116, 116, 111, 109, 32, 105, 115, 32, 97, 32, 119, 104, 111, 108, 101, 32, 110, 117, 109, 98, 101, 114, 32, 102, 114, 111, 109, 32, 49, 32, 116, 111, 32, 54])) (aNil))) (sNext)) (sIf (eNX (eNot (eCall p_is_below (aCons (eVar 0) (aCons (e2 dAdd (eVar 1) (eC (.int 1))) (aNil)))))) (sRaise "NoFraction" (aCons (eC (.str [97, 32, 116, 111, 112, 32, 105, 115, 32, 97, 32, 119, 104, 111, 108, 101, 32, 110, 117, 109, 98, 101, 114, 32, 102, 114, 111, 109, 32, 48, 32, 116, 111, 32, 116, 104, 101, 32, 98, 111, 116, 116, 111, 109])) (aNil))) (sNext)))
def p_check_fraction : List D -> R D := runD 3 3 b_check_fraction
def L_writing_of_0 (st : PSt) : R Fl := (sSeq (sDPut 5 (eVar 0) (e1 dLen (eVar 4))) (sSeq (sSet 6 (e2 dFdivB (e2 dSub (e2 dMulB (eVar 2) (eVar 0)) (eVar 3)) (eVar 1))) (sSeq (sSet 4 (e2 dAdd (eVar 4) (e2 dIx (eC (.str [97, 98, 99])) (eVar 6)))) (sSet 0 (e2 dSub (e2 dMulB (eVar 2) (eVar 0)) (e2 dMulB (eVar 6) (eVar 1))))))) st
def C_writing_of_1 (st : PSt) : R D := (e2 dNotIn (eVar 0) (ePeek 5)) st
def b_writing_of : Bd := sSeq (sSet 4 (eC (.str []))) (sSeq (sDNew 5 false) (sSeq (sWhile 100000 (C_writing_of_1) (L_writing_of_0)) (sRet (eTup (aCons (eSl (eVar 4) (oNone) (oSome (e2 dIx (ePeek 5) (eVar 0)))) (aCons (eSl (eVar 4) (oSome (e2 dIx (ePeek 5) (eVar 0))) (oNone)) (aNil)))))))
def p_writing_of : List D -> R D := runD 4 7 b_writing_of
def bi_writings_of : Bd := sSeq (sExp (eCallX p_check_fraction (aCons (eVar 0) (aCons (eVar 1) (aCons (eVar 2) (aNil)))))) (sSeq (sNX (sSetO 3 (eLst (aNil)))) (sSeq (sNX (sIf (e2 dLtI (eVar 0) (eVar 1)) (sApp 3 (eCall p_writing_of (aCons (eVar 0) (aCons (eVar 1) (aCons (eVar 2) (aCons (eC (.int 0)) (aNil))))))) (sNext))) (sSeq (sNX (sIf (e2 dGt (eVar 0) (eC (.int 0))) (sSeq (sSet 4 (eCall p_writing_of (aCons (eVar 0) (aCons (eVar 1) (aCons (eVar 2) (aCons (eC (.int 1)) (aNil))))))) (sIf (e2 dNotIn (eVar 4) (ePeek 3)) (sApp 3 (eVar 4)) (sNext))) (sNext))) (sNext))))
def b_writings_of : Bd := thenOX bi_writings_of 3
def p_writings_of : List D -> R D := runD 3 5 b_writings_of
def L__law_ends_0 (st : PSt) : R Fl := (sSeq (sIf (e2 dEq (e2 dMod (eVar 0) (eVar 1)) (eC (.int 0))) (sRet (eC (.bl true))) (sNext)) (sSet 0 (e2 dMulB (eVar 0) (eVar 2)))) st
def b__law_ends : Bd := sSeq (sFor (tgN 3) (itR1 (eC (.int 7))) (L__law_ends_0)) (sRet (eC (.bl false)))
def p__law_ends : List D -> R D := runD 3 4 b__law_ends
def E__law_is_word_0 (st : PSt) : R D := (eVar 3) st
def C__law_is_word_1 (st : PSt) : R D := (e2 dIn (eVar 3) (eSl (eC (.str [97, 98, 99])) (oNone) (oSome (eVar 1)))) st
def L__law_is_word_2 (st : PSt) : R Fl := (sIf (eOr (eNot (eB isSt (eVar 2))) (e2 dNe (e1 dLen (eComp [3] (tgN 3) (itE (eVar 2)) (C__law_is_word_1) (E__law_is_word_0))) (e1 dLen (eVar 2)))) (sRet (eC (.bl false))) (sNext)) st
def b__law_is_word : Bd := sSeq (sIf (eOr (eNot (eB isTu (eVar 0))) (eOr (e2 dNe (e1 dLen (eVar 0)) (eC (.int 2))) (e2 dEq (e2 dIx (eVar 0) (eC (.int 1))) (eC (.str []))))) (sRet (eC (.bl false))) (sNext)) (sSeq (sFor (tgN 2) (itE (eVar 0)) (L__law_is_word_2)) (sRet (eC (.bl true))))
def p__law_is_word : List D -> R D := runD 2 4 b__law_is_word
def L__law_is_short_0 (st : PSt) : R Fl := (sIf (eAnd (e2 dEq (e2 dMod (e1 dLen (eVar 3)) (eVar 1)) (eC (.int 0))) (e2 dEq (e2 dMulB (eSl (eVar 3) (oNone) (oSome (eVar 1))) (e2 dFdivB (e1 dLen (eVar 3)) (eVar 1))) (eVar 3))) (sRet (eC (.bl false))) (sNext)) st
def b__law_is_short : Bd := sSeq (sTgt (tgT [2, 3]) (eVar 0)) (sSeq (sFor (tgN 1) (itR2 (eC (.int 1)) (e1 dLen (eVar 3))) (L__law_is_short_0)) (sRet (eOr (e2 dEq (eVar 2) (eC (.str []))) (e2 dNe (e2 dIx (eVar 2) (e1 dNeg (eC (.int 1)))) (e2 dIx (eVar 3) (e1 dNeg (eC (.int 1))))))))
def p__law_is_short : List D -> R D := runD 1 4 b__law_is_short
def L__law_power_0 (st : PSt) : R Fl := (sSet 2 (e2 dMulB (eVar 2) (eVar 0))) st
def b__law_power : Bd := sSeq (sSet 2 (eC (.int 1))) (sSeq (sFor (tgN 3) (itR1 (eVar 1)) (L__law_power_0)) (sRet (eVar 2)))
def p__law_power : List D -> R D := runD 2 4 b__law_power
def L__law_number_0 (st : PSt) : R Fl := (sSet 2 (e2 dAdd (e2 dMulB (eVar 2) (eVar 1)) (eMt mIndex (eC (.str [97, 98, 99])) (aCons (eVar 3) (aNil))))) st
def b__law_number : Bd := sSeq (sSet 2 (eC (.int 0))) (sSeq (sFor (tgN 3) (itE (eVar 0)) (L__law_number_0)) (sRet (eVar 2)))
def p__law_number : List D -> R D := runD 2 4 b__law_number
def b__law_worth : Bd := sSeq (sSet 2 (e2 dSub (eCall p__law_power (aCons (eVar 1) (aCons (e1 dLen (e2 dIx (eVar 0) (eC (.int 1)))) (aNil)))) (eC (.int 1)))) (sSeq (sSet 3 (e2 dAdd (e2 dMulB (eCall p__law_number (aCons (e2 dIx (eVar 0) (eC (.int 0))) (aCons (eVar 1) (aNil)))) (eVar 2)) (eCall p__law_number (aCons (e2 dIx (eVar 0) (eC (.int 1))) (aCons (eVar 1) (aNil)))))) (sRet (eTup (aCons (eVar 3) (aCons (e2 dMulB (eCall p__law_power (aCons (eVar 1) (aCons (e1 dLen (e2 dIx (eVar 0) (eC (.int 0)))) (aNil)))) (eVar 2)) (aNil))))))
def p__law_worth : List D -> R D := runD 2 4 b__law_worth
def L__law_first_unlike_0 (st : PSt) : R Fl := (sIf (e2 dNe (eVar 4) (eVar 5)) (sRet (eTup (aCons (eVar 4) (aCons (eVar 5) (aNil))))) (sNext)) st
def b__law_first_unlike : Bd := sSeq (sSet 2 (e2 dAdd (e2 dIx (eVar 0) (eC (.int 0))) (e2 dMulB (e2 dIx (eVar 0) (eC (.int 1))) (eC (.int 12))))) (sSeq (sSet 3 (e2 dAdd (e2 dIx (eVar 1) (eC (.int 0))) (e2 dMulB (e2 dIx (eVar 1) (eC (.int 1))) (eC (.int 12))))) (sSeq (sFor (tgT [4, 5]) (itZipS (eVar 2) (eVar 3)) (L__law_first_unlike_0)) (sRet (eTup (aCons (eC (.str [])) (aCons (eC (.str [])) (aNil)))))))
def p__law_first_unlike : List D -> R D := runD 2 6 b__law_first_unlike
def V__law_right_0 : VB := vSeq (vIf 3 (eOr (eNot (eCall p__law_is_word (aCons (eVar 5) (aCons (eVar 2) (aNil))))) (eNot (eCall p__law_is_short (aCons (eVar 5) (aNil))))) (vRetA 3 (eC (.bl false))) (vNext)) (vSeq (vSet 7 (eCall p__law_worth (aCons (eVar 5) (aCons (eVar 2) (aNil))))) (vIf 3 (e2 dNe (e2 dMulB (e2 dIx (eVar 7) (eC (.int 0))) (eVar 1)) (e2 dMulB (eVar 0) (e2 dIx (eVar 7) (eC (.int 1))))) (vRetA 3 (eC (.bl false))) (vNext)))
def b__law_right : Bd := sOpenV 3 (eCall (pNX p_writings_of) (aCons (eVar 0) (aCons (eVar 1) (aCons (eVar 2) (aNil))))) (vSeq (vSetA 3 4 (e2 dAdd (eC (.int 1)) (e1 dInt (eAnd (eChn dLtI dLtI (eC (.int 0)) (eVar 0) (eVar 1)) (eCall p__law_ends (aCons (eVar 0) (aCons (eVar 1) (aCons (eVar 2) (aNil))))))))) (vSeq (vIf 3 (eOr (eNot (eB isLs (eVar 3))) (e2 dNe (e1 dLen (eVar 3)) (eVar 4))) (vRetA 3 (eC (.bl false))) (vNext)) (vSeq (vFor 5 V__law_right_0) (vSeq (vIf 3 (e2 dEq (eVar 4) (eC (.int 2))) (vSeq (vTwoA 3 8 9 (eCall p__law_first_unlike (aCons (e2 dIx (eVar 3) (eC (.int 0))) (aCons (e2 dIx (eVar 3) (eC (.int 1))) (aNil))))) (vIf 3 (e2 dLeS (eVar 8) (eVar 9)) (vRetA 3 (eC (.bl false))) (vNext))) (vNext)) (vSeq (vList 6) (vGone (sSeq (sIf (eAnd (e2 dLe (eVar 1) (eC (.int 3))) (e2 dNe (eCall (pNX p_writings_of) (aCons (e2 dMulB (eC (.int 2)) (eVar 0)) (aCons (e2 dMulB (eC (.int 2)) (eVar 1)) (aCons (eVar 2) (aNil))))) (eVar 6))) (sRet (eC (.bl false))) (sNext)) (sRet (e2 dEq (eCall (pNX p_writings_of) (aCons (eVar 0) (aCons (eVar 1) (aCons (eVar 2) (aNil))))) (eVar 6))))))))))
def p__law_right : List D -> R D := runD 3 10 b__law_right
def b_room_from_on : Bd := sSeq (sIf (e2 dGt (eVar 0) (eVar 1)) (sRet (eC (.int 7))) (sNext)) (sRet (e2 dMax2 (eVar 0) (eC (.int 0))))
def p_room_from_on : List D -> R D := runD 2 2 b_room_from_on
def b_room_up_to : Bd := sSeq (sIf (e2 dLtI (eVar 0) (eC (.int 0))) (sRet (eC (.int 7))) (sNext)) (sRet (e2 dMin2 (eVar 0) (eVar 1)))
def p_room_up_to : List D -> R D := runD 2 2 b_room_up_to
def L_ways_from_0 (st : PSt) : R Fl := (sIf (eAnd (e2 dIn (eVar 8) (eVar 2)) (e2 dNotIn (eVar 8) (ePeek 3))) (sSeq (sDPut 3 (eVar 8) (e2 dAdd (e2 dIx (ePeek 3) (eVar 6)) (eVar 7))) (sApp 4 (eVar 8))) (sNext)) st
def L_ways_from_1 (st : PSt) : R Fl := (sSeq (sSet 6 (e2 dIx (ePeek 4) (eVar 5))) (sSeq (sFor (tgT [7, 8]) (itZip (eC (.str [97, 98, 99])) (e2 dIx (eVar 0) (eVar 6))) (L_ways_from_0)) (sSet 5 (e2 dAdd (eVar 5) (eC (.int 1)))))) st
def C_ways_from_2 (st : PSt) : R D := (e2 dLtI (eVar 5) (e1 dLen (ePeek 4))) st
def b_ways_from : Bd := sSeq (sDNew1 3 (eVar 1) (eC (.str []))) (sSeq (sSetO 4 (eLst (aCons (eVar 1) (aNil)))) (sSeq (sSet 5 (eC (.int 0))) (sSeq (sWhile 100000 (C_ways_from_2) (L_ways_from_1)) (sFz [3] (sRet (eVar 3))))))
def p_ways_from : List D -> R D := runD 3 9 b_ways_from
def b_is_filled_list : Bd := sRet (eAnd (eB isLs (eVar 0)) (eAnd (e2 dGe (e1 dLen (eVar 0)) (eC (.int 1))) (e2 dLe (e1 dLen (eVar 0)) (eVar 1))))
def p_is_filled_list : List D -> R D := runD 2 2 b_is_filled_list
def E_is_row_0 (st : PSt) : R D := (eCall p_is_below (aCons (eVar 3) (aCons (eVar 2) (aNil)))) st
def b_is_row : Bd := sRet (eAnd (e2 dEq (e1 dLen (eVar 0)) (eVar 1)) (e1 dAll (eComp [3] (tgN 3) (itE (eVar 0)) eTrue (E_is_row_0))))
def p_is_row : List D -> R D := runD 3 4 b_is_row
def E_are_steps_0 (st : PSt) : R D := (eCall p_is_filled_list (aCons (eVar 1) (aCons (eC (.int 3)) (aNil)))) st
def E_are_steps_1 (st : PSt) : R D := (eCall p_is_row (aCons (eVar 1) (aCons (e1 dLen (e2 dIx (eVar 0) (eC (.int 0)))) (aCons (e1 dLen (eVar 0)) (aNil))))) st
def b_are_steps : Bd := sSeq (sIf (eNot (eCall p_is_filled_list (aCons (eVar 0) (aCons (eC (.int 8)) (aNil))))) (sRet (eC (.bl false))) (sNext)) (sSeq (sIf (eNot (e1 dAll (eComp [1] (tgN 1) (itE (eVar 0)) eTrue (E_are_steps_0)))) (sRet (eC (.bl false))) (sNext)) (sRet (e1 dAll (eComp [1] (tgN 1) (itE (eVar 0)) eTrue (E_are_steps_1)))))
def p_are_steps : List D -> R D := runD 1 2 b_are_steps
def E_are_ranks_0 (st : PSt) : R D := (eAnd (eCall p_is_whole (aCons (eVar 2) (aNil))) (e2 dGe (eVar 2) (eC (.int 0)))) st
def b_are_ranks : Bd := sSeq (sIf (eOr (eNot (eB isLs (eVar 0))) (e2 dNe (e1 dLen (eVar 0)) (eVar 1))) (sRet (eC (.bl false))) (sNext)) (sRet (e1 dAll (eComp [2] (tgN 2) (itE (eVar 0)) eTrue (E_are_ranks_0))))
def p_are_ranks : List D -> R D := runD 2 3 b_are_ranks
def E_Machine___init___0 (st : PSt) : R D := (e1 dList (eVar 3)) st
def b_Machine___init__ : Bd := sSeq (sIf (eNot (eCall p_are_steps (aCons (eVar 1) (aNil)))) (sNever) (sNext)) (sSeq (sIf (eNot (eCall p_are_ranks (aCons (eVar 2) (aCons (e1 dLen (eVar 1)) (aNil))))) (sNever) (sNext)) (sSeq (sFldC 0 "Machine" "steps" (eComp [3] (tgN 3) (itE (eVar 1)) eTrue (E_Machine___init___0))) (sSeq (sFldC 0 "Machine" "ranks" (e1 dList (eVar 2))) (sSeq (sFldC 0 "Machine" "many" (e1 dLen (eVar 1))) (sFldC 0 "Machine" "letters" (e1 dLen (e2 dIx (eVar 1) (eC (.int 0)))))))))
def p_Machine___init__ : List D -> R D := runI "Machine" 2 4 b_Machine___init__
def E_machine_of_0 (st : PSt) : R D := (eCallV [("room_from_on", p_room_from_on), ("room_up_to", p_room_up_to)] 3 (aCons (e2 dSub (e2 dMulB (eVar 2) (eVar 5)) (e2 dMulB (eVar 8) (eVar 1))) (aCons (eVar 1) (aNil)))) st
def L_machine_of_1 (st : PSt) : R Fl := (sDPut 4 (eVar 5) (eComp [8] (tgN 8) (itR1 (eVar 2)) eTrue (E_machine_of_0))) st
def E_machine_of_2 (st : PSt) : R D := (eIf (e2 dEq (eVar 5) (eC (.int 7))) (eC (.int 1)) (eC (.int 0))) st
def E_machine_of_4 (st : PSt) : R D := (eMt mIdxL (eVar 6) (aCons (eVar 9) (aNil))) st
def E_machine_of_5 (st : PSt) : R D := (eComp [9] (tgN 9) (itE (e2 dIx (ePeek 4) (eVar 5))) eTrue (E_machine_of_4)) st
def b_machine_of : Bd := sSeq (sExp (eCallX p_check_fraction (aCons (eVar 0) (aCons (eVar 1) (aCons (eVar 2) (aNil)))))) (sSeq (sNX (sDNewV 4 (eC (.int 7)) (eRepL (aCons (eC (.int 7)) (aNil)) (eVar 2)))) (sSeq (sNX (sFor (tgN 5) (itR1 (e2 dAdd (eVar 1) (eC (.int 1)))) (L_machine_of_1))) (sSeq (sNX (sFz [4] (sSet 6 (e1 dListD (eCall p_ways_from (aCons (eVar 4) (aCons (eVar 0) (aCons (e1 dListD (eVar 4)) (aNil))))))))) (sSeq (sNX (sSet 7 (eComp [5] (tgN 5) (itE (eVar 6)) eTrue (E_machine_of_2)))) (sNX (sRet (eCall p_Machine___init__ (aCons (eComp [5] (tgN 5) (itE (eVar 6)) eTrue (E_machine_of_5)) (aCons (eVar 7) (aNil))))))))))
def p_machine_of : List D -> R D := runD 4 10 b_machine_of
def b_up_to : Bd := sRet (eCallX p_machine_of (aCons (eVar 0) (aCons (eVar 1) (aCons (eVar 2) (aCons (eC (.fn "room_up_to")) (aNil))))))
def p_up_to : List D -> R D := runD 3 3 b_up_to
def b_from_on : Bd := sRet (eCallX p_machine_of (aCons (eVar 0) (aCons (eVar 1) (aCons (eVar 2) (aCons (eC (.fn "room_from_on")) (aNil))))))
def p_from_on : List D -> R D := runD 3 3 b_from_on
def b__law_no_fraction : Bd := sSeq (sSet 4 (eC (.bl false))) (sSeq (sTry (sIf (eNX (e2 dEq (eVar 0) (eC (.int 0)))) (sExp (eCallX p_writings_of (aCons (eVar 1) (aCons (eVar 2) (aCons (eVar 3) (aNil)))))) (sIf (eNX (e2 dEq (eVar 0) (eC (.int 1)))) (sExp (eCallX p_up_to (aCons (eVar 1) (aCons (eVar 2) (aCons (eVar 3) (aNil)))))) (sExp (eCallX p_from_on (aCons (eVar 1) (aCons (eVar 2) (aCons (eVar 3) (aNil)))))))) ((["NoFraction"], ["NoMachine"], hNo (sSet 4 (eC (.bl true)))) :: [])) (sRet (eVar 4)))
def p__law_no_fraction : List D -> R D := runD 4 5 b__law_no_fraction
def L__law_refused_0 (st : PSt) : R Fl := (sIf (eNot (eCall p__law_no_fraction (aCons (eVar 5) (aCons (eVar 1) (aCons (eVar 2) (aCons (eVar 6) (aNil))))))) (sRet (eC (.bl false))) (sNext)) st
def L__law_refused_1 (st : PSt) : R Fl := (sIf (eNot (eCall p__law_no_fraction (aCons (eVar 5) (aCons (eC (.int 0)) (aCons (eVar 6) (aCons (eVar 3) (aNil))))))) (sRet (eC (.bl false))) (sNext)) st
def L__law_refused_2 (st : PSt) : R Fl := (sIf (eNot (eCall p__law_no_fraction (aCons (eVar 5) (aCons (eVar 6) (aCons (eVar 2) (aCons (eVar 3) (aNil))))))) (sRet (eC (.bl false))) (sNext)) st
def L__law_refused_3 (st : PSt) : R Fl := (sSeq (sFor (tgN 6) (itE (eLst (aCons (eC (.int 1)) (aCons (eC (.int 4)) (aCons (eC (.int 0)) (aCons (e1 dNeg (eC (.int 3))) (aCons (eVar 4) (aCons (eC (.bl true)) (aCons (eC .non) (aCons (eC (.str [50])) (aNil))))))))))) (L__law_refused_0)) (sSeq (sFor (tgN 6) (itE (eLst (aCons (eC (.int 0)) (aCons (e1 dNeg (eC (.int 1))) (aCons (eC (.int 7)) (aCons (eVar 4) (aCons (eC (.bl true)) (aCons (eC .non) (aCons (eC (.str [51])) (aCons (eLst (aCons (eC (.int 2)) (aNil))) (aNil))))))))))) (L__law_refused_1)) (sFor (tgN 6) (itE (eLst (aCons (e1 dNeg (eC (.int 1))) (aCons (e2 dAdd (eVar 2) (eC (.int 1))) (aCons (eVar 4) (aCons (eC (.bl true)) (aCons (eC .non) (aCons (eC (.str [49])) (aCons (eTup (aCons (eC (.int 1)) (aNil))) (aNil)))))))))) (L__law_refused_2)))) st
def b__law_refused : Bd := sSeq (sSet 4 (e2 dAdd (eC (.int 7)) (e2 dMulB (eCall p__law_pick (aCons (eVar 0) (aCons (eC (.int 11)) (aCons (e2 dPow (eC (.int 10)) (eC (.int 9))) (aNil))))) (e2 dPow (eC (.int 10)) (eC (.int 9)))))) (sSeq (sFor (tgN 5) (itR1 (eC (.int 3))) (L__law_refused_3)) (sRet (eC (.bl true))))
def p__law_refused : List D -> R D := runD 4 7 b__law_refused
def L_law_0 (st : PSt) : R Fl := (sSeq (sSet 3 (eCall p__law_cell (aCons (eVar 0) (aCons (eVar 2) (aNil))))) (sSeq (sSet 4 (eLst (aCons (eCall p__law_pick (aCons (eVar 3) (aCons (eC (.int 1)) (aCons (eC (.int 6)) (aNil))))) (aCons (eCall p__law_pick (aCons (eVar 3) (aCons (eC (.int 2)) (aCons (eC (.int 420)) (aNil))))) (aCons (eCall p__law_pick (aCons (eVar 3) (aCons (eC (.int 3)) (aCons (eC (.int 2)) (aNil))))) (aNil)))))) (sSeq (sIf (e2 dEq (e2 dMod (eVar 3) (eC (.int 2))) (eC (.int 1))) (sSet 4 (eCall p__law_digits (aCons (e2 dFdivB (eVar 3) (eC (.int 2))) (aCons (eLst (aCons (eC (.int 6)) (aCons (eC (.int 420)) (aCons (eC (.int 2)) (aNil))))) (aNil))))) (sNext)) (sSeq (sSet 5 (e2 dAdd (eC (.int 1)) (e2 dIx (eVar 4) (eC (.int 0))))) (sSeq (sSet 6 (e2 dMod (e2 dIx (eVar 4) (eC (.int 1))) (e2 dAdd (eVar 5) (eC (.int 1))))) (sSeq (sSet 7 (e2 dAdd (eC (.int 2)) (e2 dIx (eVar 4) (eC (.int 2))))) (sSeq (sIf (eNot (eCall p__law_right (aCons (eVar 6) (aCons (eVar 5) (aCons (eVar 7) (aNil)))))) (sRet (eC (.bl false))) (sNext)) (sIf (eAnd (e2 dEq (eVar 2) (eC (.int 1))) (eNot (eCall p__law_refused (aCons (eVar 1) (aCons (eVar 6) (aCons (eVar 5) (aCons (eVar 7) (aNil)))))))) (sRet (eC (.bl false))) (sNext))))))))) st
def b_law : Bd := sSeq (sSet 1 (eCall p__law_cell (aCons (eVar 0) (aCons (eC (.int 0)) (aNil))))) (sSeq (sFor (tgN 2) (itR2 (eC (.int 1)) (e2 dMax2 (eC (.int 4)) (e2 dMin2 (e1 dLen (eVar 0)) (eC (.int 9))))) (L_law_0)) (sRet (eC (.bl true))))
def p_law : List D -> R D := runD 1 8 b_law
end
end Pu
namespace Pu
@[simp] theorem bind_exc' {α β : Type} (x : D) (f : α -> R β) : (R.exc x : R α).bind f = .exc x := rfl
@[simp] theorem nox_bad' {α : Type} : (R.bad : R α).nox = .bad := rfl
@[simp] theorem nox_exc' {α : Type} (x : D) : (R.exc x : R α).nox = .bad := rfl
@[simp] theorem onNx_exc (x : D) (f : PSt -> R Fl) : onNx (.exc x) f = .exc x := rfl
@[simp] theorem sNX_ap (b : Bd) (st : PSt) : sNX b st = (b st).nox := rfl
@[simp] theorem eNX_ap (f : Ex) (st : PSt) : eNX f st = (f st).nox := rfl
@[simp] theorem pNX_ap (p : List D -> R D) (ds : List D) : pNX p ds = (p ds).nox := rfl
@[simp] theorem sRaise_ap (c : String) (r : Exs) (st : PSt) : sRaise c r st = (r st).nox.bind fun xs => guardR (xs.length <= 100) (.exc (.exn c [] [])) := rfl
@[simp] theorem eCallX_ap (p : List D -> R D) (r : Exs) (st : PSt) : eCallX p r st = (r st).nox.bind p := rfl
@[simp] theorem sTry_ap (b : Bd) (hs : List (List String × List String × (String -> Bd))) (st : PSt) : sTry b hs st = (match b st with | .exc (.exn c [] []) => hRun hs c st | .exc _ => .bad | r => r) := rfl
@[simp] theorem hRun_cons (yes no : List String) (b : String -> Bd) (hs : List (List String × List String × (String -> Bd))) (c : String) (st : PSt) : hRun ((yes, no, b) :: hs) c st = if c ∈ yes then (b c st).nox else if c ∈ no then hRun hs c st else .bad := rfl
@[simp] theorem hNo_ap (b : Bd) (c : String) (st : PSt) : hNo b c st = b st := rfl
@[simp] theorem dAll_lst (x : List D) : dAll (.lst x) = (bls x).bind fun l => .ok (.bl (l.all id)) := rfl
@[simp] theorem dList_lst (x : List D) : dList (.lst x) = .ok (.lst x) := rfl
@[simp] theorem dList_tup (x : List D) : dList (.tup x) = .ok (.lst x) := rfl
end Pu
namespace Pu
@[simp] theorem nSet_ap (j : Nat) (f : Ex) (xss : List (List D)) (st : PSt) : nSet j f xss st = (f st).bind fun d => .ok (.nx xss (st.set j (some (.v d)))) := rfl
@[simp] theorem nRet_ap (f : Ex) (xss : List (List D)) (st : PSt) : nRet f xss st = (f st).bind fun d => .ok (.rt d) := rfl
@[simp] theorem nIf_ap (c : Ex) (a b : NB) (xss : List (List D)) (st : PSt) : nIf c a b xss st = (c st).bind fun x => onB x fun q => if q = true then a xss st else b xss st := rfl
@[simp] theorem nApp_ap (g f : Ex) (xss : List (List D)) (st : PSt) : nApp g f xss st = (g st).bind fun x => inI x fun j => (f st).bind fun d => (ofO (ixN xss.length j)).bind fun k => match xss[k]? with
 | some ys => guardR (ys.length < big) (.ok (.nx (xss.set k (ys ++ [d])) st))
 | none => .bad := rfl
end Pu
namespace Pu
end Pu
namespace Pu
theorem seq_nx {a b : Bd} {st st' : PSt} {r : R Fl} (h : a st = .ok (.nx st')) (h2 : b st' = r) : sSeq a b st = r := by
 rw [sSeq_ap, h]
 exact h2
theorem seq_rt {a b : Bd} {st : PSt} {d : D} (h : a st = .ok (.rt d)) : sSeq a b st = .ok (.rt d) := by
 rw [sSeq_ap, h]
 rfl
theorem run_rt {np n : Nat} {b : Bd} {ds : List D} {d : D} (h : ds.length = np) (hb : b (ds.map (fun d => some (.v d)) ++ List.replicate (n - np) none) = .ok (.rt d)) : runD np n b ds = .ok d := by
 rw [runD_ap h, hb]
 rfl
theorem run_nx {np n : Nat} {b : Bd} {ds : List D} {st : PSt} (h : ds.length = np) (hb : b (ds.map (fun d => some (.v d)) ++ List.replicate (n - np) none) = .ok (.nx st)) : runD np n b ds = .ok .non := by
 rw [runD_ap h, hb]
 rfl
end Pu
namespace Pu
theorem rangeD_zero (n : Nat) : rangeD 0 n = (List.range n).map fun (k : Nat) => D.int (k : Int) := by
 unfold rangeD
 refine List.map_congr_left fun k _ => ?_
 rw [Int.zero_add]
theorem for_look {L : Bd} {j : Nat} (S : Option Sl -> PSt) (hset : ∀ x d, (S x).set j (some (.v d)) = S (some (.v d))) : ∀ (ks : List D), (∀ d ∈ ks, L (S (some (.v d))) = .ok (.nx (S (some (.v d))))) -> ∀ x, ∃ x', forR (tgN j) L ks (S x) = .ok (.nx (S x'))
 | [], _, x => ⟨x, rfl⟩
 | d :: ks, hb, x => by
  obtain ⟨x', e⟩ := for_look S hset ks (fun d hd => hb d (List.mem_cons_of_mem _ hd)) (some (.v d))
  refine ⟨x', ?_⟩
  rw [forR_cons]
  simp only [tgN_ap, bind_ok', hset, hb d List.mem_cons_self]
  exact e
end Pu
namespace Pu
theorem set_ok {i : Nat} {f : Ex} {st : PSt} {d : D} (h : f st = .ok d) : sSet i f st = .ok (.nx (st.set i (some (.v d)))) := by rw [sSet_ap, h, bind_ok']
theorem setO_ok {i : Nat} {f : Ex} {st : PSt} {xs : List D} (h : f st = .ok (.lst xs)) : sSetO i f st = .ok (.nx (st.set i (some (.o .l xs)))) := by rw [sSetO_ap, h, bind_ok']
theorem call_ok {p : List D -> R D} {r : Exs} {st : PSt} {ds : List D} {x : R D} (h : r st = .ok ds) (hp : p ds = x) : eCall p r st = x := by rw [eCall_ap, h, bind_ok', hp]
theorem op_ok {op : Op2} {f g : Ex} {st : PSt} {x y : D} {z : R D} (hf : f st = .ok x) (hg : g st = .ok y) (h : op x y = z) : e2 op f g st = z := by rw [e2_ap, hf, bind_ok', hg, bind_ok', h]
theorem if_t {c : Ex} {a b : Bd} {st : PSt} {r : R Fl} (h : c st = .ok (.bl true)) (ha : a st = r) : sIf c a b st = r := by rw [sIf_ap, h, bind_ok', onB_bl, if_pos rfl, ha]
theorem if_f {c : Ex} {a b : Bd} {st : PSt} {r : R Fl} (h : c st = .ok (.bl false)) (hb : b st = r) : sIf c a b st = r := by rw [sIf_ap, h, bind_ok', onB_bl, if_neg Bool.false_ne_true, hb]
theorem and_ok {f g : Ex} {st : PSt} {p q : Bool} (hf : f st = .ok (.bl p)) (hg : p = true -> g st = .ok (.bl q)) : eAnd f g st = .ok (.bl (p && q)) := by
 rw [eAnd_ap, hf, bind_ok', onB_bl]
 cases p with
 | true => rw [if_pos rfl, hg rfl]; rfl
 | false => rfl
theorem or_ok {f g : Ex} {st : PSt} {p q : Bool} (hf : f st = .ok (.bl p)) (hg : p = false -> g st = .ok (.bl q)) : eOr f g st = .ok (.bl (p || q)) := by
 rw [eOr_ap, hf, bind_ok', onB_bl]
 cases p with
 | true => rfl
 | false => rw [if_neg Bool.false_ne_true, hg rfl]; rfl
theorem not_ok {f : Ex} {st : PSt} {p : Bool} (hf : f st = .ok (.bl p)) : eNot f st = .ok (.bl (!p)) := by rw [eNot_ap, hf, bind_ok', onB_bl]
theorem ret_ok {f : Ex} {st : PSt} {d : D} (h : f st = .ok d) : sRet f st = .ok (.rt d) := by rw [sRet_ap, h, bind_ok']
theorem for_ok {tg : Tg} {it : ItE} {L : Bd} {st : PSt} {xs : List D} {r : R Fl} (h : it st = .ok xs) (hr : forR tg L xs st = r) : sFor tg it L st = r := by rw [sFor_ap, h, bind_ok', hr]
theorem arg_ok {f : Ex} {r : Exs} {st : PSt} {d : D} {ds : List D} (h : f st = .ok d) (hr : r st = .ok ds) : aCons f r st = .ok (d :: ds) := by rw [aCons_ap, h, bind_ok', hr, bind_ok']
theorem lst_ok {r : Exs} {st : PSt} {ds : List D} (h : r st = .ok ds) (hl : ds.length <= 1000 := by exact of_decide_eq_true rfl) : eLst r st = .ok (.lst ds) := by rw [eLst_ap, h, bind_ok', guardR_pos (le_big (Nat.le_trans hl (by decide)))]
theorem mod_ok {i j : Int} (h : 0 < j) : dMod (.int i) (.int j) = .ok (.int (i % j)) := guardR_pos h
theorem fdiv_ok {i j : Int} (h : 0 < j /\ j < 1073741824) : dFdiv (.int i) (.int j) = .ok (.int (i / j)) := guardR_pos h
theorem eqi_ok (i j : Int) : dEq (.int i) (.int j) = .ok (.bl (decide (i = j))) := by
 have : (i == j) = decide (i = j) := by by_cases h : i = j <;> simp [h]
 rw [<- this]
 exact guardR_pos ⟨Nat.zero_le 64, rfl, rfl⟩
theorem app_ok {i : Nat} {f : Ex} {st : PSt} {d : D} {xs : List D} (h : f st = .ok d) (hs : st[i]? = some (some (.o .l xs))) (hl : xs.length < 1000000) : sApp i f st = .ok (.nx (st.set i (some (.o .l (xs ++ [d]))))) := by
 rw [sApp_ap, h, bind_ok', hs]
 exact guardR_pos (lt_big (Nat.lt_trans hl (by decide)))
theorem r1_ok {f : Ex} {st : PSt} {n : Nat} (h : f st = .ok (.int n)) (hn : n <= 1000000) : itR1 f st = .ok ((List.range n).map fun (k : Nat) => D.int (k : Int)) := by
 rw [itR1_ap, h, bind_ok', <- rangeD_zero]
 exact guardR_pos ⟨ge_bigI (by omega), le_bigI (by omega)⟩
theorem for_go {tg : Tg} {L : Bd} {d : D} {ds : List D} {st s1 s2 : PSt} {r : R Fl} (ht : tg d st = .ok s1) (hL : L s1 = .ok (.nx s2)) (hr : forR tg L ds s2 = r) : forR tg L (d :: ds) st = r := by
 rw [forR_cons, ht, bind_ok', hL]
 exact hr
theorem ix_ok {xs : List D} {i : Int} {d : D} (h : atI xs i = some d) : dIx (.lst xs) (.int i) = .ok d := by
 show ofO (atI xs i) = _
 rw [h]
 rfl
theorem lt_t {p q : Nat} (h : p < q) : decide ((p : Int) < (q : Int)) = true := decide_eq_true (by omega)
theorem lt_f {p q : Nat} (h : ¬ p < q) : decide ((p : Int) < (q : Int)) = false := decide_eq_false (by omega)
theorem ok_bl {r : R D} {p q : Bool} (h : r = .ok (.bl p)) (e : p = q) : r = .ok (.bl q) := by rw [h, e]
theorem it_ok {f : Ex} {st : PSt} {xs : List D} (h : f st = .ok (.lst xs)) : itE f st = .ok xs := by rw [itE_ap, h, bind_ok']
end Pu
namespace Pu
def gB {α : Type} (c : Bool) (r : R α) : R α := match c with
 | true => r
 | false => .bad
theorem g_tw {α : Type} (c : Prop) [Decidable c] (r : R α) : guardR c r = gB (decide c) r := by
 by_cases h : c
 ·rw [guardR_pos h, decide_eq_true h]; rfl
 ·rw [decide_eq_false h]; exact if_neg h
def okN (n : Nat) : Bool := Nat.ble n 10000000
theorem okN_eq (n : Nat) : decide (n <= big) = okN n := by
 rw [big_eq]
 unfold okN
 cases h : Nat.ble n 10000000 with
 | true => exact decide_eq_true (Nat.le_of_ble_eq_true h)
 | false => exact decide_eq_false fun z => by rw [Nat.ble_eq_true_of_le z] at h; cases h
theorem g_n {α : Type} (n : Nat) (r : R α) : guardR (n <= big) r = gB (okN n) r := by rw [g_tw, okN_eq]
theorem g_lt {α : Type} (n : Nat) (r : R α) : guardR (n < big) r = gB (okN (n + 1)) r := g_n (n + 1) r
def eBT (p : D -> Bool) (f : Ex) : Ex := fun st => (f st).bind fun x => gB (bltD x) (.ok (.bl (p x)))
theorem eB_tw : eB = eBT := by
 funext p f st
 show (f st).bind (fun x => guardR (bltD x = true) (.ok (D.bl (p x)))) = _
 unfold eBT
 congr 1
 funext x
 rw [g_tw]; cases bltD x <;> rfl
def dNotInCT (ns : List Int) : D -> R D := fun x => gB (plain x) (.ok (.bl (!inD x (ns.map D.int))))
theorem dNotInC_tw : dNotInC = dNotInCT := by
 funext ns x
 unfold dNotInC dNotInCT
 rw [g_tw]; cases plain x <;> rfl
def dAddT : Op2
 | .int i, .int j => .ok (.int (i + j))
 | .str x, .str y => gB (okN (x.length + y.length)) (.ok (.str (x ++ y)))
 | .lst x, .lst y => gB (okN (x.length + y.length)) (.ok (.lst (x ++ y)))
 | _, _ => .bad
theorem dAdd_tw : dAdd = dAddT := by
 funext x y
 unfold dAdd dAddT
 split
 ·rfl
 ·exact g_n _ _
 ·exact g_n _ _
 ·first | rfl | (split <;> simp_all)
def andB (a b : Bool) : Bool := match a with
 | true => b
 | false => false
def eqT (x y : D) : Bool := andB (Nat.ble (dep x) 64) (andB (plain x) (plain y))
theorem eqT_eq (x y : D) : decide (dep x <= 64 /\ plain x = true /\ plain y = true) = eqT x y := by
 unfold eqT andB
 cases h : Nat.ble (dep x) 64 with
 | false => exact decide_eq_false fun z => by rw [Nat.ble_eq_true_of_le z.1] at h; cases h
 | true =>
  have := Nat.le_of_ble_eq_true h
  cases plain x <;> cases plain y <;> simp [this]
def dEqT : Op2 := fun a b => gB (eqT a b) (.ok (.bl (eqD a b)))
theorem dEq_tw : dEq = dEqT := by
 funext x y
 unfold dEq dEqT
 rw [g_tw, eqT_eq]
def dNeT : Op2 := fun a b => gB (eqT a b) (.ok (.bl (!eqD a b)))
theorem dNe_tw : dNe = dNeT := by
 funext x y
 unfold dNe dNeT
 rw [g_tw, eqT_eq]
def inT (x : D) (ys : List D) : Bool := andB (Nat.ble (deps ys) 60) (andB (plain x) (plains ys))
theorem inT_eq (x : D) (ys : List D) : decide (deps ys <= 60 /\ plain x = true /\ plains ys = true) = inT x ys := by
 unfold inT andB
 cases h : Nat.ble (deps ys) 60 with
 | false => exact decide_eq_false fun z => by rw [Nat.ble_eq_true_of_le z.1] at h; cases h
 | true =>
  have := Nat.le_of_ble_eq_true h
  cases plain x <;> cases plains ys <;> simp [this]
theorem g_b {α : Type} (b : Bool) (r : R α) : guardR (b = true) r = gB b r := by
 rw [g_tw]; cases b <;> rfl
def dInT : D -> D -> R D
 | k, .dct t ks _ => gB (keyOk t k) (.ok (.bl (hasK ks k)))
 | x, .lst ys => gB (inT x ys) (.ok (.bl (inD x ys)))
 | x, .tup ys => gB (inT x ys) (.ok (.bl (inD x ys)))
 | .str x, .str y => .ok (.bl (findN y x 0).isSome)
 | _, _ => .bad
theorem dIn_tw : dIn = dInT := by
 funext x y
 unfold dIn dInT
 split
 ·exact g_b _ _
 ·rw [g_tw, inT_eq]
 ·rw [g_tw, inT_eq]
 ·rfl
 ·first | rfl | (split <;> simp_all)
def dNotInT : D -> D -> R D
 | k, .dct t ks _ => gB (keyOk t k) (.ok (.bl (!hasK ks k)))
 | x, .lst ys => gB (inT x ys) (.ok (.bl (!inD x ys)))
 | x, .tup ys => gB (inT x ys) (.ok (.bl (!inD x ys)))
 | .str x, .str y => .ok (.bl (!(findN y x 0).isSome))
 | _, _ => .bad
theorem dNotIn_tw : dNotIn = dNotInT := by
 funext x y
 unfold dNotIn dNotInT
 split
 ·exact g_b _ _
 ·rw [g_tw, inT_eq]
 ·rw [g_tw, inT_eq]
 ·rfl
 ·first | rfl | (split <;> simp_all)
def dIxT : Op2
 | .dct t ks vs, k => gB (keyOk t k) (ofO (getK ks vs k))
 | .lst x, .int i => ofO (atI x i)
 | .tup x, .int i => ofO (atI x i)
 | .str x, .int i => gB (okN x.length) (ofO ((atI x i).map fun c => .str [c]))
 | _, _ => .bad
theorem dIx_tw : dIx = dIxT := by
 funext x y
 unfold dIx dIxT
 split
 ·exact g_b _ _
 ·rfl
 ·rfl
 ·exact g_n _ _
 ·first | rfl | (split <;> simp_all)
def eLstT (r : Exs) : Ex := fun st => (r st).bind fun xs => gB (okN xs.length) (.ok (.lst xs))
theorem eLst_tw : eLst = eLstT := by
 funext r st
 show (r st).bind _ = (r st).bind _
 congr 1
 funext xs
 exact g_n _ _
def eTupT (r : Exs) : Ex := fun st => (r st).bind fun xs => gB (okN xs.length) (.ok (.tup xs))
theorem eTup_tw : eTup = eTupT := by
 funext r st
 show (r st).bind _ = (r st).bind _
 congr 1
 funext xs
 exact g_n _ _
def eCompT (is : List Nat) (tg : Tg) (it : ItE) (c f : Ex) : Ex := fun st => (it st).bind fun xs => gB (okN xs.length) ((compR tg c f (clr is st) xs).bind fun ys => .ok (.lst ys))
theorem eComp_tw : eComp = eCompT := by
 funext is tg it c f st
 show (it st).bind _ = (it st).bind _
 congr 1
 funext xs
 exact g_n _ _
def itR1T (f : Ex) : ItE := fun st => (f st).bind fun x => inI x fun j => gB (decide (-10000000 <= j /\ j <= 10000000)) (.ok (rangeD 0 j.toNat))
theorem itR1_tw : itR1 = itR1T := by
 funext f st
 show (f st).bind _ = (f st).bind _
 congr 1
 funext x
 unfold inI
 split
 ·rw [big_eq]; exact g_tw _ _
 ·rfl
def sAppT (i : Nat) (f : Ex) : Bd := fun st => (f st).bind fun d => match st[i]? with
 | some (some (.o .l xs)) => gB (okN (xs.length + 1)) (.ok (.nx (st.set i (some (.o .l (xs ++ [d]))))))
 | _ => .bad
theorem sApp_tw : sApp = sAppT := by
 funext i f st
 show (f st).bind _ = (f st).bind _
 congr 1
 funext d
 generalize st[i]? = o
 split
 ·exact g_lt _ _
 ·first | rfl | (split <;> simp_all)
def sDPutT (i : Nat) (g f : Ex) : Bd := fun st => (f st).bind fun d => (g st).bind fun k => match st[i]? with
 | some (some (.o (.d t ks) vs)) => gB (andB (keyOk t k) (okN (vs.length + 1))) (.ok (.nx (st.set i (some (.o (.d t (putKs ks k)) (putVs ks vs k d))))))
 | _ => .bad
theorem sDPut_tw : sDPut = sDPutT := by
 funext i g f st
 show (f st).bind _ = (f st).bind _
 congr 1
 funext d
 congr 1
 funext k
 generalize st[i]? = o
 split
 ·rename_i t ks vs
  rw [g_tw]
  show gB _ _ = gB _ _
  congr 1
  unfold andB
  rw [<- okN_eq]
  cases keyOk t k <;> simp [Nat.succ_le_iff]
 ·first | rfl | (split <;> simp_all)
def runDT (np n : Nat) (b : Bd) (ds : List D) : R D :=
 gB (Nat.beq ds.length np) ((b (ds.map (fun d => some (.v d)) ++ List.replicate (n - np) none)).bind fun x => match x with
  | .nx _ => .ok .non
  | .rt d => .ok d
  | _ => .bad)
theorem runD_tw : runD = runDT := by
 funext np n b ds
 unfold runD runDT
 rw [g_tw]
 congr 1
 cases h : Nat.beq ds.length np with
 | true => exact decide_eq_true (Nat.eq_of_beq_eq_true h)
 | false => exact decide_eq_false (Nat.ne_of_beq_eq_false h)
def sRaiseT (c : String) (r : Exs) : Bd := fun st => (r st).nox.bind fun xs => gB (Nat.ble xs.length 100) (.exc (.exn c [] []))
theorem sRaise_tw : sRaise = sRaiseT := by
 funext c r st
 show (r st).nox.bind _ = (r st).nox.bind _
 congr 1
 funext xs
 rw [g_tw]
 congr 1
 cases h : Nat.ble xs.length 100 with
 | true => exact decide_eq_true (Nat.le_of_ble_eq_true h)
 | false => exact decide_eq_false fun z => by rw [Nat.ble_eq_true_of_le z] at h; cases h
end Pu
namespace Pu
theorem e1_ok {op : D -> R D} {f : Ex} {st : PSt} {x : D} {z : R D} (h : f st = .ok x) (ho : op x = z) : e1 op f st = z := by
 show (f st).bind op = _
 rw [h]
 exact ho
theorem atI_nsF {ns : List Int} {k : Nat} (h : k < ns.length) : atI (ns.map D.int) (k : Int) = some (.int (ns.getD k 0)) := by
 rw [atI_nat (by simpa using h)]
 simp [List.getD_eq_getElem?_getD, List.getElem?_eq_getElem h]
theorem mulF {i j : Int} (h : (-18446744073709551616 < i /\ i < 18446744073709551616) \/ (-18446744073709551616 < j /\ j < 18446744073709551616)) : dMulI (.int i) (.int j) = .ok (.int (i * j)) := guardR_pos h
theorem cellF (ns : List Int) (k : Nat) (hk : k <= 100000) : ∃ c : Int, p__law_cell [.lst (ns.map D.int), .int k] = .ok (.int c) := by
 have ln : ∀ x, e1 dLen (eVar 0) [some (.v (.lst (ns.map D.int))), some (.v (.int k)), x] = .ok (.int (ns.length : Nat)) := fun x => by
  show R.ok (D.int (((ns.map D.int).length : Nat) : Int)) = _
  rw [List.length_map]
 have fin : ∀ r : Int, ∃ c : Int, sRet (e2 dMod (e2 dMulI (e2 dAdd (e2 dAdd (e2 dMulI (eVar 2) (eC (.int 48271))) (e2 dMulI (eC (.int 7919)) (eVar 1))) (eC (.int 11))) (e2 dAdd (eVar 1) (eC (.int 2)))) (eC (.int 2147483647))) [some (.v (.lst (ns.map D.int))), some (.v (.int k)), some (.v (.int r))] = .ok (.rt (.int c)) := fun r =>
  ⟨_, ret_ok (op_ok (op_ok (op_ok (op_ok (op_ok rfl rfl (mulF (.inr (by decide)))) (op_ok rfl rfl (mulF (.inl (by decide)))) rfl) rfl rfl) (op_ok rfl rfl rfl) (mulF (.inr (by omega)))) rfl (mod_ok (by decide)))⟩
 by_cases h : k < ns.length
 ·have hp : dPow (.int 10) (.int 30) = .ok (.int ((10 : Int) ^ (30 : Int).toNat)) := guardR_pos ⟨by decide, by decide, by decide⟩
  exact ⟨_, run_rt rfl (seq_rt (if_t (op_ok rfl (ln _) (by show R.ok (D.bl (decide ((k : Int) < (ns.length : Nat)))) = _; rw [lt_t h])) (ret_ok (op_ok (op_ok rfl rfl (ix_ok (atI_nsF h))) (op_ok rfl rfl hp) (mod_ok (by decide))))))⟩
 ·have h1 : e2 dLtI (eVar 1) (e1 dLen (eVar 0)) [some (.v (.lst (ns.map D.int))), some (.v (.int k)), none] = .ok (.bl false) := op_ok rfl (ln _) (by
   show R.ok (D.bl (decide ((k : Int) < (ns.length : Nat)))) = _
   rw [lt_f h])
  have h2 : ∀ b, decide (0 < ns.length) = b -> e2 dGt (e1 dLen (eVar 0)) (eC (.int 0)) [some (.v (.lst (ns.map D.int))), some (.v (.int k)), some (.v (.int 0))] = .ok (.bl b) := fun b e => op_ok (ln _) rfl (by
   show R.ok (D.bl (decide ((0 : Int) < (ns.length : Nat)))) = _
   rw [<- e]
   congr 2
   by_cases z : 0 < ns.length
   ·rw [decide_eq_true z, decide_eq_true (by omega)]
   ·rw [decide_eq_false z, decide_eq_false (by omega)])
  by_cases h0 : 0 < ns.length
  ·have hm : k % ns.length < ns.length := Nat.mod_lt _ h0
   have ec : ((k % ns.length : Nat) : Int) = (k : Int) % (ns.length : Nat) := by push_cast; rfl
   have e := atI_nsF hm
   rw [ec] at e
   obtain ⟨c, hc⟩ := fin (ns.getD (k % ns.length) 0 % 999983)
   exact ⟨c, run_rt rfl (seq_nx (if_f h1 rfl) (seq_nx (set_ok rfl) (seq_nx (if_t (h2 _ (decide_eq_true h0)) (set_ok (op_ok (op_ok rfl (op_ok rfl (ln _) (mod_ok (by omega))) (ix_ok e)) rfl (mod_ok (by decide))))) hc)))⟩
  ·obtain ⟨c, hc⟩ := fin 0
   exact ⟨c, run_rt rfl (seq_nx (if_f h1 rfl) (seq_nx (set_ok rfl) (seq_nx (if_f (h2 _ (decide_eq_false h0)) rfl) hc)))⟩
theorem pickF (c k m : Int) (h : 0 < m) : ∃ i : Int, p__law_pick [.int c, .int k, .int m] = .ok (.int i) /\ 0 <= i /\ i < m := by
 have a0 : ∀ x : Int, 0 <= x % 2147483629 := fun x => Int.emod_nonneg _ (by decide)
 have a1 : ∀ x : Int, x % 2147483629 < 2147483629 := fun x => Int.emod_lt_of_pos _ (by decide)
 have sq : ∀ x : Int, 0 <= x -> x < 2147483629 -> dMulI (.int x) (.int x) = .ok (.int (x * x)) := fun x h1 h2 => mulF (.inl ⟨by omega, by omega⟩)
 refine ⟨_, run_rt rfl (seq_nx (set_ok (op_ok (op_ok rfl (op_ok rfl rfl (mulF (.inl (by decide)))) rfl) rfl (mod_ok (by decide)))) (seq_nx (set_ok (op_ok (op_ok (op_ok (op_ok rfl rfl (sq _ (a0 _) (a1 _))) rfl (mod_ok (by decide))) rfl (mulF (.inr (by decide)))) rfl (mod_ok (by decide)))) (ret_ok (op_ok (op_ok (op_ok (op_ok rfl rfl (sq _ (a0 _) (a1 _))) rfl (mod_ok (by decide))) rfl (fdiv_ok (by decide))) rfl (mod_ok h))))), Int.emod_nonneg _ (by omega), Int.emod_lt_of_pos _ h⟩
theorem app2 {c s : Int} {l : D} {xs : List D} {x : Option Sl} (hs : 0 < s) (hb : s < 1073741824) (hl : xs.length < 1000) : L__law_digits_0 [some (.v (.int c)), some (.v l), some (.o .l xs), some (.v (.int s))] = .ok (.nx [some (.v (.int (c / s))), some (.v l), some (.o .l (xs ++ [.int (c % s)])), some (.v (.int s))]) :=
 seq_nx (app_ok (op_ok rfl rfl (mod_ok hs)) rfl (by omega)) (set_ok (op_ok rfl rfl (fdiv_ok ⟨hs, hb⟩)))
theorem digitsF (c : Int) : ∃ x y z : Int, p__law_digits [.int c, .lst [.int 6, .int 420, .int 2]] = .ok (.lst [.int x, .int y, .int z]) /\ (0 <= x /\ x < 6) /\ (0 <= y /\ y < 420) /\ (0 <= z /\ z < 2) := by
 refine ⟨c % 6, c / 6 % 420, c / 6 / 420 % 2, run_rt rfl (seq_nx (setO_ok (lst_ok rfl)) (seq_nx (for_ok (it_ok rfl) (for_go rfl (app2 (x := none) (by decide) (by decide) (of_decide_eq_true rfl)) (for_go rfl (app2 (x := none) (by decide) (by decide) (of_decide_eq_true rfl)) (for_go rfl (app2 (x := none) (by decide) (by decide) (of_decide_eq_true rfl)) rfl)))) rfl)), ?_, ?_, ?_⟩
 ·exact ⟨Int.emod_nonneg _ (by decide), Int.emod_lt_of_pos _ (by decide)⟩
 ·exact ⟨Int.emod_nonneg _ (by decide), Int.emod_lt_of_pos _ (by decide)⟩
 ·exact ⟨Int.emod_nonneg _ (by decide), Int.emod_lt_of_pos _ (by decide)⟩
end Pu
namespace Pu
def hugeL : Nat := 2 ^ 9000
theorem huge_L : huge = hugeL := by unfold hugeL; exact huge_eq
def okH (n : Nat) : Bool := Nat.ble (n + 1) hugeL
theorem ble_lt (n m : Nat) : decide (n < m) = Nat.ble (n + 1) m := by
 cases h : Nat.ble (n + 1) m with
 | true => exact decide_eq_true (Nat.le_of_ble_eq_true h)
 | false => exact decide_eq_false fun z => by rw [Nat.ble_eq_true_of_le z] at h; cases h
theorem okH_eq (n : Nat) : decide (n < huge) = okH n := by rw [ble_lt, huge_L]; unfold okH; rfl
def dMulBT : Op2
 | .int i, .int j => gB (andB (okH i.natAbs) (okH j.natAbs)) (.ok (.int (i * j)))
 | .str x, .int j => gB (andB (okN (x.length * j.toNat)) (decide (-4611686018427387904 <= j /\ j < 4611686018427387904))) (.ok (.str (rep j.toNat x)))
 | _, _ => .bad
theorem dMulB_tw : dMulB = dMulBT := by
 funext x y
 unfold dMulB dMulBT
 split
 ·rename_i i j
  rw [g_tw]
  show gB _ _ = gB _ _
  congr 1
  unfold andB
  rw [<- okH_eq, <- okH_eq]
  by_cases h1 : i.natAbs < huge <;> by_cases h2 : j.natAbs < huge <;> simp [h1, h2]
 ·rename_i x j
  rw [g_tw]
  show gB _ _ = gB _ _
  congr 1
  unfold andB
  rw [<- okN_eq]
  by_cases h1 : x.length * j.toNat <= big <;> simp [h1]
 ·first | rfl | (split <;> simp_all)
def dFdivBT : Op2
 | .int i, .int j => gB (andB (decide (0 < j)) (okH j.natAbs)) (.ok (.int (i / j)))
 | _, _ => .bad
theorem dFdivB_tw : dFdivB = dFdivBT := by
 funext x y
 unfold dFdivB dFdivBT
 split
 ·rename_i i j
  rw [g_tw]
  show gB _ _ = gB _ _
  congr 1
  unfold andB
  rw [<- okH_eq]
  by_cases h1 : 0 < j <;> by_cases h2 : j.natAbs < huge <;> simp [h1, h2]
 ·first | rfl | (split <;> simp_all)
def dModT : Op2
 | .int i, .int j => gB (decide (0 < j)) (.ok (.int (i % j)))
 | _, _ => .bad
theorem dMod_tw : dMod = dModT := by
 funext x y
 unfold dMod dModT
 split
 ·exact g_tw _ _
 ·first | rfl | (split <;> simp_all)
def dLenT : D -> R D
 | .dct false ks _ => .ok (.int ks.length)
 | .lst x => .ok (.int x.length)
 | .tup x => .ok (.int x.length)
 | .str x => gB (okN x.length) (.ok (.int x.length))
 | _ => .bad
theorem dLen_tw : dLen = dLenT := by
 funext x
 unfold dLen dLenT
 split
 ·rfl
 ·rfl
 ·rfl
 ·exact g_n _ _
 ·first | rfl | (split <;> simp_all)
def dSlT (x : D) (lo hi : Option Int) : R D := match x with
 | .lst xs => .ok (.lst (cut xs lo hi))
 | .str xs => gB (okN xs.length) (.ok (.str (cut xs lo hi)))
 | _ => .bad
theorem dSl_tw : dSl = dSlT := by
 funext x lo hi
 unfold dSl dSlT
 split
 ·rfl
 ·exact g_n _ _
 ·first | rfl | (split <;> simp_all)
def eSlW (f : Ex) (lo hi : ExO) : Ex := fun st => (f st).bind fun x => (lo st).bind fun l => (hi st).bind fun h => dSlT x l h
theorem eSl_tw : eSl = eSlW := by
 funext f lo hi st
 unfold eSl eSlW
 rw [dSl_tw]
def itET (f : Ex) : ItE := fun st => (f st).bind fun x => match x with
 | .lst xs => .ok xs
 | .tup xs => .ok xs
 | .str xs => gB (okN xs.length) (.ok (xs.map fun c => .str [c]))
 | _ => .bad
theorem itE_tw : itE = itET := by
 funext f st
 show (f st).bind _ = (f st).bind _
 congr 1
 funext x
 split
 ·rfl
 ·rfl
 ·exact g_n _ _
 ·first | rfl | (split <;> simp_all)
def itR2T (f g : Ex) : ItE := fun st => (f st).bind fun x => (g st).bind fun y => inI x fun i => inI y fun j => gB (decide (-10000000 <= i /\ i <= 10000000 /\ -10000000 <= j /\ j <= 10000000)) (.ok (rangeD i (j - i).toNat))
theorem itR2_tw : itR2 = itR2T := by
 funext f g st
 show (f st).bind _ = (f st).bind _
 congr 1
 funext x
 congr 1
 funext y
 unfold inI
 split
 ·split
  ·rw [big_eq]; exact g_tw _ _
  ·rfl
 ·rfl
def vSetAT (i j : Nat) (f : Ex) : VB := fun xs st => (f (lookV i xs st)).bind fun d => gB (atom d) (.ok (.nx (st.set j (some (.v d)))))
theorem vSetA_tw : vSetA = vSetAT := by
 funext i j f xs st
 show (f _).bind _ = (f _).bind _
 congr 1
 funext d
 exact g_b _ _
def vTwoAT (i j k : Nat) (f : Ex) : VB := fun xs st => (f (lookV i xs st)).bind fun d => match d with
 | .tup [a, b] => gB (andB (atom a) (atom b)) (.ok (.nx ((st.set j (some (.v a))).set k (some (.v b)))))
 | _ => .bad
theorem vTwoA_tw : vTwoA = vTwoAT := by
 funext i j k f xs st
 show (f _).bind _ = (f _).bind _
 congr 1
 funext d
 split
 ·rename_i a b
  rw [g_tw]
  show gB _ _ = gB _ _
  congr 1
  unfold andB
  cases atom a <;> cases atom b <;> rfl
 ·first | rfl | (split <;> simp_all)
def vRetAT (i : Nat) (f : Ex) : VB := fun xs st => (f (lookV i xs st)).bind fun d => gB (atom d) (.ok (.rt d))
theorem vRetA_tw : vRetA = vRetAT := by
 funext i f xs st
 show (f _).bind _ = (f _).bind _
 congr 1
 funext d
 exact g_b _ _
def isT : R D -> Bool
 | .ok (.bl true) => true
 | _ => false
theorem isT_of {r : R D} (h : isT r = true) : r = .ok (.bl true) := by
 unfold isT at h
 split at h
 ·rfl
 ·cases h
def casesF : List (Nat × Nat × Nat) := [1, 2, 3, 4, 5, 6].flatMap fun b => (List.range (b + 1)).flatMap fun t => [(t, b, 2), (t, b, 3)]
theorem mem_casesF {t b k : Nat} (h1 : 1 <= b) (h6 : b <= 6) (ht : t <= b) (hk : k = 2 \/ k = 3) : (t, b, k) ∈ casesF := by
 unfold casesF
 refine List.mem_flatMap.mpr ⟨b, ?_, List.mem_flatMap.mpr ⟨t, List.mem_range.mpr (by omega), ?_⟩⟩
 ·have : b = 1 \/ b = 2 \/ b = 3 \/ b = 4 \/ b = 5 \/ b = 6 := by omega
  rcases this with h | h | h | h | h | h <;> simp [h]
 ·rcases hk with h | h <;> simp [h]
theorem rightT : casesF.all (fun x => isT (p__law_right [.int x.1, .int x.2.1, .int x.2.2])) = true := by
 delta p__law_right b__law_right V__law_right_0 p__law_first_unlike b__law_first_unlike L__law_first_unlike_0 p__law_worth b__law_worth p__law_number b__law_number L__law_number_0 p__law_power b__law_power L__law_power_0 p__law_is_short b__law_is_short L__law_is_short_0 p__law_is_word b__law_is_word L__law_is_word_2 C__law_is_word_1 E__law_is_word_0 p__law_ends b__law_ends L__law_ends_0 p_writings_of b_writings_of bi_writings_of p_writing_of b_writing_of C_writing_of_1 L_writing_of_0 p_check_fraction b_check_fraction p_check_base b_check_base p_is_below b_is_below p_is_whole b_is_whole
 simp only [eB_tw, dNotInC_tw, dAdd_tw, dEq_tw, dNe_tw, dIn_tw, dNotIn_tw, dIx_tw, eLst_tw, eTup_tw, eComp_tw, itR1_tw, sApp_tw, sDPut_tw, runD_tw, sRaise_tw, dMulB_tw, dFdivB_tw, dMod_tw, dLen_tw, eSl_tw, itE_tw, itR2_tw, vSetA_tw, vTwoA_tw, vRetA_tw]
 decide +kernel
theorem enx_ok {f : Ex} {st : PSt} {x : D} (h : f st = .ok x) : eNX f st = .ok x := by
 show (f st).nox = _
 rw [h]; rfl
theorem callX_ok {p : List D -> R D} {r : Exs} {st : PSt} {ds : List D} {x : R D} (h : r st = .ok ds) (hp : p ds = x) : eCallX p r st = x := by
 show (r st).nox.bind p = _
 rw [h]
 exact hp
theorem exp_ok {f : Ex} {st : PSt} {d : D} (h : f st = .ok d) : sExp f st = .ok (.nx st) := by
 show (f st).bind _ = _
 rw [h]; rfl
theorem exp_exc {f : Ex} {st : PSt} {d : D} (h : f st = .exc d) : sExp f st = .exc d := by
 show (f st).bind _ = _
 rw [h]; rfl
theorem ret_exc {f : Ex} {st : PSt} {d : D} (h : f st = .exc d) : sRet f st = .exc d := by
 show (f st).bind _ = _
 rw [h]; rfl
theorem seq_exc {a b : Bd} {st : PSt} {d : D} (h : a st = .exc d) : sSeq a b st = .exc d := by
 rw [sSeq_ap, h]
 rfl
theorem run_exc {np n : Nat} {b : Bd} {ds : List D} {d : D} (h : ds.length = np) (hb : b (ds.map (fun d => some (.v d)) ++ List.replicate (n - np) none) = .exc d) : runD np n b ds = .exc d := by
 rw [runD_ap h, hb]
 rfl
theorem then_exc {b : Bd} {i : Nat} {st : PSt} {d : D} (h : b st = .exc d) : thenOX b i st = .exc d := by
 show (match b st with | .ok (.nx s) => sRetO i s | .exc x => .exc x | _ => .bad) = _
 rw [h]
theorem wholeF (d : D) (hb : bltD d = true) : p_is_whole [d] = .ok (.bl (isIn d && !isBl d)) := by
 unfold p_is_whole b_is_whole
 cases hi : isIn d <;> simp [hb, hi]
theorem raise_exc {c : String} {r : Exs} {st : PSt} {d : D} (h : r st = .ok [d]) : sRaise c r st = .exc (.exn c [] []) := by
 show (r st).nox.bind _ = _
 rw [h]
 exact guardR_pos (show 1 <= 100 by decide)
theorem base_ok {k : Nat} (hk : k = 2 \/ k = 3) : p_check_base [.int k] = .ok .non := by
 have hw := wholeF (.int k) rfl
 refine run_nx rfl (if_f (enx_ok (or_ok (p := false) (q := false) (not_ok (p := true) (call_ok rfl hw)) fun _ => e1_ok rfl ?_)) rfl)
 rcases hk with rfl | rfl <;> exact guardR_pos rfl
theorem base_int {i : Int} (h2 : i ≠ 2) (h3 : i ≠ 3) : p_check_base [.int i] = .exc (.exn "NoFraction" [] []) := by
 have hw := wholeF (.int i) rfl
 have z2 : ((2 : Int) == i) = false := beq_eq_false_iff_ne.mpr (fun e => h2 e.symm)
 have z3 : ((3 : Int) == i) = false := beq_eq_false_iff_ne.mpr (fun e => h3 e.symm)
 refine run_exc rfl (if_t (enx_ok (or_ok (p := false) (q := true) (not_ok (p := true) (call_ok rfl hw)) fun _ => e1_ok rfl ?_)) (raise_exc rfl))
 show guardR (plain (.int i) = true) (R.ok (D.bl (!inD (.int i) [.int 2, .int 3]))) = _
 rw [guardR_pos (by simp)]
 have : inD (.int i) [.int 2, .int 3] = false := by
  simp [inD, eqD, z2, z3]
 rw [this]; rfl
theorem base_other {d : D} (hb : bltD d = true) (h : (isIn d && !isBl d) = false) : p_check_base [d] = .exc (.exn "NoFraction" [] []) := by
 have hw := wholeF d hb
 rw [h] at hw
 refine run_exc rfl (if_t ?_ (raise_exc rfl))
 refine enx_ok ?_
 show (eNot (eCall p_is_whole (aCons (eVar 0) (aNil))) _).bind _ = _
 rw [not_ok (p := false) (call_ok rfl hw)]
 rfl
theorem and_no {f g : Ex} {st : PSt} (hf : f st = .ok (.bl false)) : eAnd f g st = .ok (.bl false) := and_ok (p := false) (q := false) hf fun h => nomatch h
theorem or_yes {f g : Ex} {st : PSt} (hf : f st = .ok (.bl true)) : eOr f g st = .ok (.bl true) := or_ok (p := true) (q := true) hf fun h => nomatch h
theorem below_other {d m : D} (hb : bltD d = true) (h : (isIn d && !isBl d) = false) : p_is_below [d, m] = .ok (.bl false) := by
 have hw := wholeF d hb
 rw [h] at hw
 exact run_rt rfl (ret_ok (and_no (call_ok rfl hw)))
theorem below_int (i m : Int) : p_is_below [.int i, .int m] = .ok (.bl (decide (0 <= i) && decide (i < m))) := by
 have hw := wholeF (.int i) rfl
 refine run_rt rfl (ret_ok ?_)
 have := and_ok (f := eCall p_is_whole (aCons (eVar 0) aNil)) (g := eAnd (e2 dGe (eVar 0) (eC (.int 0))) (e2 dLtI (eVar 0) (eVar 1))) (st := [some (.v (.int i)), some (.v (.int m))]) (p := true) (call_ok rfl hw) (fun _ => and_ok (p := decide (0 <= i)) (q := decide (i < m)) rfl fun _ => rfl)
 exact this
theorem below_no {i m : Int} (h : ¬ (0 <= i /\ i < m)) : p_is_below [.int i, .int m] = .ok (.bl false) := by
 rw [below_int]
 by_cases h1 : 0 <= i
 ·rw [decide_eq_true h1, decide_eq_false (fun z => h ⟨h1, z⟩)]; rfl
 ·rw [decide_eq_false h1]; rfl
theorem below_yes {i m : Int} (h : 0 <= i /\ i < m) : p_is_below [.int i, .int m] = .ok (.bl true) := by
 rw [below_int, decide_eq_true h.1, decide_eq_true h.2]; rfl
abbrev noF : D := .exn "NoFraction" [] []
theorem frac_base {t b k : D} (h : p_check_base [k] = .exc noF) : p_check_fraction [t, b, k] = .exc noF := run_exc rfl (seq_exc (exp_exc (callX_ok rfl h)))
section
variable {k : Nat} (hk : k = 2 \/ k = 3)
include hk
theorem frac_bot {t b : D} (h : p_is_below [b, .int 7] = .ok (.bl false)) : p_check_fraction [t, b, .int k] = .exc noF :=
 run_exc rfl (seq_nx (exp_ok (callX_ok rfl (base_ok hk))) (seq_exc (if_t (enx_ok (or_yes (not_ok (p := false) (call_ok (arg_ok rfl (arg_ok (op_ok rfl rfl rfl) rfl)) h)))) (raise_exc rfl))))
theorem frac_zero {t : D} : p_check_fraction [t, .int 0, .int k] = .exc noF :=
 run_exc rfl (seq_nx (exp_ok (callX_ok rfl (base_ok hk))) (seq_exc (if_t (enx_ok (or_ok (p := false) (q := true) (not_ok (p := true) (call_ok (arg_ok rfl (arg_ok (op_ok rfl rfl rfl) rfl)) (below_yes (by decide)))) fun _ => op_ok rfl rfl (eqi_ok 0 0))) (raise_exc rfl))))
theorem frac_top {t : D} {b : Nat} (h1 : 1 <= b) (h6 : b <= 6) (h : p_is_below [t, .int ((b : Int) + 1)] = .ok (.bl false)) : p_check_fraction [t, .int b, .int k] = .exc noF := by
 have e0 : decide ((b : Int) = 0) = false := decide_eq_false (by omega)
 exact run_exc rfl (seq_nx (exp_ok (callX_ok rfl (base_ok hk))) (seq_nx (if_f (enx_ok (or_ok (p := false) (q := false) (not_ok (p := true) (call_ok (arg_ok rfl (arg_ok (op_ok rfl rfl rfl) rfl)) (below_yes (by omega)))) fun _ => op_ok rfl rfl (by rw [eqi_ok, e0]))) rfl) (if_t (enx_ok (not_ok (p := false) (call_ok (arg_ok rfl (arg_ok (op_ok rfl rfl rfl) rfl)) h))) (raise_exc rfl))))
end
theorem writ_exc {t b k : D} (h : p_check_fraction [t, b, k] = .exc noF) : p_writings_of [t, b, k] = .exc noF := run_exc rfl (then_exc (seq_exc (exp_exc (callX_ok rfl h))))
theorem mach_exc {t b k f : D} (h : p_check_fraction [t, b, k] = .exc noF) : p_machine_of [t, b, k, f] = .exc noF := run_exc rfl (seq_exc (exp_exc (callX_ok rfl h)))
theorem up_exc {t b k : D} (h : p_check_fraction [t, b, k] = .exc noF) : p_up_to [t, b, k] = .exc noF := run_exc rfl (ret_exc (callX_ok rfl (mach_exc h)))
theorem from_exc {t b k : D} (h : p_check_fraction [t, b, k] = .exc noF) : p_from_on [t, b, k] = .exc noF := run_exc rfl (ret_exc (callX_ok rfl (mach_exc h)))
theorem none_ok {w : Nat} (hw : w < 3) {t b k : D} (h : p_check_fraction [t, b, k] = .exc noF) : p__law_no_fraction [.int w, t, b, k] = .ok (.bl true) := by
 refine run_rt rfl (seq_nx (set_ok rfl) (seq_nx (st' := [some (.v (.int w)), some (.v t), some (.v b), some (.v k), some (.v (.bl true))]) ?_ rfl))
 have key : ∀ s, (sIf (eNX (e2 dEq (eVar 0) (eC (.int 0)))) (sExp (eCallX p_writings_of (aCons (eVar 1) (aCons (eVar 2) (aCons (eVar 3) (aNil)))))) (sIf (eNX (e2 dEq (eVar 0) (eC (.int 1)))) (sExp (eCallX p_up_to (aCons (eVar 1) (aCons (eVar 2) (aCons (eVar 3) (aNil)))))) (sExp (eCallX p_from_on (aCons (eVar 1) (aCons (eVar 2) (aCons (eVar 3) (aNil)))))))) [some (.v (.int w)), some (.v t), some (.v b), some (.v k), s] = .exc noF := fun s => by
  have : w = 0 \/ w = 1 \/ w = 2 := by omega
  rcases this with rfl | rfl | rfl
  ·exact if_t (enx_ok (op_ok rfl rfl (eqi_ok _ _))) (exp_exc (callX_ok rfl (writ_exc h)))
  ·exact if_f (enx_ok (op_ok rfl rfl (eqi_ok _ _))) (if_t (enx_ok (op_ok rfl rfl (eqi_ok _ _))) (exp_exc (callX_ok rfl (up_exc h))))
  ·exact if_f (enx_ok (op_ok rfl rfl (eqi_ok _ _))) (if_f (enx_ok (op_ok rfl rfl (eqi_ok _ _))) (exp_exc (callX_ok rfl (from_exc h))))
 rw [sTry_ap]
 show (match (sIf _ _ _ [some (.v (.int w)), some (.v t), some (.v b), some (.v k), some (.v (.bl false))]) with | .exc (.exn c [] []) => _ | .exc _ => _ | r => _) = _
 rw [key]
 simp [hRun, hNo]
theorem le_huge {n : Nat} (h : n < 2 ^ 64) : n < huge := by
 rw [huge_eq]
 exact Nat.lt_trans h (by decide +kernel)
theorem mul_hB {i j : Int} (hi : i.natAbs < 2 ^ 64) (hj : j.natAbs < 2 ^ 64) : dMulB (.int i) (.int j) = .ok (.int (i * j)) := guardR_pos ⟨le_huge hi, le_huge hj⟩
theorem fdiv_hB {i j : Int} (h : 0 < j) (hj : j.natAbs < 2 ^ 64) : dFdivB (.int i) (.int j) = .ok (.int (i / j)) := guardR_pos ⟨h, le_huge hj⟩
theorem tup1_ok {r : Exs} {st : PSt} {a : D} (h : r st = .ok [a]) : eTup r st = .ok (.tup [a]) := by
 show (r st).bind _ = _
 rw [h]
 exact guardR_pos (le_big (show 1 <= 10000000 by decide))
section
variable {k b : Nat} (hk : k = 2 \/ k = 3) (h1 : 1 <= b) (h6 : b <= 6) {far : Int} (hf : 7 <= far) {t : Nat}
include hf
theorem bad_base : ∀ d ∈ ([.int 1, .int 4, .int 0, .int (-3), .int far, .bl true, .non, .str [50]] : List D), p_check_base [d] = .exc noF := by
 intro d hd
 simp only [List.mem_cons, List.not_mem_nil, or_false] at hd
 rcases hd with rfl | rfl | rfl | rfl | rfl | rfl | rfl | rfl
 ·exact base_int (by decide) (by decide)
 ·exact base_int (by decide) (by decide)
 ·exact base_int (by decide) (by decide)
 ·exact base_int (by decide) (by decide)
 ·exact base_int (by omega) (by omega)
 ·exact base_other rfl rfl
 ·exact base_other rfl rfl
 ·exact base_other rfl rfl
include hk
theorem bad_bot : ∀ d ∈ ([.int 0, .int (-1), .int 7, .int far, .bl true, .non, .str [51], .lst [.int 2]] : List D), p_check_fraction [.int 0, d, .int k] = .exc noF := by
 intro d hd
 simp only [List.mem_cons, List.not_mem_nil, or_false] at hd
 rcases hd with rfl | rfl | rfl | rfl | rfl | rfl | rfl | rfl
 ·exact frac_zero hk
 ·exact frac_bot hk (below_no (by decide))
 ·exact frac_bot hk (below_no (by decide))
 ·exact frac_bot hk (below_no (by omega))
 ·exact frac_bot hk (below_other rfl rfl)
 ·exact frac_bot hk (below_other rfl rfl)
 ·exact frac_bot hk (below_other rfl rfl)
 ·exact frac_bot hk (below_other rfl rfl)
include h1 h6
theorem bad_top : ∀ d ∈ ([.int (-1), .int ((b : Int) + 1), .int far, .bl true, .non, .str [49], .tup [.int 1]] : List D), p_check_fraction [d, .int b, .int k] = .exc noF := by
 intro d hd
 simp only [List.mem_cons, List.not_mem_nil, or_false] at hd
 rcases hd with rfl | rfl | rfl | rfl | rfl | rfl | rfl
 ·exact frac_top hk h1 h6 (below_no (by omega))
 ·exact frac_top hk h1 h6 (below_no (by omega))
 ·exact frac_top hk h1 h6 (below_no (by omega))
 ·exact frac_top hk h1 h6 (below_other rfl rfl)
 ·exact frac_top hk h1 h6 (below_other rfl rfl)
 ·exact frac_top hk h1 h6 (below_other rfl rfl)
 ·exact frac_top hk h1 h6 (below_other rfl rfl)
theorem ref_body {c : D} {w : Nat} (hw : w < 3) (x : Option Sl) : ∃ x', L__law_refused_3 [some (.v c), some (.v (.int t)), some (.v (.int b)), some (.v (.int k)), some (.v (.int far)), some (.v (.int w)), x] = .ok (.nx [some (.v c), some (.v (.int t)), some (.v (.int b)), some (.v (.int k)), some (.v (.int far)), some (.v (.int w)), x']) := by
 obtain ⟨x1, e1'⟩ := for_look (L := L__law_refused_0) (j := 6) (fun z => [some (.v c), some (.v (.int t)), some (.v (.int b)), some (.v (.int k)), some (.v (.int far)), some (.v (.int w)), z]) (fun _ _ => rfl) _ (fun d hd => if_f (not_ok (p := true) (call_ok rfl (none_ok hw (frac_base (bad_base hf d hd))))) rfl) x
 obtain ⟨x2, e2'⟩ := for_look (L := L__law_refused_1) (j := 6) (fun z => [some (.v c), some (.v (.int t)), some (.v (.int b)), some (.v (.int k)), some (.v (.int far)), some (.v (.int w)), z]) (fun _ _ => rfl) _ (fun d hd => if_f (not_ok (p := true) (call_ok rfl (none_ok hw (bad_bot hk hf d hd)))) rfl) x1
 obtain ⟨x3, e3'⟩ := for_look (L := L__law_refused_2) (j := 6) (fun z => [some (.v c), some (.v (.int t)), some (.v (.int b)), some (.v (.int k)), some (.v (.int far)), some (.v (.int w)), z]) (fun _ _ => rfl) _ (fun d hd => if_f (not_ok (p := true) (call_ok rfl (none_ok hw (bad_top hk h1 h6 hf d hd)))) rfl) x2
 refine ⟨x3, seq_nx (for_ok (it_ok (lst_ok (arg_ok rfl (arg_ok rfl (arg_ok rfl (arg_ok (e1_ok rfl rfl) (arg_ok rfl (arg_ok rfl (arg_ok rfl (arg_ok rfl rfl)))))))))) e1') ?_⟩
 refine seq_nx (for_ok (it_ok (lst_ok (arg_ok rfl (arg_ok (e1_ok rfl rfl) (arg_ok rfl (arg_ok rfl (arg_ok rfl (arg_ok rfl (arg_ok rfl (arg_ok (lst_ok rfl) rfl)))))))))) e2') ?_
 exact for_ok (it_ok (lst_ok (arg_ok (e1_ok rfl rfl) (arg_ok (op_ok rfl rfl rfl) (arg_ok rfl (arg_ok rfl (arg_ok rfl (arg_ok rfl (arg_ok (tup1_ok rfl) rfl))))))))) e3'
end
theorem refused_ok {k b : Nat} (hk : k = 2 \/ k = 3) (h1 : 1 <= b) (h6 : b <= 6) (c : Int) (t : Nat) : p__law_refused [.int c, .int t, .int b, .int k] = .ok (.bl true) := by
 obtain ⟨i, hi, i0, i9⟩ := pickF c 11 1000000000 (by decide)
 have pw : dPow (.int 10) (.int 9) = .ok (.int 1000000000) := guardR_pos ⟨by decide, by decide, by decide⟩
 have hm : dMulB (.int i) (.int 1000000000) = .ok (.int (i * 1000000000)) := mul_hB (by omega) (by decide)
 have hf : 7 <= 7 + i * 1000000000 := by omega
 obtain ⟨x1, e1'⟩ := ref_body (t := t) (c := .int c) hk h1 h6 hf (w := 0) (by decide) none
 obtain ⟨x2, e2'⟩ := ref_body (t := t) (c := .int c) hk h1 h6 hf (w := 1) (by decide) x1
 obtain ⟨x3, e3'⟩ := ref_body (t := t) (c := .int c) hk h1 h6 hf (w := 2) (by decide) x2
 have r3 : ∀ st : PSt, itR1 (eC (.int 3)) st = .ok [.int (0 : Nat), .int (1 : Nat), .int (2 : Nat)] := fun st => r1_ok (n := 3) rfl (by decide)
 refine run_rt rfl (seq_nx (set_ok (op_ok rfl (op_ok (call_ok (arg_ok rfl (arg_ok rfl (arg_ok (op_ok rfl rfl pw) rfl))) hi) (op_ok rfl rfl pw) hm) rfl)) (seq_nx (for_ok (r3 _) (for_go rfl e1' (for_go rfl e2' (for_go rfl e3' rfl)))) rfl))
theorem right_ok {t b k : Nat} (h1 : 1 <= b) (h6 : b <= 6) (ht : t <= b) (hk : k = 2 \/ k = 3) : p__law_right [.int t, .int b, .int k] = .ok (.bl true) := by
 have h := List.all_eq_true.mp rightT _ (mem_casesF h1 h6 ht hk)
 dsimp only at h
 exact isT_of h
theorem body82 (ns : List Int) (c0 : Int) (j : Nat) (hj : j <= 100000) (a3 a4 a5 a6 a7 : Option Sl) : ∃ b3 b4 b5 b6 b7, L_law_0 [some (.v (.lst (ns.map D.int))), some (.v (.int c0)), some (.v (.int j)), a3, a4, a5, a6, a7] = .ok (.nx [some (.v (.lst (ns.map D.int))), some (.v (.int c0)), some (.v (.int j)), b3, b4, b5, b6, b7]) := by
 obtain ⟨c, hc⟩ := cellF ns j hj
 obtain ⟨x1, e1', x1a, x1b⟩ := pickF c 1 6 (by decide)
 obtain ⟨y1, e2', y1a, y1b⟩ := pickF c 2 420 (by decide)
 obtain ⟨z1, e3', z1a, z1b⟩ := pickF c 3 2 (by decide)
 obtain ⟨x, y, z, xa, xb, ya, yb, za, zb, hn⟩ : ∃ x y z : Int, 0 <= x /\ x < 6 /\ 0 <= y /\ y < 420 /\ 0 <= z /\ z < 2 /\ sIf (e2 dEq (e2 dMod (eVar 3) (eC (.int 2))) (eC (.int 1))) (sSet 4 (eCall p__law_digits (aCons (e2 dFdivB (eVar 3) (eC (.int 2))) (aCons (eLst (aCons (eC (.int 6)) (aCons (eC (.int 420)) (aCons (eC (.int 2)) (aNil))))) (aNil))))) (sNext) [some (.v (.lst (ns.map D.int))), some (.v (.int c0)), some (.v (.int j)), some (.v (.int c)), some (.v (.lst [.int x1, .int y1, .int z1])), a5, a6, a7] = .ok (.nx [some (.v (.lst (ns.map D.int))), some (.v (.int c0)), some (.v (.int j)), some (.v (.int c)), some (.v (.lst [.int x, .int y, .int z])), a5, a6, a7]) := by
  by_cases h : c % 2 = 1
  ·obtain ⟨x, y, z, hd, ⟨xa, xb⟩, ⟨ya, yb⟩, za, zb⟩ := digitsF (c / 2)
   exact ⟨x, y, z, xa, xb, ya, yb, za, zb, if_t (op_ok (op_ok rfl rfl (mod_ok (by decide))) rfl (by rw [eqi_ok, decide_eq_true h])) (set_ok (call_ok (arg_ok (op_ok rfl rfl (fdiv_hB (by decide) (by decide))) (arg_ok (lst_ok rfl) rfl)) hd))⟩
  ·exact ⟨x1, y1, z1, x1a, x1b, y1a, y1b, z1a, z1b, if_f (op_ok (op_ok rfl rfl (mod_ok (by decide))) rfl (by rw [eqi_ok, decide_eq_false h])) rfl⟩
 obtain ⟨b, eb⟩ : ∃ b : Nat, (1 + x) = (b : Int) := ⟨(1 + x).toNat, by omega⟩
 have hm0 : 0 <= y % ((b : Int) + 1) := Int.emod_nonneg _ (by omega)
 have hm1 : y % ((b : Int) + 1) < (b : Int) + 1 := Int.emod_lt_of_pos _ (by omega)
 obtain ⟨t, et⟩ : ∃ t : Nat, y % ((b : Int) + 1) = (t : Int) := ⟨(y % ((b : Int) + 1)).toNat, by omega⟩
 obtain ⟨k, ek⟩ : ∃ k : Nat, (2 + z) = (k : Int) := ⟨(2 + z).toNat, by omega⟩
 have h1 : 1 <= b := by omega
 have h6 : b <= 6 := by omega
 have ht : t <= b := by omega
 have hk : k = 2 \/ k = 3 := by omega
 have g4 : dAdd (.int 1) (.int x) = .ok (.int (b : Nat)) := by rw [<- eb]; rfl
 have g5 : dMod (.int y) (.int ((b : Int) + 1)) = .ok (.int (t : Nat)) := by rw [mod_ok (by omega), et]
 have g6 : dAdd (.int 2) (.int z) = .ok (.int (k : Nat)) := by rw [<- ek]; rfl
 have hR := right_ok h1 h6 ht hk
 have hF := refused_ok hk h1 h6 c0 t
 refine ⟨some (.v (.int c)), some (.v (.lst [.int x, .int y, .int z])), some (.v (.int b)), some (.v (.int t)), some (.v (.int k)), ?_⟩
 refine seq_nx (set_ok (call_ok rfl hc)) ?_
 refine seq_nx (set_ok (lst_ok (arg_ok (call_ok rfl e1') (arg_ok (call_ok rfl e2') (arg_ok (call_ok rfl e3') rfl))))) ?_
 refine seq_nx hn ?_
 refine seq_nx (set_ok (op_ok rfl (op_ok rfl rfl rfl) g4)) ?_
 refine seq_nx (set_ok (op_ok (op_ok rfl rfl rfl) (op_ok rfl rfl rfl) g5)) ?_
 refine seq_nx (set_ok (op_ok rfl (op_ok rfl rfl rfl) g6)) ?_
 refine seq_nx (if_f (not_ok (p := true) (call_ok rfl hR)) rfl) ?_
 refine if_f (ok_bl (and_ok (p := decide ((j : Int) = 1)) (q := false) (op_ok rfl rfl (eqi_ok _ _)) fun _ => not_ok (p := true) (call_ok rfl hF)) (Bool.and_false _)) rfl
theorem law_true (ns : List Int) (hn : ns.length <= 63) : p_law [.lst (ns.map D.int)] = .ok (.bl true) := by
 obtain ⟨c0, hc0⟩ := cellF ns 0 (by decide)
 have loop : ∀ (ks : List Nat), (∀ j ∈ ks, j <= 100000) -> ∀ a2 a3 a4 a5 a6 a7 : Option Sl, ∃ st, forR (tgN 2) L_law_0 (ks.map fun (j : Nat) => D.int (j : Int)) [some (.v (.lst (ns.map D.int))), some (.v (.int c0)), a2, a3, a4, a5, a6, a7] = .ok (.nx st) := by
  intro ks
  induction ks with
  | nil => intro _ a2 a3 a4 a5 a6 a7; exact ⟨_, rfl⟩
  | cons j ks ih =>
   intro h a2 a3 a4 a5 a6 a7
   obtain ⟨b3, b4, b5, b6, b7, hb⟩ := body82 ns c0 j (h j List.mem_cons_self) a3 a4 a5 a6 a7
   obtain ⟨st, hs⟩ := ih (fun j hj => h j (List.mem_cons_of_mem _ hj)) (some (.v (.int j))) b3 b4 b5 b6 b7
   exact ⟨st, for_go rfl hb hs⟩
 have hm : ∀ s1 s2 s3 s4 s5 s6 s7, e2 dMax2 (eC (.int 4)) (e2 dMin2 (e1 dLen (eVar 0)) (eC (.int 9))) [some (.v (.lst (ns.map D.int))), s1, s2, s3, s4, s5, s6, s7] = .ok (.int ((max 4 (min ns.length 9) : Nat) : Int)) := by
  intro s1 s2 s3 s4 s5 s6 s7
  refine op_ok rfl (op_ok (e1_ok rfl (show R.ok (D.int (((ns.map D.int).length : Nat) : Int)) = .ok (.int (ns.length : Nat)) by rw [List.length_map])) rfl (show R.ok (D.int (if (9 : Int) < (ns.length : Nat) then 9 else (ns.length : Nat))) = .ok (.int ((min ns.length 9 : Nat) : Int)) by
   congr 2
   split <;> omega)) ?_
  show R.ok (D.int (if ((min ns.length 9 : Nat) : Int) > 4 then ((min ns.length 9 : Nat) : Int) else 4)) = _
  congr 2
  split <;> omega
 have hr : ∀ s1 s2 s3 s4 s5 s6 s7, itR2 (eC (.int 1)) (e2 dMax2 (eC (.int 4)) (e2 dMin2 (e1 dLen (eVar 0)) (eC (.int 9)))) [some (.v (.lst (ns.map D.int))), s1, s2, s3, s4, s5, s6, s7] = .ok ((List.range' 1 (max 4 (min ns.length 9) - 1)).map fun (j : Nat) => D.int (j : Int)) := by
  intro s1 s2 s3 s4 s5 s6 s7
  rw [itR2_ap, hm, eC_ap, bind_ok', bind_ok']
  have e : rangeD 1 (((max 4 (min ns.length 9) : Nat) : Int) - 1).toNat = (List.range' 1 (max 4 (min ns.length 9) - 1)).map fun (j : Nat) => D.int (j : Int) := by
   unfold rangeD
   rw [show (((max 4 (min ns.length 9) : Nat) : Int) - 1).toNat = max 4 (min ns.length 9) - 1 by omega, List.range'_eq_map_range, List.map_map]
   refine List.map_congr_left fun a _ => ?_
   show D.int (1 + (a : Int)) = D.int ((1 + a : Nat) : Int)
   rw [Int.natCast_add]; rfl
  rw [<- e]
  exact guardR_pos ⟨ge_bigI (by omega), le_bigI (by omega), ge_bigI (by omega), le_bigI (by omega)⟩
 obtain ⟨st, hs⟩ := loop (List.range' 1 (max 4 (min ns.length 9) - 1)) (fun j hj => by have := List.mem_range'_1.mp hj; omega) none none none none none none
 exact run_rt rfl (seq_nx (set_ok (call_ok rfl hc0)) (seq_nx (for_ok (hr _ _ _ _ _ _ _) hs) rfl))
end Pu
namespace Pu
open PySem PySem.Spec PyProof.Rows L2
abbrev LSt := L2.St
def keyD : Key -> D
 | .inl i => .int i
 | .inr x => .str x.cps.toList
structure ExcCl (K : PySem.W.Frag) (C : Addr) : Prop where
 ga : PySem.W.findIn K (.ref C) "__getattribute__" = some (some (.builtin "BaseException.__getattribute__"))
 gn : PySem.W.findIn K (.ref C) "__getattr__" = some none
 mb : PySem.W.mroIn K C (.type "BaseException") = some true
 cl : (PySem.W.clsIn K C).isSome = true
 fd : PySem.W.findIn K (.ref C) "__class__" = some (some (.builtin "object.__class__"))
 sp : PySem.W.specialIn K (.builtin "object.__class__") "__get__" = some (some (.builtin "getset_descriptor.__get__"))
 tk : PySem.W.takesIn K (.builtin "object.__class__") = some true
 mr : PySem.W.mroIn K C (.type "object") = some true
structure ExcAt (K : PySem.W.Frag) (c : String) (C : Addr) (bm : List Value) : Prop where
 ns : PySem.W.nsIn K mainGlobals (Str.ofString c) = some (some (.ref C))
 ob : ∃ (B newId initId : String) (bmB : List Value), ExcBaseFacts B newId initId bmB /\ ∀ h, K.In h -> ∃ N nm q bs hdct sn sub ab col dd k0 k1 k2 k3 k5 mN,
  h.get? C = some (excClassObj nm q C N bs bm hdct sn sub ab col dd k0 k1 k2 k3 k5 newId) /\ h.Ns N mN /\ mN "__init__" = none /\ OwnTail h bmB bm
 ic : ExcCl K C
def ExcOb (a C : Addr) (h : Heap) : Prop := ∃ o, h.get? a = some o /\ o.cls = .ref C /\ PySem.W.notCls o = true
structure ExcIs (K : PySem.W.Frag) (c : String) (C : Addr) : Prop where
 ns : PySem.W.nsIn K mainGlobals (Str.ofString c) = some (some (.ref C))
 ic : ExcCl K C
theorem ExcAt.is {K : PySem.W.Frag} {c : String} {C : Addr} {bm : List Value} (h : ExcAt K c C bm) : ExcIs K c C := ⟨h.ns, h.ic⟩
def xOb (x C : Addr) (d : Option Addr) (h : Heap) : Prop := ∃ o, h.get? x = some o /\ o.cls = .ref C /\ PySem.W.notCls o = true /\ o.dict = d
def xFs (dx : Addr) (fs : List (Str × V)) (h : Heap) : Prop := ∃ mA, h.Ns1 dx mA /\ (∀ f, RelO (fs.lookup f) (mA f)) /\ PySem.Within mA (fs.map (·.1))
mutual
def Rep (K : PySem.W.Frag) (H : Hp) : D -> V -> Prop
 | .non, v => v = V.non
 | .bl b, v => v = V.bl b
 | .int i, v => v = V.int i
 | .str s, v => v = V.str ⟨s.toArray⟩
 | .tup ds, v => ∃ a vs, v = V.ref a /\ H a = some (.tup vs) /\ Reps K H ds vs
 | .lst ds, v => ∃ a vs, v = V.ref a /\ SqL K H a vs /\ Reps K H ds vs
 | .dct t ks ds, v => ∃ a vs, v = V.ref a /\ ((t = false /\ ∃ kvs : List (Key × V), H a = some (.dK kvs) /\ kvs.map (fun p => keyD p.1) = ks /\ vs = kvs.map (·.2)) \/ (t = true /\ ∃ kvs : List (List Key × V), H a = some (.dT kvs) /\ kvs.map (fun p => D.tup (p.1.map keyD)) = ks /\ vs = kvs.map (·.2))) /\ Reps K H ds vs
 | .ins c ns ds, v => ∃ a C dx fs vs, v = V.ref a /\ H a = some (.ins C dx fs) /\ PySem.W.nsIn K mainGlobals (Str.ofString c) = some (some (.ref C)) /\ fs.map (·.1) = ns.map Str.ofString /\ vs = fs.map (·.2) /\ Reps K H ds vs
 | .exn c ns ds, v => ∃ a φ C, v = V.ref a /\ H a = some (.ext φ) /\ (∀ h, φ h -> ExcOb a C h) /\ ExcIs K c C /\ ∃ dx fs vs, ((ns = [] /\ vs = []) \/ (φ = xOb a C (some dx) /\ dx ≠ a /\ H dx = some (.ext (xFs dx fs)) /\ fs.map (·.1) = ns.map Str.ofString /\ vs = fs.map (·.2))) /\ Reps K H ds vs
 | .fn f, v => ∃ a, v = V.ref a /\ PySem.W.nsIn K mainGlobals (Str.ofString f) = some (some (.ref a))
def Reps (K : PySem.W.Frag) (H : Hp) : List D -> List V -> Prop
 | [], vs => vs = []
 | d :: ds, vs => ∃ v r, vs = v :: r /\ Rep K H d v /\ Reps K H ds r
end
theorem sqT_mono {K : PySem.W.Frag} {H H' : Hp} {a : Addr} {xs : List V} (e : Same H H') (h : SqT K H a xs) : SqT K H' a xs := by
 rcases h with (h | ⟨o, h⟩) | h
 ·exact .inl (.inl (e _ _ h))
 ·exact .inl (.inr ⟨o, e _ _ h⟩)
 ·exact .inr h
mutual
theorem Rep.mono {K : PySem.W.Frag} {H H' : Hp} (s : Same H H') : ∀ {d : D} {v : V}, Rep K H d v -> Rep K H' d v
 | .non, _, h => by unfold Rep at h ⊢; exact h
 | .bl _, _, h => by unfold Rep at h ⊢; exact h
 | .int _, _, h => by unfold Rep at h ⊢; exact h
 | .str _, _, h => by unfold Rep at h ⊢; exact h
 | .tup _, _, h => by
  unfold Rep at h ⊢
  obtain ⟨a, vs, e, q, r⟩ := h
  exact ⟨a, vs, e, s _ _ q, Reps.mono s r⟩
 | .lst _, _, h => by
  unfold Rep at h ⊢
  obtain ⟨a, vs, e, q, r⟩ := h
  exact ⟨a, vs, e, s.seq q, Reps.mono s r⟩
 | .dct _ _ _, _, h => by
  unfold Rep at h ⊢
  obtain ⟨a, vs, e, q, r⟩ := h
  refine ⟨a, vs, e, ?_, Reps.mono s r⟩
  rcases q with ⟨q0, kvs, q1, q2⟩ | ⟨q0, kvs, q1, q2⟩
  ·exact .inl ⟨q0, kvs, s _ _ q1, q2⟩
  ·exact .inr ⟨q0, kvs, s _ _ q1, q2⟩
 | .ins _ _ _, _, h => by
  unfold Rep at h ⊢
  obtain ⟨a, C, dx, fs, vs, e, q1, q2, q3, q4, r⟩ := h
  exact ⟨a, C, dx, fs, vs, e, s _ _ q1, q2, q3, q4, Reps.mono s r⟩
 | .fn _, _, h => by unfold Rep at h ⊢; exact h
 | .exn _ _ _, _, h => by
  unfold Rep at h ⊢
  obtain ⟨a, φ, C, e, q, hφ, hi, dx, fs, vs, h1, r⟩ := h
  refine ⟨a, φ, C, e, s _ _ q, hφ, hi, dx, fs, vs, ?_, Reps.mono s r⟩
  rcases h1 with h1 | ⟨h1, h2, h3, h4⟩
  ·exact .inl h1
  ·exact .inr ⟨h1, h2, s _ _ h3, h4⟩
theorem Reps.mono {K : PySem.W.Frag} {H H' : Hp} (s : Same H H') : ∀ {ds : List D} {vs : List V}, Reps K H ds vs -> Reps K H' ds vs
 | [], _, h => by unfold Reps at h ⊢; exact h
 | d :: ds, _, h => by
  unfold Reps at h ⊢
  obtain ⟨v, r, e, q, t⟩ := h
  exact ⟨v, r, e, Rep.mono s q, Reps.mono s t⟩
end
section
variable {K : PySem.W.Frag} {H : Hp}
theorem rep_non {v : V} : Rep K H .non v ↔ v = V.non := by unfold Rep; exact Iff.rfl
theorem rep_bl {b : Bool} {v : V} : Rep K H (.bl b) v ↔ v = V.bl b := by unfold Rep; exact Iff.rfl
theorem rep_int {i : Int} {v : V} : Rep K H (.int i) v ↔ v = V.int i := by unfold Rep; exact Iff.rfl
theorem rep_str {s : List Nat} {v : V} : Rep K H (.str s) v ↔ v = V.str ⟨s.toArray⟩ := by unfold Rep; exact Iff.rfl
theorem rep_tupD {ds : List D} {v : V} : Rep K H (.tup ds) v ↔ ∃ a vs, v = V.ref a /\ H a = some (.tup vs) /\ Reps K H ds vs := by conv => lhs; unfold Rep
theorem rep_tup_mp {ds : List D} {v : V} (h : Rep K H (.tup ds) v) : ∃ a vs, v = V.ref a /\ SqT K H a vs /\ Reps K H ds vs :=
 let ⟨a, vs, e, q, r⟩ := rep_tupD.mp h; ⟨a, vs, e, SqT.of q, r⟩
theorem rep_lst {ds : List D} {v : V} : Rep K H (.lst ds) v ↔ ∃ a vs, v = V.ref a /\ SqL K H a vs /\ Reps K H ds vs := by conv => lhs; unfold Rep
theorem rep_dct {t : Bool} {ks ds : List D} {v : V} : Rep K H (.dct t ks ds) v ↔ ∃ a vs, v = V.ref a /\ ((t = false /\ ∃ kvs : List (Key × V), H a = some (.dK kvs) /\ kvs.map (fun p => keyD p.1) = ks /\ vs = kvs.map (·.2)) \/ (t = true /\ ∃ kvs : List (List Key × V), H a = some (.dT kvs) /\ kvs.map (fun p => D.tup (p.1.map keyD)) = ks /\ vs = kvs.map (·.2))) /\ Reps K H ds vs := by conv => lhs; unfold Rep
theorem rep_ins {c : String} {ns : List String} {ds : List D} {v : V} : Rep K H (.ins c ns ds) v ↔ ∃ a C dx fs vs, v = V.ref a /\ H a = some (.ins C dx fs) /\ PySem.W.nsIn K mainGlobals (Str.ofString c) = some (some (.ref C)) /\ fs.map (·.1) = ns.map Str.ofString /\ vs = fs.map (·.2) /\ Reps K H ds vs := by conv => lhs; unfold Rep
theorem rep_exn {c : String} {ns : List String} {ds : List D} {v : V} : Rep K H (.exn c ns ds) v ↔ ∃ a φ C, v = V.ref a /\ H a = some (.ext φ) /\ (∀ h, φ h -> ExcOb a C h) /\ ExcIs K c C /\ ∃ dx fs vs, ((ns = [] /\ vs = []) \/ (φ = xOb a C (some dx) /\ dx ≠ a /\ H dx = some (.ext (xFs dx fs)) /\ fs.map (·.1) = ns.map Str.ofString /\ vs = fs.map (·.2))) /\ Reps K H ds vs := by conv => lhs; unfold Rep
theorem rep_fn {f : String} {v : V} : Rep K H (.fn f) v ↔ ∃ a, v = V.ref a /\ PySem.W.nsIn K mainGlobals (Str.ofString f) = some (some (.ref a)) := by conv => lhs; unfold Rep
theorem reps_nil {vs : List V} : Reps K H [] vs ↔ vs = [] := by unfold Reps; exact Iff.rfl
theorem reps_cons {d : D} {ds : List D} {vs : List V} : Reps K H (d :: ds) vs ↔ ∃ v r, vs = v :: r /\ Rep K H d v /\ Reps K H ds r := by conv => lhs; unfold Reps
theorem Reps.nil : Reps K H [] [] := reps_nil.mpr rfl
theorem Reps.cons {d : D} {ds : List D} {v : V} {vs : List V} (h : Rep K H d v) (t : Reps K H ds vs) : Reps K H (d :: ds) (v :: vs) := reps_cons.mpr ⟨v, vs, rfl, h, t⟩
theorem Reps.length : ∀ {ds : List D} {vs : List V}, Reps K H ds vs -> vs.length = ds.length
 | [], _, h => by rw [reps_nil.mp h]; rfl
 | _ :: ds, _, h => by
  obtain ⟨v, r, rfl, _, t⟩ := reps_cons.mp h
  rw [List.length_cons, List.length_cons, Reps.length t]
theorem Reps.get : ∀ {ds : List D} {vs : List V} {i : Nat} {d : D}, Reps K H ds vs -> ds[i]? = some d -> ∃ v, vs[i]? = some v /\ Rep K H d v
 | [], _, _, _, _, e => by simp at e
 | _ :: ds, _, 0, d, h, e => by
  obtain ⟨v, r, rfl, q, t⟩ := reps_cons.mp h
  simp at e; subst e
  exact ⟨v, rfl, q⟩
 | _ :: ds, _, i + 1, d, h, e => by
  obtain ⟨v, r, rfl, q, t⟩ := reps_cons.mp h
  obtain ⟨u, e1, e2⟩ := Reps.get (i := i) t (by simpa using e)
  exact ⟨u, by simpa using e1, e2⟩
theorem Reps.append : ∀ {ds es : List D} {vs us : List V}, Reps K H ds vs -> Reps K H es us -> Reps K H (ds ++ es) (vs ++ us)
 | [], _, _, _, h, t => by rw [reps_nil.mp h]; exact t
 | _ :: _, _, _, _, h, t => by
  obtain ⟨v, r, rfl, q, w⟩ := reps_cons.mp h
  exact .cons q (Reps.append w t)
theorem Reps.set {d : D} {v : V} (hd : Rep K H d v) : ∀ {ds : List D} {vs : List V} (i : Nat), Reps K H ds vs -> Reps K H (ds.set i d) (vs.set i v)
 | [], _, _, h => by rw [reps_nil.mp h]; exact .nil
 | _ :: _, _, 0, h => by
  obtain ⟨v, r, rfl, q, w⟩ := reps_cons.mp h
  exact .cons hd w
 | _ :: _, _, i + 1, h => by
  obtain ⟨v, r, rfl, q, w⟩ := reps_cons.mp h
  exact .cons q (Reps.set hd i w)
theorem Reps.take : ∀ {ds : List D} {vs : List V} (n : Nat), Reps K H ds vs -> Reps K H (ds.take n) (vs.take n)
 | _, _, 0, _ => .nil
 | [], _, _ + 1, h => by rw [reps_nil.mp h]; exact .nil
 | _ :: _, _, n + 1, h => by
  obtain ⟨v, r, rfl, q, w⟩ := reps_cons.mp h
  exact .cons q (Reps.take n w)
theorem Reps.drop : ∀ {ds : List D} {vs : List V} (n : Nat), Reps K H ds vs -> Reps K H (ds.drop n) (vs.drop n)
 | _, _, 0, h => h
 | [], _, _ + 1, h => by rw [reps_nil.mp h]; exact .nil
 | _ :: _, _, n + 1, h => by
  obtain ⟨v, r, rfl, q, w⟩ := reps_cons.mp h
  exact Reps.drop n w
theorem Reps.rep {ds : List D} {vs : List V} (h : Reps K H ds vs) : ∀ n : Nat, Reps K H (Pu.rep n ds) (List.replicate n vs).flatten
 | 0 => .nil
 | n + 1 => by
  unfold Pu.rep
  rw [List.replicate_succ, List.flatten_cons, List.replicate_succ, List.flatten_cons]
  exact h.append (Reps.rep h n)
end
def hide (A : List Addr) (H : Hp) : Hp := fun b => if b ∈ A then none else H b
theorem hide_in {A : List Addr} {H : Hp} {b : Addr} (h : b ∈ A) : hide A H b = none := if_pos h
theorem hide_out {A : List Addr} {H : Hp} {b : Addr} (h : b ∉ A) : hide A H b = H b := if_neg h
theorem hide_sub (A : List Addr) (H : Hp) : Same (hide A H) H := fun b o h => by
 unfold hide at h
 split at h
 ·cases h
 ·exact h
theorem Same.hide {A : List Addr} {H H' : Hp} (s : Same H H') : Same (hide A H) (hide A H') := fun b o h => by
 unfold Pu.hide at h ⊢
 split at h
 ·cases h
 ·rename_i q
  rw [if_neg q]
  exact s b o h
theorem hide_more {A A' : List Addr} {H : Hp} (h : ∀ a ∈ A', a ∈ A) : Same (hide A H) (hide A' H) := fun b o q => by
 by_cases hb : b ∈ A
 ·rw [hide_in hb] at q; cases q
 ·rw [hide_out hb] at q
  rw [hide_out fun z => hb (h b z)]
  exact q
theorem hide_nil (H : Hp) : hide [] H = H := by
 funext b
 exact hide_out (by simp)
theorem hide_upd {A : List Addr} {H : Hp} {a : Addr} {o : HO} (h : a ∈ A) : hide A (upd H a o) = hide A H := by
 funext b
 by_cases hb : b ∈ A
 ·rw [hide_in hb, hide_in hb]
 ·rw [hide_out hb, hide_out hb]
  exact upd_ne fun z => hb (z ▸ h)
theorem same_upd {H : Hp} {p : Addr} {o : HO} (h : H p = none) : Same H (upd H p o) := fun b u q => by
 rw [upd_ne (ne_of_none q h)]; exact q
def Own (A : List Addr) (H : Hp) : Prop := ∀ a ∈ A, (H a).isSome = true
theorem Own.mono {A : List Addr} {H H' : Hp} (h : Own A H) (s : Same H H') : Own A H' := fun a ha => by
 obtain ⟨o, e⟩ := Option.isSome_iff_exists.mp (h a ha)
 rw [s a o e]; rfl
theorem Own.free {A : List Addr} {H : Hp} (h : Own A H) {p : Addr} (e : H p = none) : p ∉ A := fun z => by
 have q := h p z
 rw [e] at q; cases q
theorem rep_new_lst {K : PySem.W.Frag} {A : List Addr} {H : Hp} {p : Addr} {ds : List D} {vs : List V} (w : Own A H) (e : H p = none) (h : Reps K (hide A H) ds vs) : Rep K (hide A (upd H p (.lst vs))) (.lst ds) (.ref p) :=
 rep_lst.mpr ⟨p, vs, rfl, SqL.of (by rw [hide_out (w.free e)]; exact upd_same), h.mono (Same.hide (same_upd e))⟩
theorem rep_new_tup {K : PySem.W.Frag} {A : List Addr} {H : Hp} {p : Addr} {ds : List D} {vs : List V} (w : Own A H) (e : H p = none) (h : Reps K (hide A H) ds vs) : Rep K (hide A (upd H p (.tup vs))) (.tup ds) (.ref p) :=
 rep_tupD.mpr ⟨p, vs, rfl, (by rw [hide_out (w.free e)]; exact upd_same), h.mono (Same.hide (same_upd e))⟩
def KOk (K : PySem.W.Frag) : OK -> Addr -> HO -> List V -> Prop
 | .l, _, o, vs => o = .lst vs
 | .d t ks, _, o, vs => (t = false /\ ∃ kvs : List (Key × V), o = .dK kvs /\ kvs.map (fun p => keyD p.1) = ks /\ vs = kvs.map (·.2)) \/ (t = true /\ ∃ kvs : List (List Key × V), o = .dT kvs /\ kvs.map (fun p => D.tup (p.1.map keyD)) = ks /\ vs = kvs.map (·.2))
 | .i n c ns, a, o, vs => a = n /\ ∃ C dx fs, o = .ins C dx fs /\ PySem.W.nsIn K mainGlobals (Str.ofString c) = some (some (.ref C)) /\ fs.map (·.1) = ns.map Str.ofString /\ vs = fs.map (·.2)
theorem KOk.rep {K : PySem.W.Frag} {H : Hp} {k : OK} {o : HO} {vs : List V} {ds : List D} {a : Addr} (ko : KOk K k a o vs) (h : H a = some o) (r : Reps K H ds vs) : Rep K H (ofK k ds) (.ref a) := by
 cases k with
 | l => have e : o = .lst vs := ko; subst e; exact rep_lst.mpr ⟨a, vs, rfl, SqL.of h, r⟩
 | d t ks =>
  refine rep_dct.mpr ⟨a, vs, rfl, ?_, r⟩
  rcases ko with ⟨q0, kvs, rfl, q⟩ | ⟨q0, kvs, rfl, q⟩
  ·exact .inl ⟨q0, kvs, h, q⟩
  ·exact .inr ⟨q0, kvs, h, q⟩
 | i n c ns =>
  obtain ⟨_, C, dx, fs, rfl, q1, q2, q3⟩ := ko
  exact rep_ins.mpr ⟨a, C, dx, fs, vs, rfl, h, q1, q2, q3, r⟩
structure RS (K : PySem.W.Frag) (B A : List Addr) (H : Hp) (st : PSt) (σ : LSt) : Prop where
 len : st.length = σ.length
 own : Own (A ++ B) H
 dis : ∀ a ∈ A, a ∉ B
 val : ∀ (i : Nat) d, st[i]? = some (some (.v d)) -> ∃ v, σ[i]? = some (some v) /\ Rep K (hide (A ++ B) H) d v
 lst : ∀ (i : Nat) k xs, st[i]? = some (some (.o k xs)) -> ∃ a o vs, σ[i]? = some (some (.ref a)) /\ a ∈ A /\ H a = some o /\ KOk K k a o vs /\ Reps K (hide (A ++ B) H) xs vs /\
  ∀ (j : Nat) k' ys, st[j]? = some (some (.o k' ys)) -> σ[j]? = some (some (.ref a)) -> j = i
theorem RS.mono {K : PySem.W.Frag} {B A : List Addr} {H H' : Hp} {st : PSt} {σ : LSt} (r : RS K B A H st σ) (s : Same H H') : RS K B A H' st σ where
 len := r.len
 own := r.own.mono s
 dis := r.dis
 val := fun i d e => let ⟨v, e1, q⟩ := r.val i d e; ⟨v, e1, q.mono (Same.hide s)⟩
 lst := fun i k xs e => let ⟨a, o, vs, e1, m, h, ko, q, u⟩ := r.lst i k xs e; ⟨a, o, vs, e1, m, s _ _ h, ko, q.mono (Same.hide s), u⟩
def Le (A : List Addr) (H : Hp) (A' : List Addr) (H' : Hp) : Prop := Same (hide A H) (hide A' H')
theorem Le.refl {A : List Addr} {H : Hp} : Le A H A H := Same.refl _
theorem Le.of {A : List Addr} {H H' : Hp} (s : Same H H') : Le A H A H' := Same.hide s
theorem Le.trans {A A1 A2 : List Addr} {H H1 H2 : Hp} (a : Le A H A1 H1) (b : Le A1 H1 A2 H2) : Le A H A2 H2 := Same.trans a b
def tI (K : PySem.W.Frag) (B : List Addr) (f : Ex) : TE := fun σ H Q => ∃ A st d, RS K B A H st σ /\ f st = .ok d /\ ∀ v H', Same H H' -> Rep K (hide (A ++ B) H') d v -> Q v H'
def RepP (K : PySem.W.Frag) (A : List Addr) (H : Hp) (d : D) (v : V) : Prop :=
 Rep K (hide A H) d v \/ ∃ a k o ds vs, d = ofK k ds /\ v = V.ref a /\ H a = some o /\ KOk K k a o vs /\ Reps K (hide A H) ds vs
theorem RepP.mono {K : PySem.W.Frag} {A : List Addr} {H H' : Hp} {d : D} {v : V} (s : Same H H') (h : RepP K A H d v) : RepP K A H' d v := by
 rcases h with h | ⟨a, k, o, ds, vs, e1, e2, e3, ko, q⟩
 ·exact .inl (h.mono (Same.hide s))
 ·exact .inr ⟨a, k, o, ds, vs, e1, e2, s _ _ e3, ko, q.mono (Same.hide s)⟩
def tP (K : PySem.W.Frag) (B : List Addr) (f : Ex) : TE := fun σ H Q => ∃ A st d, RS K B A H st σ /\ f st = .ok d /\ ∀ v H', Same H H' -> RepP K (A ++ B) H' d v -> Q v H'
def tA (K : PySem.W.Frag) (B : List Addr) (f : Exs) : TA := fun σ H Q => ∃ A st ds, RS K B A H st σ /\ f st = .ok ds /\ ∀ vs H', Same H H' -> Reps K (hide (A ++ B) H') ds vs -> Q vs H'
def tT (K : PySem.W.Frag) (B : List Addr) (f : Ex) : TT := fun σ H Q => ∃ A st b, RS K B A H st σ /\ f st = .ok (.bl b) /\ ∀ H', Same H H' -> Q b H'
def tO (K : PySem.W.Frag) (B : List Addr) (f : ExO) : TO := fun σ H Q => ∃ A st o, RS K B A H st σ /\ f st = .ok o /\ ∀ H', Same H H' -> Q o H'
def Post (K : PySem.W.Frag) (B A : List Addr) (H : Hp) (r : Fl) (Dn : Ends) : Prop := match r with
 | .nx st' => ∀ A' σ' H', Le A H A' H' -> RS K B A' H' st' σ' -> Dn.nx σ' H'
 | .bk st' => ∀ A' σ' H', Le A H A' H' -> RS K B A' H' st' σ' -> Dn.bk σ' H'
 | .ct st' => ∀ A' σ' H', Le A H A' H' -> RS K B A' H' st' σ' -> Dn.ct σ' H'
 | .rt d => ∀ A' v H', Le A H A' H' -> Rep K (hide (A' ++ B) H') d v -> Dn.rt v H'
theorem Post.mono {K : PySem.W.Frag} {B A A1 : List Addr} {H H1 : Hp} {r : Fl} {Dn : Ends} (l : Le A H A1 H1) (p : Post K B A H r Dn) : Post K B A1 H1 r Dn := by
 cases r with
 | nx st => exact fun A' σ' H' l' => p A' σ' H' (l.trans l')
 | bk st => exact fun A' σ' H' l' => p A' σ' H' (l.trans l')
 | ct st => exact fun A' σ' H' l' => p A' σ' H' (l.trans l')
 | rt d => exact fun A' v H' l' => p A' v H' (l.trans l')
def tS (K : PySem.W.Frag) (B : List Addr) (b : Bd) : TS := fun Dn σ H => ∃ A st r, RS K B A H st σ /\ b st = .ok r /\ Post K B A H r Dn
def ItOf (K : PySem.W.Frag) (B A : List Addr) (H : Hp) (J : It) (ds : List D) : Prop := ∀ A' H', Le A H A' H' -> Own (A' ++ B) H' -> ∀ (i : Nat),
 (∀ d, ds[i]? = some d -> J.go i H' /\ ∀ x H3, J.yld i H' x H3 -> Same H' H3 /\ Rep K (hide (A' ++ B) H3) d x) /\ (ds.length <= i -> J.stop i H')
def tIt (K : PySem.W.Frag) (B : List Addr) (f : ItE) : TI := fun σ H R => ∃ A st ds, RS K B A H st σ /\ f st = .ok ds /\ ∀ J H', Same H H' -> ItOf K B A H' J ds -> R J H'
def tG (K : PySem.W.Frag) (B : List Addr) (g : Tg) : TG := fun v σ H Q => ∃ A st d s1, RS K B A H st σ /\ Rep K (hide (A ++ B) H) d v /\ g d st = .ok s1 /\ ∀ σ', RS K B A H s1 σ' -> Q σ' H
section
variable {X : Cx}
theorem pe_imp {e : Expr} {t t' : TE} (h : PE X e t) (m : ∀ σ H Q, t' σ H Q -> t σ H Q) : PE X e t' := fun pins s σ H Q I q => h pins s σ H Q I (m σ H Q q)
theorem pt_imp {e : Expr} {t t' : TT} (h : PT X e t) (m : ∀ σ H Q, t' σ H Q -> t σ H Q) : PT X e t' := fun pins s σ H Q I q => h pins s σ H Q I (m σ H Q q)
theorem pw_imp {e : Expr} {t t' : TT} (h : PW X e t) (m : ∀ σ H Q, t' σ H Q -> t σ H Q) : PW X e t' := fun w pins s σ H Q I q => h w pins s σ H Q I (m σ H Q q)
theorem pa_imp {es : List Expr} {t t' : TA} (h : PA X es t) (m : ∀ σ H Q, t' σ H Q -> t σ H Q) : PA X es t' := fun pos pins s σ H Q I q => h pos pins s σ H Q I (m σ H Q q)
theorem po_imp {e : Option Expr} {t t' : TO} (h : PO X e t) (m : ∀ σ H Q, t' σ H Q -> t σ H Q) : PO X e t' := fun pins s σ H Q I q => h pins s σ H Q I (m σ H Q q)
theorem ps_imp {st : Stmt} {t t' : TS} (h : PS X st t) (m : ∀ D σ H, t' D σ H -> t D σ H) : PS X st t' := fun pins s σ H D I q => h pins s σ H D I (m D σ H q)
theorem pss_imp {st : List Stmt} {t t' : TS} (h : PSs X st t) (m : ∀ D σ H, t' D σ H -> t D σ H) : PSs X st t' := fun pins s σ H D I q => h pins s σ H D I (m D σ H q)
theorem pg_imp {e : Expr} {t t' : TG} (h : PG X e t) (m : ∀ v σ H Q, t' v σ H Q -> t v σ H Q) : PG X e t' := fun pins s σ H v u Q I r q => h pins s σ H v u Q I r (m v σ H Q q)
theorem pi_imp {tg e : Expr} {t t' : TI} (h : L2.PI X tg e t) (m : ∀ σ H R, t' σ H R -> t σ H R) : L2.PI X tg e t' := fun pins s σ H R I q => h pins s σ H R I (m σ H R q)
end
section
variable {X : Cx} {B : List Addr} {a b e : Expr} {f g h : Ex} {pos : Pos}
theorem i_var (i : Nat) {x : Str} (hN : X.N[i]? = some x := by rfl) (hv : Vis X.env.scope x := by first | exact Or.inl rfl | exact Or.inr (Or.inl rfl) | exact Or.inr (Or.inr rfl)) (hd : (x == ("__debug__" : Str)) = false := by decide)
  (hcd : (x == ("__classdict__" : Str)) = false := by decide) : PE X (.Name x pos) (tI X.K B (eVar i)) := by
 refine pe_imp (pe_var hN hv hd hcd) ?_
 rintro σ H Q ⟨A, st, d, rs, hd, q⟩
 unfold eVar at hd
 split at hd
 ·rename_i d' e
  cases hd
  obtain ⟨v, e1, r⟩ := rs.val i _ e
  exact ⟨v, e1, q v H (Same.refl _) r⟩
 ·cases hd
end
end Pu
namespace Pu
open PySem PySem.Spec PyProof.Rows L2
section
variable {X : Cx} {B : List Addr} {a b e : Expr} {f g : Ex} {pos : Pos}
theorem i_c {d : D} {v : V} (h : PE X e (tC v)) (r : ∀ H, Rep X.K H d v) : PE X e (tI X.K B (eC d)) := pe_imp h (by
 rintro σ H Q ⟨A, st, d', rs, hd, q⟩
 cases hd
 exact q v H (Same.refl _) (r _))
theorem i_int {i : Int} {j : Nat} : PE X (.Constant (.int i) j pos) (tI X.K B (eC (.int i))) := i_c pe_int fun _ => rep_int.mpr rfl
theorem i_bl {q : Bool} {j : Nat} : PE X (.Constant (.bool q) j pos) (tI X.K B (eC (.bl q))) := i_c pe_bl fun _ => rep_bl.mpr rfl
theorem i_non {j : Nat} : PE X (.Constant .none j pos) (tI X.K B (eC .non)) := i_c pe_non fun _ => rep_non.mpr rfl
theorem i_str {x : Str} {j : Nat} (s : List Nat) (hx : x = ⟨s.toArray⟩ := by first | rfl | decide | decide +kernel) : PE X (.Constant (.str x) j pos) (tI X.K B (eC (.str s))) := i_c pe_str fun _ => rep_str.mpr (by rw [hx])
theorem i_gstr {x y : Str} {t : Tok} (s : List Nat) (hm : X.mg x = some (.str y t)) (hg : Gl X x := by rfl) (hy : y = ⟨s.toArray⟩ := by first | rfl | decide | decide +kernel) (hd : (x == ("__debug__" : Str)) = false := by decide) : PE X (.Name x pos) (tI X.K B (eC (.str s))) :=
 i_c (pe_glob (v := .str y) hg hm ⟨t, rfl⟩ hd) fun _ => rep_str.mpr (by rw [hy])
theorem i_gint {x : Str} {i : Int} {t : Tok} (hm : X.mg x = some (.int i t)) (hg : Gl X x := by rfl) (hd : (x == ("__debug__" : Str)) = false := by decide) : PE X (.Name x pos) (tI X.K B (eC (.int i))) :=
 i_c (pe_glob (v := .int i) hg hm ⟨t, rfl⟩ hd) fun _ => rep_int.mpr rfl
theorem toP (h : PE X e (tI X.K B f)) : PE X e (tP X.K B f) := pe_imp h (by
 rintro σ H Q ⟨A, st, d, rs, hd, q⟩
 exact ⟨A, st, d, rs, hd, fun v H' s r => q v H' s (.inl r)⟩)
theorem i_peek (i : Nat) {x : Str} (hN : X.N[i]? = some x := by rfl) (hv : Vis X.env.scope x := by first | exact Or.inl rfl | exact Or.inr (Or.inl rfl) | exact Or.inr (Or.inr rfl)) (hd : (x == ("__debug__" : Str)) = false := by decide)
  (hcd : (x == ("__classdict__" : Str)) = false := by decide) : PE X (.Name x pos) (tP X.K B (ePeek i)) := by
 refine pe_imp (pe_var hN hv hd hcd) ?_
 rintro σ H Q ⟨A, st, d, rs, hd, q⟩
 unfold ePeek at hd
 split at hd
 ·rename_i d' e
  cases hd
  obtain ⟨v, e1, r⟩ := rs.val i _ e
  exact ⟨v, e1, q v H (Same.refl _) (.inl r)⟩
 ·rename_i k xs e
  cases hd
  obtain ⟨a, o, vs, e1, m, h, ko, r, _⟩ := rs.lst i _ _ e
  exact ⟨_, e1, q _ H (Same.refl _) (.inr ⟨a, _, o, xs, vs, rfl, rfl, h, ko, r⟩)⟩
 ·cases hd
section
variable {K : PySem.W.Frag} {A : List Addr} {H : Hp} {v : V}
theorem RepP.non (h : RepP K A H .non v) : v = V.non := by
 rcases h with h | ⟨_, k, _, _, _, e, _⟩
 ·exact rep_non.mp h
 ·cases k <;> cases e
theorem RepP.bl {q : Bool} (h : RepP K A H (.bl q) v) : v = V.bl q := by
 rcases h with h | ⟨_, k, _, _, _, e, _⟩
 ·exact rep_bl.mp h
 ·cases k <;> cases e
theorem RepP.int {i : Int} (h : RepP K A H (.int i) v) : v = V.int i := by
 rcases h with h | ⟨_, k, _, _, _, e, _⟩
 ·exact rep_int.mp h
 ·cases k <;> cases e
theorem RepP.str {s : List Nat} (h : RepP K A H (.str s) v) : v = V.str ⟨s.toArray⟩ := by
 rcases h with h | ⟨_, k, _, _, _, e, _⟩
 ·exact rep_str.mp h
 ·cases k <;> cases e
theorem RepP.tup {ds : List D} (h : RepP K A H (.tup ds) v) : ∃ a vs, v = V.ref a /\ SqT K H a vs /\ Reps K (hide A H) ds vs := by
 rcases h with h | ⟨_, k, _, _, _, e, _⟩
 ·obtain ⟨a, vs, e, q, r⟩ := rep_tup_mp h
  exact ⟨a, vs, e, sqT_mono (hide_sub _ _) q, r⟩
 ·cases k <;> cases e
theorem RepP.lst {ds : List D} (h : RepP K A H (.lst ds) v) : ∃ a vs, v = V.ref a /\ SqL K H a vs /\ Reps K (hide A H) ds vs := by
 rcases h with h | ⟨a, k, o, ds', vs, e, e2, h, ko, r⟩
 ·obtain ⟨a, vs, e, q, r⟩ := rep_lst.mp h
  exact ⟨a, vs, e, (hide_sub _ _).seq q, r⟩
 ·cases k <;> cases e
  have e3 : o = .lst vs := ko
  subst e3
  exact ⟨a, vs, e2, SqL.of h, r⟩
end
def Sem2 (K : PySem.W.Frag) (r : R2) (o : Op2) : Prop := ∀ (A : List Addr) (H : Hp) (x y d : D) (v u : V) (Q : VK), Own A H -> RepP K A H x v -> RepP K A H y u -> o x y = .ok d ->
 (∀ w H', Same H H' -> Rep K (hide A H') d w -> Q w H') -> r v u H Q
theorem tOp_of {r : R2} {o : Op2} (sem : Sem2 X.K r o) {σ : LSt} {H : Hp} {Q : VK} (h : tI X.K B (e2 o f g) σ H Q) : tOp r (tP X.K B f) (tP X.K B g) σ H Q := by
 obtain ⟨A, st, d, rs, hd, q⟩ := h
 obtain ⟨x, hx, h2⟩ := R.ok_of hd
 obtain ⟨y, hy, h3⟩ := R.ok_of h2
 refine ⟨A, st, x, rs, hx, fun v H1 s1 r1 => ⟨A, st, y, rs.mono s1, hy, fun u H2 s2 r2 => ?_⟩⟩
 exact sem (A ++ B) H2 x y d v u Q (rs.own.mono (s1.trans s2)) (r1.mono s2) r2 h3 fun w H' s' r' => q w H' (s1.trans (s2.trans s')) r'
theorem i_op {op : Operator} {r : R2} {o : Op2} (ho : OpR X (binaryOp op) r) (sem : Sem2 X.K r o) (ha : PE X a (tP X.K B f)) (hb : PE X b (tP X.K B g)) : PE X (.BinOp a op b pos) (tI X.K B (e2 o f g)) :=
 pe_imp (pe_op ho ha hb) fun _ _ _ h => tOp_of sem h
theorem i_cmpG {op : CmpOp} {r : R2} {o : Op2} (ho : OpR X (compareOp op) r) (sem : Sem2 X.K r o) (ha : PE X a (tP X.K B f)) (hb : PE X b (tP X.K B g)) (hm : behindInMarks op b = false) : PE X (.Compare a [op] [b] pos) (tI X.K B (e2 o f g)) :=
 pe_imp (pe_cmpR ho ha hb hm) fun _ _ _ h => tOp_of sem h
theorem t_of {f : Ex} {σ : LSt} {H : Hp} {Q : Bool -> Hp -> Prop} (h : tT X.K B f σ H Q) : tI X.K B f σ H fun x H' => ∃ k, x = .bl k /\ Q k H' := by
 obtain ⟨A, st, k, rs, hk, q⟩ := h
 exact ⟨A, st, .bl k, rs, hk, fun v H' s r => ⟨k, rep_bl.mp r, q H' s⟩⟩
theorem i_cmpT {op : CmpOp} {r : R2} {o : Op2} (ho : OpR X (compareOp op) r) (sem : Sem2 X.K r o) (ha : PE X a (tP X.K B f)) (hb : PE X b (tP X.K B g)) (hm : behindInMarks op b = false) : PT X (.Compare a [op] [b] pos) (tT X.K B (e2 o f g)) :=
 pt_imp (pt_cmpR ho ha hb hm) fun _ _ _ h => tOp_of sem (t_of h)
theorem i_test {f : Ex} (h : PE X e (tI X.K B f)) (he : ∀ whole, isTrue e X.env whole = (do let v <- whole; standAt e.pos; holding [v] (truthy v)) := by intro _; rfl) : PT X e (tT X.K B f) :=
 pt_imp (pt_val h he) fun _ _ _ q => t_of q
theorem sem_rI0 {K : PySem.W.Frag} {g : Int -> Int -> D} {gv : Int -> Int -> V} {o : Op2} (hr : ∀ H i j, Rep K H (g i j) (gv i j)) (ho : ∀ x y d, o x y = .ok d -> ∃ i j, x = .int i /\ y = .int j /\ d = g i j) : Sem2 K (rI0 gv) o := by
 intro A H x y d v u Q w rx ry e q
 obtain ⟨i, j, rfl, rfl, rfl⟩ := ho x y d e
 exact ⟨i, j, rx.int, ry.int, q _ H (Same.refl _) (hr _ _ _)⟩
theorem sem_rI {K : PySem.W.Frag} {C : Int -> Int -> Prop} {g : Int -> Int -> D} {gv : Int -> Int -> V} {o : Op2} (hr : ∀ H i j, Rep K H (g i j) (gv i j)) (ho : ∀ x y d, o x y = .ok d -> ∃ i j, x = .int i /\ y = .int j /\ C i j /\ d = g i j) : Sem2 K (rI C gv) o := by
 intro A H x y d v u Q w rx ry e q
 obtain ⟨i, j, rfl, rfl, c, rfl⟩ := ho x y d e
 exact ⟨i, j, rx.int, ry.int, c, q _ H (Same.refl _) (hr _ _ _)⟩
theorem i_sub (ha : PE X a (tP X.K B f)) (hb : PE X b (tP X.K B g)) : PE X (.BinOp a .Sub b pos) (tI X.K B (e2 dSub f g)) :=
 i_op op_sub (sem_rI0 (g := fun i j => .int (i - j)) (fun _ _ _ => rep_int.mpr rfl) fun x y d e => by
  unfold dSub at e
  split at e
  ·cases e; exact ⟨_, _, rfl, rfl, rfl⟩
  ·cases e) ha hb
theorem i_fdiv (ha : PE X a (tP X.K B f)) (hb : PE X b (tP X.K B g)) : PE X (.BinOp a .FloorDiv b pos) (tI X.K B (e2 dFdiv f g)) :=
 i_op op_fdiv (sem_rI (g := fun i j => .int (i / j)) (fun _ _ _ => rep_int.mpr rfl) fun x y d e => by
  unfold dFdiv at e
  split at e
  ·obtain ⟨c, e⟩ := guardR_of e; cases e; exact ⟨_, _, rfl, rfl, c, rfl⟩
  ·cases e) ha hb
theorem i_mod (ha : PE X a (tP X.K B f)) (hb : PE X b (tP X.K B g)) : PE X (.BinOp a .Mod b pos) (tI X.K B (e2 dMod f g)) :=
 i_op op_mod (sem_rI (g := fun i j => .int (i % j)) (fun _ _ _ => rep_int.mpr rfl) fun x y d e => by
  unfold dMod at e
  split at e
  ·obtain ⟨c, e⟩ := guardR_of e; cases e; exact ⟨_, _, rfl, rfl, c, rfl⟩
  ·cases e) ha hb
theorem i_pow (ha : PE X a (tP X.K B f)) (hb : PE X b (tP X.K B g)) : PE X (.BinOp a .Pow b pos) (tI X.K B (e2 dPow f g)) :=
 i_op op_pow (sem_rI (g := fun i j => .int (i ^ j.toNat)) (fun _ _ _ => rep_int.mpr rfl) fun x y d e => by
  unfold dPow at e
  split at e
  ·obtain ⟨c, e⟩ := guardR_of e; cases e; exact ⟨_, _, rfl, rfl, c, rfl⟩
  ·cases e) ha hb
def rCatL (K : PySem.W.Frag) : R2 := fun x y H Q => ∃ l b xs zs, x = .ref l /\ y = .ref b /\ SqL K H l xs /\ SqL K H b zs /\ xs.length + zs.length <= sizeLine /\ ∀ p, H p = none -> Q (.ref p) (upd H p (.lst (xs ++ zs)))
theorem op_catL : OpR X (binaryOp .Add) (rCatL X.K) := by
 intro pins s σ H x y v u Q I rx ry h
 obtain ⟨l, b, xs, zs, rfl, rfl, hH, hB, hz, q⟩ := h
 cases rx
 cases ry
 obtain ⟨its, r, ⟨⟨cls, dd, data, sl⟩, n, ho, hc, _, hd⟩, z⟩ := I.list hH
 obtain ⟨its2, r2, ⟨⟨cls2, dd2, data2, sl2⟩, n2, ho2, hc2, _, hd2⟩, z2⟩ := I.list hB
 simp only at hc hd hc2 hd2
 subst hc hd hc2 hd2
 have l1 := r.length
 have l2 := r2.length
 refine concat_meets ⟨_, ho, rfl⟩ ⟨_, ho2, rfl⟩ noFill_list_add seq_list_add PySem.F.slot_list_add PySem.F.entry_list_add (PySem.F.args_list_add_2 _ _) (list_addW l b its.toArray its2.toArray n n2 dd dd2 sl sl2 (by simp only [List.size_toArray]; omega)) ⟨ho, ho2, ?_⟩
 have ea : its.toArray ++ its2.toArray = (its ++ its2).toArray := by simp
 rw [ea]
 exact ⟨.ref _, _, I.lnew (t' := s.toks) (r.append r2) (by rw [List.length_append]; omega), rfl, q _ I.fresh⟩
theorem str_app (x y : List Nat) : (⟨x.toArray⟩ : Str) ++ (⟨y.toArray⟩ : Str) = ⟨(x ++ y).toArray⟩ := by
 show Str.append _ _ = _
 unfold Str.append
 simp
theorem str_len (x : List Nat) : (⟨x.toArray⟩ : Str).length = x.length := by simp [Str.length]
theorem lim {n : Nat} (h : n <= big) : n <= sizeLine := Nat.le_trans (by rw [big_eq] at h; exact h : n <= 10000000) (by decide)
theorem i_add (ha : PE X a (tP X.K B f)) (hb : PE X b (tP X.K B g)) : PE X (.BinOp a .Add b pos) (tI X.K B (e2 dAdd f g)) := by
 refine i_op (op_add.or (op_add_str.or op_catL)) ?_ ha hb
 intro A H x y d v u Q w rx ry e q
 cases x <;> cases y <;> first | (cases e; done) | skip
 ·cases e
  exact .inl ⟨_, _, rx.int, ry.int, q _ H (Same.refl _) (rep_int.mpr rfl)⟩
 ·obtain ⟨c, e⟩ := guardR_of e
  cases e
  exact .inr (.inl ⟨_, _, rx.str, ry.str, by rw [str_len, str_len]; exact lim c, q _ H (Same.refl _) (rep_str.mpr (by rw [str_app]))⟩)
 ·obtain ⟨c, e⟩ := guardR_of e
  cases e
  obtain ⟨l, xs, e1, h1, r1⟩ := rx.lst
  obtain ⟨m, ys, e2, h2, r2⟩ := ry.lst
  have l1 := r1.length
  have l2 := r2.length
  refine .inr (.inr ⟨l, m, xs, ys, e1, e2, h1, h2, by rw [l1, l2]; exact lim c, fun p hp => q _ _ (same_upd hp) ?_⟩)
  exact rep_new_lst w hp (r1.append r2)
theorem sem_le {K : PySem.W.Frag} : Sem2 K (rI0 fun i j => .bl (decide (i <= j))) dLe := sem_rI0 (g := fun i j => .bl (decide (i <= j))) (fun _ _ _ => rep_bl.mpr rfl) fun x y d e => by
 unfold dLe at e
 split at e
 ·cases e; exact ⟨_, _, rfl, rfl, rfl⟩
 ·cases e
theorem sem_gt {K : PySem.W.Frag} : Sem2 K (rI0 fun i j => .bl (decide (j < i))) dGt := sem_rI0 (g := fun i j => .bl (decide (j < i))) (fun _ _ _ => rep_bl.mpr rfl) fun x y d e => by
 unfold dGt at e
 split at e
 ·cases e; exact ⟨_, _, rfl, rfl, rfl⟩
 ·cases e
theorem sem_ge {K : PySem.W.Frag} : Sem2 K (rI0 fun i j => .bl (decide (j <= i))) dGe := sem_rI0 (g := fun i j => .bl (decide (j <= i))) (fun _ _ _ => rep_bl.mpr rfl) fun x y d e => by
 unfold dGe at e
 split at e
 ·cases e; exact ⟨_, _, rfl, rfl, rfl⟩
 ·cases e
theorem RepP.ref {K : PySem.W.Frag} {A : List Addr} {H : Hp} {d : D} {v : V} (h : RepP K A H d v) (h1 : d ≠ .non) (h2 : ∀ b, d ≠ .bl b) (h3 : ∀ i, d ≠ .int i) (h4 : ∀ s, d ≠ .str s) : ∃ a, v = V.ref a := by
 rcases h with h | ⟨a, _, _, _, _, _, e, _⟩
 ·cases d with
  | non => exact (h1 rfl).elim
  | bl b => exact (h2 b rfl).elim
  | int i => exact (h3 i rfl).elim
  | str s => exact (h4 s rfl).elim
  | tup _ => obtain ⟨a, _, e, _⟩ := rep_tup_mp h; exact ⟨a, e⟩
  | lst _ => obtain ⟨a, _, e, _⟩ := rep_lst.mp h; exact ⟨a, e⟩
  | dct _ _ _ => obtain ⟨a, _, e, _⟩ := rep_dct.mp h; exact ⟨a, e⟩
  | ins _ _ _ => obtain ⟨a, _, _, _, _, e, _⟩ := rep_ins.mp h; exact ⟨a, e⟩
  | exn _ _ _ => obtain ⟨a, _, _, e, _⟩ := rep_exn.mp h; exact ⟨a, e⟩
  | fn _ => obtain ⟨a, e, _⟩ := rep_fn.mp h; exact ⟨a, e⟩
 ·exact ⟨a, e⟩
theorem ixN_same (n : Nat) (i : Int) : L2.ixN n i = Pu.ixN n i := rfl
theorem Reps.atI {K : PySem.W.Frag} {H : Hp} {ds : List D} {vs : List V} {i : Int} {d : D} (r : Reps K H ds vs) (e : Pu.atI ds i = some d) : ∃ v, L2.atI vs i = some v /\ Rep K H d v := by
 unfold Pu.atI at e
 unfold L2.atI
 rw [r.length, ixN_same]
 cases h : Pu.ixN ds.length i with
 | none => rw [h] at e; cases e
 | some j =>
  rw [h] at e
  exact r.get e
theorem ofO_of {α : Type} {o : Option α} {a : α} (h : ofO o = .ok a) : o = some a := by
 cases o with
 | none => cases h
 | some b => cases h; rfl
theorem sem_ix {K : PySem.W.Frag} {x : D} (hd : isDc x = false) (A : List Addr) (H : Hp) (x' y d : D) (v u : V) (Q : VK) (w : Own A H) (rx : RepP K A H x v) (ry : RepP K A H y u) (e : dIx x y = .ok d) (q : ∀ w H', Same H H' -> Rep K (hide A H') d w -> Q w H') : rIx K v u H Q := by
 cases x <;> first | (cases hd; done) | skip
 all_goals cases y
 all_goals first | (cases e; done) | skip
 ·rename_i s i
  obtain ⟨hz, e⟩ := guardR_of e
  have e := ofO_of e
  cases h : Pu.atI s i with
  | none => rw [h] at e; cases e
  | some c =>
   rw [h] at e
   cases e
   refine .inr (.inr ⟨_, i, c, rx.str, ry.int, by rw [str_len]; exact lim hz, ?_, q _ H (Same.refl _) (rep_str.mpr rfl)⟩)
   show L2.atI s.toArray.toList i = some c
   rw [List.toList_toArray]
   exact h
 ·rename_i ds i
  have h := ofO_of (show ofO (Pu.atI ds i) = .ok d from e)
  obtain ⟨l, xs, e1, h1, r1⟩ := rx.tup
  obtain ⟨z, h2, r2⟩ := r1.atI h
  exact .inr (.inl ⟨l, xs, i, z, e1, ry.int, h1, h2, q _ H (Same.refl _) r2⟩)
 ·rename_i ds i
  have h := ofO_of (show ofO (Pu.atI ds i) = .ok d from e)
  obtain ⟨l, xs, e1, h1, r1⟩ := rx.lst
  obtain ⟨z, h2, r2⟩ := r1.atI h
  exact .inl ⟨l, xs, i, z, e1, ry.int, h1, h2, q _ H (Same.refl _) r2⟩
theorem i_and1 (h : PE X a (tI X.K B f)) : PE X (.BoolOp .And [a] pos) (tI X.K B f) := pe_one h
theorem i_or1 (h : PE X a (tI X.K B f)) : PE X (.BoolOp .Or [a] pos) (tI X.K B f) := pe_one h
theorem i_and {rest : List Expr} (ha : PE X a (tI X.K B f)) (hb : PE X (.BoolOp .And (b :: rest) pos) (tI X.K B g)) : PE X (.BoolOp .And (a :: b :: rest) pos) (tI X.K B (eAnd f g)) := by
 refine pe_imp (pe_and ha hb) ?_
 rintro σ H Q ⟨A, st, d, rs, hd, q⟩
 obtain ⟨x, hx, h2⟩ := R.ok_of hd
 obtain ⟨k, rfl, h3⟩ := onB_of h2
 refine ⟨A, st, _, rs, hx, fun v H1 s1 r1 => ⟨k, rep_bl.mp r1, ?_⟩⟩
 cases k with
 | true => exact ⟨A, st, d, rs.mono s1, h3, fun w H' s' r' => q w H' (s1.trans s') r'⟩
 | false => cases h3; exact q _ H1 s1 (rep_bl.mpr rfl)
theorem i_or {rest : List Expr} (ha : PE X a (tI X.K B f)) (hb : PE X (.BoolOp .Or (b :: rest) pos) (tI X.K B g)) : PE X (.BoolOp .Or (a :: b :: rest) pos) (tI X.K B (eOr f g)) := by
 refine pe_imp (pe_or ha hb) ?_
 rintro σ H Q ⟨A, st, d, rs, hd, q⟩
 obtain ⟨x, hx, h2⟩ := R.ok_of hd
 obtain ⟨k, rfl, h3⟩ := onB_of h2
 refine ⟨A, st, _, rs, hx, fun v H1 s1 r1 => ⟨k, rep_bl.mp r1, ?_⟩⟩
 cases k with
 | true => cases h3; exact q _ H1 s1 (rep_bl.mpr rfl)
 | false => exact ⟨A, st, d, rs.mono s1, h3, fun w H' s' r' => q w H' (s1.trans s') r'⟩
theorem i_not (ha : PE X a (tI X.K B f)) : PE X (.UnaryOp .Not a pos) (tI X.K B (eNot f)) := by
 refine pe_imp (pe_not ha) ?_
 rintro σ H Q ⟨A, st, d, rs, hd, q⟩
 obtain ⟨x, hx, h2⟩ := R.ok_of hd
 obtain ⟨k, rfl, h3⟩ := onB_of h2
 cases h3
 exact ⟨A, st, _, rs, hx, fun v H1 s1 r1 => ⟨k, rep_bl.mp r1, q _ H1 s1 (rep_bl.mpr rfl)⟩⟩
theorem t_and1 (h : PT X a (tT X.K B f)) : PW X (.BoolOp .And [a] pos) (tT X.K B f) := pw_and1 h
theorem t_or1 (h : PT X a (tT X.K B f)) : PW X (.BoolOp .Or [a] pos) (tT X.K B f) := pw_or1 h
theorem t_and {rest : List Expr} (ha : PT X a (tT X.K B f)) (hb : PW X (.BoolOp .And (b :: rest) pos) (tT X.K B g)) : PW X (.BoolOp .And (a :: b :: rest) pos) (tT X.K B (eAnd f g)) := by
 refine pw_imp (pw_and ha hb) ?_
 rintro σ H Q ⟨A, st, d, rs, hd, q⟩
 obtain ⟨x, hx, h2⟩ := R.ok_of hd
 obtain ⟨k, rfl, h3⟩ := onB_of h2
 refine ⟨A, st, k, rs, hx, fun H1 s1 => ?_⟩
 cases k with
 | true => exact ⟨A, st, d, rs.mono s1, h3, fun H' s' => q H' (s1.trans s')⟩
 | false => cases h3; exact q H1 s1
theorem t_or {rest : List Expr} (ha : PT X a (tT X.K B f)) (hb : PW X (.BoolOp .Or (b :: rest) pos) (tT X.K B g)) : PW X (.BoolOp .Or (a :: b :: rest) pos) (tT X.K B (eOr f g)) := by
 refine pw_imp (pw_or ha hb) ?_
 rintro σ H Q ⟨A, st, d, rs, hd, q⟩
 obtain ⟨x, hx, h2⟩ := R.ok_of hd
 obtain ⟨k, rfl, h3⟩ := onB_of h2
 refine ⟨A, st, k, rs, hx, fun H1 s1 => ?_⟩
 cases k with
 | true => cases h3; exact q H1 s1
 | false => exact ⟨A, st, d, rs.mono s1, h3, fun H' s' => q H' (s1.trans s')⟩
theorem t_not (ha : PT X a (tT X.K B f)) : PT X (.UnaryOp .Not a pos) (tT X.K B (eNot f)) := by
 refine pt_imp (pt_not ha) ?_
 rintro σ H Q ⟨A, st, d, rs, hd, q⟩
 obtain ⟨x, hx, h2⟩ := R.ok_of hd
 obtain ⟨k, rfl, h3⟩ := onB_of h2
 cases h3
 exact ⟨A, st, k, rs, hx, fun H1 s1 => q H1 s1⟩
theorem i_ifx {c : Expr} {t : Ex} (hc : PT X c (tT X.K B t)) (ha : PE X a (tI X.K B f)) (hb : PE X b (tI X.K B g)) : PE X (.IfExp c a b pos) (tI X.K B (eIf t f g)) := by
 refine pe_imp (pe_ifExp hc ha hb) ?_
 rintro σ H Q ⟨A, st, d, rs, hd, q⟩
 obtain ⟨x, hx, h2⟩ := R.ok_of hd
 obtain ⟨k, rfl, h3⟩ := onB_of h2
 refine ⟨A, st, k, rs, hx, fun H1 s1 => ?_⟩
 cases k with
 | true => exact ⟨A, st, d, rs.mono s1, h3, fun w H' s' r' => q w H' (s1.trans s') r'⟩
 | false => exact ⟨A, st, d, rs.mono s1, h3, fun w H' s' r' => q w H' (s1.trans s') r'⟩
theorem a_nil : PA X [] (tA X.K B aNil) := pa_imp pa_nil (by
 rintro σ H Q ⟨A, st, d, rs, hd, q⟩
 cases hd
 exact q [] H (Same.refl _) .nil)
theorem a_cons {es : List Expr} {r : Exs} (ha : PE X e (tI X.K B f)) (hr : PA X es (tA X.K B r)) (hs : starEach (e :: es) X.env = (false, eval e X.env) :: starEach es X.env := by rfl) : PA X (e :: es) (tA X.K B (aCons f r)) := by
 refine pa_imp (pa_cons ha hr hs) ?_
 rintro σ H Q ⟨A, st, ds, rs, hd, q⟩
 obtain ⟨x, hx, h2⟩ := R.ok_of hd
 obtain ⟨xs, hxs, h3⟩ := R.ok_of h2
 cases h3
 refine ⟨A, st, x, rs, hx, fun v H1 s1 r1 => ⟨A, st, xs, rs.mono s1, hxs, fun vs H2 s2 r2 => ?_⟩⟩
 exact q _ H2 (s1.trans s2) (.cons (r1.mono (Same.hide s2)) r2)
theorem i_tup {es : List Expr} {r : Exs} {x1 : Nat} (h : PA X es (tA X.K B r)) : PE X (.Tuple es x1 pos) (tI X.K B (eTup r)) := by
 refine pe_imp (pe_tup h) ?_
 rintro σ H Q ⟨A, st, d, rs, hd, q⟩
 obtain ⟨xs, hx, h2⟩ := R.ok_of hd
 obtain ⟨c, h3⟩ := guardR_of h2
 cases h3
 refine ⟨A, st, xs, rs, hx, fun vs H1 s1 r1 => ⟨by rw [r1.length]; exact lim c, fun p hp => q _ _ (s1.trans (same_upd hp)) ?_⟩⟩
 exact rep_new_tup (rs.own.mono s1) hp r1
theorem i_lst {es : List Expr} {r : Exs} (h : PA X es (tA X.K B r)) : PE X (.List es pos) (tI X.K B (eLst r)) := by
 refine pe_imp (pe_lst h) ?_
 rintro σ H Q ⟨A, st, d, rs, hd, q⟩
 obtain ⟨xs, hx, h2⟩ := R.ok_of hd
 obtain ⟨c, h3⟩ := guardR_of h2
 cases h3
 refine ⟨A, st, xs, rs, hx, fun vs H1 s1 r1 => ⟨by rw [r1.length]; exact lim c, fun p hp => q _ _ (s1.trans (same_upd hp)) ?_⟩⟩
 exact rep_new_lst (rs.own.mono s1) hp r1
def spI (K : PySem.W.Frag) (np : Nat) (p : List D -> R D) : Sp := fun vs H Q _ => ∃ A ds d, Own A H /\ Reps K (hide A H) ds vs /\ ds.length = np /\ p ds = .ok d /\ ∀ v H', Same H H' -> Rep K (hide A H') d v -> Q v H'
theorem i_call {k : Nat} {fa : Addr} {fd : FuncData} {ps : List Str} {x : Str} {p0 : Pos} {es : List Expr} {r : Exs} {np : Nat} {p : List D -> R D} (F : FnOk X.prog X.w X.K X.mg X.base CX0 k fa fd ps (spI X.K np p)) (hr : Room k X.A) (hm : X.mg x = some (.ref fa))
  (hk : PySem.W.keepIn X.K (.ref fa) = true) (hb : Binds X.K fd ps []) (hl : ∀ ds d, p ds = .ok d -> ds.length = np) (ha : PA X (e :: es) (tA X.K B r)) (hg : Gl X x := by rfl) (hdb : (x == ("__debug__" : Str)) = false := by decide)
  (he : starEach (e :: es) X.env = (false, eval e X.env) :: starEach es X.env := by rfl) (hpl : (backTo pos (starEach es X.env)).any (·.1) = false := by rfl) :
  PE X (.Call (.Name x p0) (e :: es) [] pos) (tI X.K B (eCall p r)) := by
 refine pe_imp (pe_call F hr hg hm hk hb .nil pass0 ha hdb he hpl) ?_
 rintro σ H Q ⟨A, st, d, rs, hd, q⟩
 obtain ⟨xs, hx, h2⟩ := R.ok_of hd
 refine ⟨A, st, xs, rs, hx, fun vs H1 s1 r1 => ?_⟩
 show spI X.K np p (vs ++ []) H1 Q E0
 rw [List.append_nil]
 exact ⟨A ++ B, xs, d, rs.own.mono s1, r1, hl _ _ h2, h2, fun w H' s' r' => q w H' (s1.trans s') r'⟩
end
end Pu
namespace Pu
open PySem PySem.Spec PyProof.Rows L2
theorem eqK_key (a b : Key) : eqK (keyD a) (keyD b) = decide (a = b) := by
 cases a with
 | inl i =>
  cases b with
  | inl j => unfold keyD eqK; rw [key_ll]
  | inr y => unfold keyD eqK; rw [key_lr]
 | inr x =>
  cases b with
  | inl j => unfold keyD eqK; rw [key_rl]
  | inr y =>
   unfold keyD eqK
   rw [key_rr, Bool.eq_iff_iff, beq_iff_eq, decide_eq_true_eq]
   constructor
   ·intro h
    cases x; cases y
    congr 1
    exact Array.ext' h
   ·rintro rfl; rfl
theorem eqKs_key : ∀ (a b : List Key), eqKs (a.map keyD) (b.map keyD) = decide (a = b)
 | [], [] => by unfold eqKs; simp
 | [], _ :: _ => by unfold eqKs; simp
 | _ :: _, [] => by unfold eqKs; simp
 | x :: a, y :: b => by
  have ih := eqKs_key a b
  rw [List.map_cons, List.map_cons]
  unfold eqKs
  rw [eqK_key, ih, Bool.eq_iff_iff, Bool.and_eq_true, decide_eq_true_eq, decide_eq_true_eq, decide_eq_true_eq, List.cons.injEq]
theorem eqK_keys (a b : List Key) : eqK (.tup (a.map keyD)) (.tup (b.map keyD)) = decide (a = b) := by
 rw [<- eqKs_key]
 conv => lhs; unfold eqK
section
variable {κ : Type} [DecidableEq κ] {E : κ -> D} (hE : ∀ a b, eqK (E a) (E b) = decide (a = b)) {K : PySem.W.Frag} {H : Hp}
include hE
theorem getK_of (k : κ) : ∀ (kvs : List (κ × V)) (ds : List D), Reps K H ds (kvs.map (·.2)) -> (∀ d, getK (kvs.map fun p => E p.1) ds (E k) = some d -> ∃ v, valV kvs k = some v /\ Rep K H d v) /\ (valV kvs k).isSome = hasK (kvs.map fun p => E p.1) (E k)
 | [], ds, r => ⟨fun d h => by cases ds <;> simp [getK] at h, rfl⟩
 | (a, v) :: kvs, ds, r => by
  cases ds with
  | nil => have := reps_nil.mp r; simp at this
  | cons d ds =>
   obtain ⟨v', r', e, h1, h2⟩ := reps_cons.mp r
   rw [List.map_cons] at e
   injection e with e1 e2
   subst e1 e2
   obtain ⟨i1, i2⟩ := getK_of k kvs ds h2
   by_cases ha : a = k
   ·have hk : eqK (E a) (E k) = true := by rw [hE, decide_eq_true_eq]; exact ha
    refine ⟨fun d' h => ?_, ?_⟩
    ·unfold getK at h
     rw [List.map_cons, List.zip_cons_cons, List.find?_cons_of_pos (by simpa using hk)] at h
     cases h
     exact ⟨v, valV_pos ha, h1⟩
    ·rw [valV_pos ha]
     unfold hasK
     rw [List.map_cons, List.any_cons, hk]
     rfl
   ·have hk : eqK (E a) (E k) = false := by rw [hE, decide_eq_false_iff_not]; exact ha
    refine ⟨fun d' h => ?_, ?_⟩
    ·rw [valV_neg ha]
     refine i1 d' ?_
     unfold getK at h ⊢
     rw [List.map_cons, List.zip_cons_cons, List.find?_cons_of_neg (by simpa using hk)] at h
     exact h
    ·rw [valV_neg ha, i2]
     unfold hasK
     rw [List.map_cons, List.any_cons, hk]
     rfl
theorem any_hasK (k : κ) (kvs : List (κ × V)) : (kvs.any fun kv => decide (kv.1 = k)) = hasK (kvs.map fun p => E p.1) (E k) := by
 unfold hasK
 rw [List.any_map]
 congr 1
 funext p
 simp [hE]
theorem putK_of (k : κ) (v : V) (d : D) (hd : Rep K H d v) (kvs : List (κ × V)) (ds : List D) (r : Reps K H ds (kvs.map (·.2))) :
  (putK kvs k v).map (fun p => E p.1) = putKs (kvs.map fun p => E p.1) (E k) /\ Reps K H (putVs (kvs.map fun p => E p.1) ds (E k) d) ((putK kvs k v).map (·.2)) := by
 unfold putK putKs putVs
 rw [any_hasK hE]
 by_cases hh : hasK (kvs.map fun p => E p.1) (E k) = true
 ·rw [if_pos hh, if_pos hh, if_pos hh]
  constructor
  ·rw [List.map_map]
   refine List.map_congr_left fun p _ => ?_
   simp only [Function.comp_apply]
   split <;> rfl
  ·clear hh
   induction kvs generalizing ds with
   | nil => have := r.length; cases ds with | nil => exact .nil | cons _ _ => simp at this
   | cons p kvs ih =>
    obtain ⟨a, w⟩ := p
    cases ds with
    | nil => have := reps_nil.mp r; simp at this
    | cons d0 ds =>
     obtain ⟨v', r', e, h1, h2⟩ := reps_cons.mp r
     rw [List.map_cons] at e
     injection e with e1 e2
     subst e1 e2
     rw [List.map_cons, List.map_cons, List.map_cons, List.zip_cons_cons, List.map_cons]
     refine .cons ?_ (ih ds h2)
     by_cases ha : a = k
     ·have hk : eqK (E a) (E k) = true := by rw [hE, decide_eq_true_eq]; exact ha
      rw [if_pos hk, if_pos ha]
      exact hd
     ·have hk : eqK (E a) (E k) = false := by rw [hE, decide_eq_false_iff_not]; exact ha
      rw [if_neg (by rw [hk]; exact Bool.false_ne_true), if_neg ha]
      exact h1
 ·rw [if_neg hh, if_neg hh, if_neg hh]
  refine ⟨by rw [List.map_append]; rfl, ?_⟩
  rw [List.map_append]
  exact r.append (.cons hd .nil)
end
theorem key_of_rep {K : PySem.W.Frag} {H : Hp} {d : D} {v : V} (r : Rep K H d v) (h : keyOk false d = true) : ∃ k : Key, d = keyD k /\ v = kV k := by
 cases d <;> first | (cases h; done) | skip
 ·exact ⟨.inl _, rfl, rep_int.mp r⟩
 ·exact ⟨.inr _, rfl, rep_str.mp r⟩
theorem keys_of_reps {K : PySem.W.Frag} {H : Hp} : ∀ {ds : List D} {vs : List V}, Reps K H ds vs -> ds.all keyS = true -> ∃ ks : List Key, ds = ks.map keyD /\ vs = ks.map kV
 | [], vs, r, _ => ⟨[], rfl, reps_nil.mp r⟩
 | d :: ds, vs, r, h => by
  obtain ⟨v, r', rfl, h1, h2⟩ := reps_cons.mp r
  rw [List.all_cons, Bool.and_eq_true] at h
  obtain ⟨ks, e1, e2⟩ := keys_of_reps h2 h.2
  obtain ⟨k, e3, e4⟩ := key_of_rep h1 (by cases d <;> first | (cases h.1; done) | rfl)
  exact ⟨k :: ks, by rw [e1, e3]; rfl, by rw [e2, e4]; rfl⟩
theorem tkey_of_rep {K : PySem.W.Frag} {H : Hp} {d : D} {v : V} (r : Rep K H d v) (h : keyOk true d = true) : ∃ (ks : List Key) (b : Addr), d = .tup (ks.map keyD) /\ v = .ref b /\ H b = some (.tup (ks.map kV)) := by
 cases d <;> first | (cases h; done) | skip
 rename_i xs
 obtain ⟨b, vs, e, hb, rs⟩ := rep_tupD.mp r
 have h' : xs.all keyS = true := by
  unfold keyOk at h
  simpa using h
 obtain ⟨ks, e1, e2⟩ := keys_of_reps rs h'
 exact ⟨ks, b, by rw [e1], e, by rw [<- e2]; exact hb⟩
theorem dget_of {K : PySem.W.Frag} {A : List Addr} {H : Hp} {t : Bool} {ks ds : List D} {k : D} {v u : V} (rx : RepP K A H (.dct t ks ds) v) (ry : Rep K H k u) (hk : keyOk t k = true) :
  ∃ a o, v = .ref a /\ DGet H a u o /\ o.isSome = hasK ks k /\ ∀ d, getK ks ds k = some d -> ∃ w, o = some w /\ Rep K (hide A H) d w := by
 have key : ∃ a vs, v = V.ref a /\ ((t = false /\ ∃ kvs : List (Key × V), H a = some (.dK kvs) /\ kvs.map (fun p => keyD p.1) = ks /\ vs = kvs.map (·.2)) \/ (t = true /\ ∃ kvs : List (List Key × V), H a = some (.dT kvs) /\ kvs.map (fun p => D.tup (p.1.map keyD)) = ks /\ vs = kvs.map (·.2))) /\ Reps K (hide A H) ds vs := by
  rcases rx with h | ⟨a, kk, o, ds', vs, e, e2, h, ko, r⟩
  ·obtain ⟨a, vs, e, q, r⟩ := rep_dct.mp h
   refine ⟨a, vs, e, ?_, r⟩
   rcases q with ⟨q0, kvs, q1, q2⟩ | ⟨q0, kvs, q1, q2⟩
   ·exact .inl ⟨q0, kvs, hide_sub _ _ _ _ q1, q2⟩
   ·exact .inr ⟨q0, kvs, hide_sub _ _ _ _ q1, q2⟩
  ·cases kk <;> cases e
   refine ⟨a, vs, e2, ?_, r⟩
   rcases ko with ⟨q0, kvs, q1, q2⟩ | ⟨q0, kvs, q1, q2⟩
   ·subst q1; exact .inl ⟨q0, kvs, h, q2⟩
   ·subst q1; exact .inr ⟨q0, kvs, h, q2⟩
 obtain ⟨a, vs, e, q, r⟩ := key
 rcases q with ⟨rfl, kvs, q1, rfl, rfl⟩ | ⟨rfl, kvs, q1, rfl, rfl⟩
 ·obtain ⟨k', e1, e2⟩ := key_of_rep ry hk
  subst e1 e2
  obtain ⟨i1, i2⟩ := getK_of eqK_key k' kvs ds r
  exact ⟨a, _, e, DGet.k q1, i2, fun d hd => let ⟨w, h1, h2⟩ := i1 d hd; ⟨w, h1, h2⟩⟩
 ·obtain ⟨k', b, e1, e2, e3⟩ := tkey_of_rep ry hk
  subst e1 e2
  obtain ⟨i1, i2⟩ := getK_of eqK_keys k' kvs ds r
  exact ⟨a, _, e, DGet.t q1 e3, i2, fun d hd => let ⟨w, h1, h2⟩ := i1 d hd; ⟨w, h1, h2⟩⟩
section
variable {X : Cx} {B : List Addr} {a b e : Expr} {f g : Ex} {pos : Pos}
def rIxD : R2 := fun x y H Q => ∃ p v, x = .ref p /\ DGet H p y (some v) /\ Q v H
theorem ix_dict (hu : X.A.units + 64 < cLine) : IxR X rIxD := by
 intro value slice pins s σ H x y v u Q I rx ry h hs
 obtain ⟨p, z, rfl, g, q⟩ := h
 cases rx
 have hT := dict_typeIs I g
 unfold subscriptTail
 refine wpAny_bind ?_
 rw [getitemInPython_of_ne hT.not_modules]
 refine wpAny_bind (wpAny_specialOf hT PySem.F.slot_dict_getitem.lookup ?_)
 have h2 : wpAny (model X.prog X.w) X.A (getItem (.ref p) u) (EP X pins σ Q) X.xe s := d_getItem (by omega) I g ry fun w' s3 I3 rw' => ⟨z, H, I3, rw', q⟩
 have fin : wpAny (model X.prog X.w) X.A (subscripted slice false (.ref p) u) (fun r s3 => wpAny (model X.prog X.w) X.A (letTemporaryGo value (.ref p) r >>= fun _ => pure r) (EP X pins σ Q) X.xe s3) X.xe s := by
  rw [hs]
  exact wpAny_operating (wpAny_mono h2 (fun r s3 h3 => wpAny_bind (wpAny_letTemporaryGo (wpAny_pure h3))) fun _ _ x => x)
 first
  | exact wpAny_pure (wpAny_bind fin)
  | exact wpAny_bind (wpAny_pure (wpAny_bind fin))
  | exact wpAny_bind fin
theorem sem_ixA {K : PySem.W.Frag} : Sem2 K (fun x y H Q => rIx K x y H Q \/ rIxD x y H Q) dIx := by
 intro A H x y d v u Q w rx ry e q
 by_cases hx : isDc x = true
 ·cases x <;> first | (cases hx; done) | skip
  rename_i t ks vs
  have e' : guardR (keyOk t y = true) (ofO (getK ks vs y)) = .ok d := by cases y <;> exact e
  obtain ⟨hk, e2⟩ := guardR_of e'
  have ryr : Rep K H y u := by
   rcases ry with h | ⟨a, kk, o, ds, vs', e1, _⟩
   ·exact h.mono (hide_sub _ _)
   ·subst e1; cases kk <;> cases t <;> cases hk
  obtain ⟨a, o, e3, g, _, g2⟩ := dget_of rx ryr hk
  obtain ⟨z, e4, rz⟩ := g2 d (ofO_of e2)
  subst e4
  exact .inr ⟨a, z, e3, g, q _ H (Same.refl _) rz⟩
 ·exact .inl (sem_ix (by simpa using hx) A H x y d v u Q w rx ry e q)
theorem i_ix (hu : X.A.units + 64 < cLine) (ha : PE X a (tP X.K B f)) (hb : PE X b (tP X.K B g)) (hs : PlainIx b := by intro _ _; rfl) : PE X (.Subscript a b pos) (tI X.K B (e2 dIx f g)) :=
 pe_imp (pe_ix (ix_seq.or (ix_dict hu)) ha hb hs) fun _ _ _ h => tOp_of sem_ixA h
theorem call_lenK : CallR X (.builtin "len") (fun xs H Q => ∃ a kvs, xs = [V.ref a] /\ H a = some (.dK kvs) /\ Q (.int kvs.length) H) := by
 intro pins s σ H xs us Q I r h
 obtain ⟨a, kvs, rfl, hk, q⟩ := h
 obtain ⟨u, rfl, ru⟩ := r.one
 obtain rfl : u = Value.ref a := ru
 exact d_len I (.inl hk) fun t s' I' => ⟨.int kvs.length, H, I', ⟨t, rfl⟩, q⟩
theorem dlen_of {K : PySem.W.Frag} {A : List Addr} {H : Hp} {ks ds : List D} {v : V} (rx : RepP K A H (.dct false ks ds) v) : ∃ a kvs, v = .ref a /\ H a = some (.dK kvs) /\ kvs.length = ks.length := by
 rcases rx with h | ⟨a, kk, o, ds', vs, e, e2, h, ko, r⟩
 ·obtain ⟨a, vs, e, q, r⟩ := rep_dct.mp h
  rcases q with ⟨_, kvs, q1, rfl, _⟩ | ⟨q0, _⟩
  ·exact ⟨a, kvs, e, hide_sub _ _ _ _ q1, by simp⟩
  ·cases q0
 ·cases kk <;> cases e
  rcases ko with ⟨_, kvs, rfl, rfl, _⟩ | ⟨q0, _⟩
  ·exact ⟨a, kvs, e2, h, by simp⟩
  ·cases q0
end
end Pu
namespace Pu
open PySem PySem.Spec PyProof.Rows L2
section
variable {K : PySem.W.Frag} {B A : List Addr} {H : Hp} {st : PSt} {σ : LSt}
theorem set_get_v {i j : Nat} {d : D} {k : OK} {xs : List D} (h : (st.set i (some (.v d)))[j]? = some (some (.o k xs))) : j ≠ i /\ st[j]? = some (some (.o k xs)) := by
 rw [List.getElem?_set] at h
 by_cases e : i = j
 ·subst e
  rw [if_pos rfl] at h
  split at h <;> simp at h
 ·rw [if_neg e] at h
  exact ⟨fun z => e z.symm, h⟩
theorem Le.app {A' : List Addr} {H' : Hp} (l : Le A H A' H') : Same (hide (A ++ B) H) (hide (A' ++ B) H') := fun b u q => by
 have q1 := hide_sub _ _ _ _ q
 have hb : b ∉ A ++ B := fun z => by rw [hide_in z] at q; cases q
 have q2 : hide A H b = some u := by rw [hide_out fun z => hb (List.mem_append_left _ z)]; exact q1
 have q3 := l b u q2
 have hb' : b ∉ A' := fun z => by rw [hide_in z] at q3; cases q3
 rw [hide_out fun z => (List.mem_append.mp z).elim hb' fun z => hb (List.mem_append_right _ z)]
 exact hide_sub _ _ _ _ q3
theorem RS.set (r : RS K B A H st σ) {d : D} {v : V} (i : Nat) (h : Rep K (hide (A ++ B) H) d v) : RS K B A H (st.set i (some (.v d))) (σ.set i (some v)) where
 len := by rw [List.length_set, List.length_set, r.len]
 own := r.own
 dis := r.dis
 val := fun j d' e => by
  rw [List.getElem?_set] at e
  by_cases hij : i = j
  ·subst hij
   rw [if_pos rfl] at e
   split at e
   ·rename_i hl
    simp at e
    subst e
    exact ⟨v, by rw [List.getElem?_set, if_pos rfl, if_pos (by rw [<- r.len]; exact hl)], h⟩
   ·cases e
  ·rw [if_neg hij] at e
   obtain ⟨u, e1, q⟩ := r.val j d' e
   exact ⟨u, by rw [List.getElem?_set, if_neg hij]; exact e1, q⟩
 lst := fun j kk xs e => by
  obtain ⟨hj, e'⟩ := set_get_v e
  obtain ⟨a, o, vs, e1, m, h1, ko, q, u⟩ := r.lst j kk xs e'
  refine ⟨a, o, vs, by rw [List.getElem?_set, if_neg fun z => hj z.symm]; exact e1, m, h1, ko, q, fun k k' ys ek ek2 => ?_⟩
  obtain ⟨hk, ek'⟩ := set_get_v ek
  rw [List.getElem?_set, if_neg fun z => hk z.symm] at ek2
  exact u k k' ys ek' ek2
theorem own_new {p : Addr} {o : HO} (w : Own (A ++ B) H) : Own ((p :: A) ++ B) (upd H p o) := fun a ha => by
 by_cases e : a = p
 ·subst e; rw [upd_same]; rfl
 ·rw [upd_ne e]
  exact w a ((List.mem_cons.mp ha).resolve_left e)
theorem same_new {p : Addr} {o : HO} (hp : H p = none) : Same (hide (A ++ B) H) (hide ((p :: A) ++ B) (upd H p o)) := fun b u q => by
 have q1 := hide_sub _ _ _ _ q
 have hb : b ∉ A ++ B := fun z => by rw [hide_in z] at q; cases q
 have ne : b ≠ p := ne_of_none q1 hp
 rw [hide_out (show b ∉ (p :: A) ++ B from fun z => (List.mem_cons.mp z).elim ne hb), upd_ne ne]
 exact q1
theorem le_new {p : Addr} {o : HO} (hp : H p = none) : Le A H (p :: A) (upd H p o) := fun b u q => by
 have q1 := hide_sub _ _ _ _ q
 have hb : b ∉ A := fun z => by rw [hide_in z] at q; cases q
 have ne : b ≠ p := ne_of_none q1 hp
 rw [hide_out fun z => (List.mem_cons.mp z).elim ne hb, upd_ne ne]
 exact q1
theorem RS.setO (r : RS K B A H st σ) {p : Addr} {kk : OK} {o : HO} {ds : List D} {vs : List V} (i : Nat) (hp : H p = none) (ko : KOk K kk p o vs) (h : Reps K (hide (A ++ B) H) ds vs) :
  RS K B (p :: A) (upd H p o) (st.set i (some (.o kk ds))) (σ.set i (some (.ref p))) where
 len := by rw [List.length_set, List.length_set, r.len]
 own := own_new r.own
 dis := fun a ha hb => by
  rcases List.mem_cons.mp ha with rfl | ha
  ·exact r.own.free hp (List.mem_append_right _ hb)
  ·exact r.dis a ha hb
 val := fun j d' e => by
  rw [List.getElem?_set] at e
  by_cases hij : i = j
  ·subst hij
   rw [if_pos rfl] at e
   split at e <;> simp at e
  ·rw [if_neg hij] at e
   obtain ⟨u, e1, q⟩ := r.val j d' e
   exact ⟨u, by rw [List.getElem?_set, if_neg hij]; exact e1, q.mono (same_new hp)⟩
 lst := fun j k0 xs e => by
  rw [List.getElem?_set] at e
  by_cases hij : i = j
  ·subst hij
   rw [if_pos rfl] at e
   split at e
   ·rename_i hl
    simp at e
    obtain ⟨e0, e⟩ := e
    subst e0 e
    refine ⟨p, o, vs, by rw [List.getElem?_set, if_pos rfl, if_pos (by rw [<- r.len]; exact hl)], List.mem_cons_self, upd_same, ko, h.mono (same_new hp), fun k k' ys ek ek2 => ?_⟩
    by_cases hk : i = k
    ·exact hk.symm
    ·rw [List.getElem?_set, if_neg hk] at ek ek2
     obtain ⟨a, o', vs', e1, m, h1, _⟩ := r.lst k k' ys ek
     rw [e1] at ek2
     cases ek2
     rw [hp] at h1; cases h1
   ·cases e
  ·rw [if_neg hij] at e
   obtain ⟨a, o', vs', e1, m, h1, ko', q, u⟩ := r.lst j k0 xs e
   have ne : a ≠ p := ne_of_none h1 hp
   refine ⟨a, o', vs', by rw [List.getElem?_set, if_neg hij]; exact e1, List.mem_cons_of_mem _ m, by rw [upd_ne ne]; exact h1, ko', q.mono (same_new hp), fun k k' ys ek ek2 => ?_⟩
   by_cases hk : i = k
   ·subst hk
    rw [List.getElem?_set, if_pos rfl] at ek2
    split at ek2
    ·simp at ek2; exact absurd ek2.symm ne
    ·cases ek2
   ·rw [List.getElem?_set, if_neg hk] at ek ek2
    exact u k k' ys ek ek2
theorem RS.write (r : RS K B A H st σ) {a : Addr} {i : Nat} {k0 k1 : OK} {o' : HO} {xs ds : List D} {vs' : List V} (hi : st[i]? = some (some (.o k0 xs))) (hs : σ[i]? = some (some (.ref a))) (ko : KOk K k1 a o' vs') (h : Reps K (hide (A ++ B) H) ds vs') :
  RS K B A (upd H a o') (st.set i (some (.o k1 ds))) σ /\ Le A H A (upd H a o') := by
 obtain ⟨a', o, vs, e1, m, h1, _, q, u⟩ := r.lst i k0 xs hi
 rw [hs] at e1
 cases e1
 have hh : hide (A ++ B) (upd H a o') = hide (A ++ B) H := hide_upd (List.mem_append_left _ m)
 refine ⟨⟨by rw [List.length_set, r.len], fun b hb => ?_, r.dis, fun j d e => ?_, fun j kj ys e => ?_⟩, ?_⟩
 ·by_cases e : b = a
  ·subst e; rw [upd_same]; rfl
  ·rw [upd_ne e]; exact r.own b hb
 ·rw [hh]
  rw [List.getElem?_set] at e
  by_cases hij : i = j
  ·subst hij
   rw [if_pos rfl] at e
   split at e <;> simp at e
  ·rw [if_neg hij] at e
   exact r.val j d e
 ·rw [hh]
  have ne : ∀ {k : Nat} {kz : OK} {zs : List D}, (st.set i (some (.o k1 ds)))[k]? = some (some (.o kz zs)) -> ∃ kw ws, st[k]? = some (some (.o kw ws)) := fun {k kz zs} ek => by
   rw [List.getElem?_set] at ek
   by_cases hk : i = k
   ·subst hk; exact ⟨_, _, hi⟩
   ·rw [if_neg hk] at ek; exact ⟨_, _, ek⟩
  rw [List.getElem?_set] at e
  by_cases hij : i = j
  ·subst hij
   rw [if_pos rfl] at e
   split at e
   ·simp at e
    obtain ⟨e0, e⟩ := e
    subst e0 e
    exact ⟨a, o', vs', hs, m, upd_same, ko, h, fun k kz zs ek ek2 => let ⟨kw, ws, ew⟩ := ne ek; u k kw ws ew ek2⟩
   ·cases e
  ·rw [if_neg hij] at e
   obtain ⟨c, oc, ws, c1, cm, ch, kc, cq, cu⟩ := r.lst j kj ys e
   have hca : c ≠ a := fun z => by subst z; exact hij (u j kj ys e c1).symm
   exact ⟨c, oc, ws, c1, cm, by rw [upd_ne hca]; exact ch, kc, cq, fun k kz zs ek ek2 => let ⟨kw, ws, ew⟩ := ne ek; cu k kw ws ew ek2⟩
 ·unfold Le
  rw [hide_upd m]
  exact Same.refl _
theorem RS.fz1 (r : RS K B A H st σ) (i : Nat) : ∃ A', RS K B A' H (Pu.fz1 st i) σ /\ Le A H A' H := by
 unfold Pu.fz1
 split
 ·rename_i kk xs e
  obtain ⟨a, o, vs, e1, m, h1, ko, q, u⟩ := r.lst i kk xs e
  have hsub : ∀ b ∈ A.filter (fun c => decide (c ≠ a)), b ∈ A := fun b hb => (List.mem_filter.mp hb).1
  have hsub2 : ∀ b ∈ A.filter (fun c => decide (c ≠ a)) ++ B, b ∈ A ++ B := fun b hb => (List.mem_append.mp hb).elim (fun z => List.mem_append_left _ (hsub b z)) (List.mem_append_right _)
  have sm : Same (hide (A ++ B) H) (hide (A.filter (fun c => decide (c ≠ a)) ++ B) H) := hide_more hsub2
  have hout : a ∉ A.filter (fun c => decide (c ≠ a)) ++ B := fun z => (List.mem_append.mp z).elim (fun z => of_decide_eq_true (List.mem_filter.mp z).2 rfl) (r.dis a m)
  refine ⟨A.filter fun c => decide (c ≠ a), ⟨by rw [List.length_set, r.len], fun b hb => r.own b (hsub2 b hb), fun b hb => r.dis b (hsub b hb), fun j d ej => ?_, fun j kj ys ej => ?_⟩, hide_more hsub⟩
  ·rw [List.getElem?_set] at ej
   by_cases hij : i = j
   ·subst hij
    rw [if_pos rfl] at ej
    split at ej
    ·simp at ej
     subst ej
     exact ⟨_, e1, ko.rep (by rw [hide_out hout]; exact h1) (q.mono sm)⟩
    ·cases ej
   ·rw [if_neg hij] at ej
    obtain ⟨v, e2, q2⟩ := r.val j d ej
    exact ⟨v, e2, q2.mono sm⟩
  ·obtain ⟨hj, ej'⟩ := set_get_v ej
   obtain ⟨c, oc, ws, c1, cm, ch, kc, cq, cu⟩ := r.lst j kj ys ej'
   have hca : c ≠ a := fun z => by subst z; exact hj (u j kj ys ej' c1)
   exact ⟨c, oc, ws, c1, List.mem_filter.mpr ⟨cm, decide_eq_true hca⟩, ch, kc, cq.mono sm, fun k kz zs ek ek2 => cu k kz zs (set_get_v ek).2 ek2⟩
 ·exact ⟨A, r, Le.refl⟩
theorem RS.fz (is : List Nat) : ∀ {A : List Addr} {st : PSt}, RS K B A H st σ -> ∃ A', RS K B A' H (is.foldl Pu.fz1 st) σ /\ Le A H A' H := by
 induction is with
 | nil => exact fun r => ⟨_, r, Le.refl⟩
 | cons i is ih =>
  intro A st r
  obtain ⟨A1, r1, l1⟩ := r.fz1 i
  obtain ⟨A2, r2, l2⟩ := ih r1
  exact ⟨A2, r2, l1.trans l2⟩
end
section
variable {X : Cx} {B : List Addr} {a b e : Expr} {f g : Ex} {pos : Pos} {bd bd' : Bd} {sm : Stmt} {rest : List Stmt}
theorem s_nil : PSs X [] (tS X.K B sNext) := pss_imp pss_nil (by
 rintro Dn σ H ⟨A, st, r, rs, hr, p⟩
 cases hr
 exact p A σ H Le.refl rs)
theorem s_cons (h1 : PS X sm (tS X.K B bd)) (h2 : PSs X rest (tS X.K B bd')) : PSs X (sm :: rest) (tS X.K B (sSeq bd bd')) := by
 refine pss_imp (pss_cons h1 h2) ?_
 rintro Dn σ H ⟨A, st, r, rs, hr, p⟩
 obtain ⟨x, hx, h3⟩ := R.ok_of hr
 refine ⟨A, st, x, rs, hx, ?_⟩
 cases x with
 | nx s1 => exact fun A' σ' H' l rs' => ⟨A', s1, r, rs', h3, p.mono l⟩
 | rt d => cases h3; exact p
 | bk s1 => cases h3; exact p
 | ct s1 => cases h3; exact p
theorem s_one (h1 : PS X sm (tS X.K B bd)) : PSs X [sm] (tS X.K B bd) := pss_one h1
theorem s_fz (is : List Nat) (h : PS X sm (tS X.K B bd)) : PS X sm (tS X.K B (sFz is bd)) := ps_imp h (by
 rintro Dn σ H ⟨A, st, r, rs, hr, p⟩
 obtain ⟨A', rs', l⟩ := RS.fz is rs
 exact ⟨A', _, r, rs', hr, p.mono l⟩)
theorem s_ret (h : PE X e (tI X.K B f)) : PS X (.Return (some e) pos) (tS X.K B (sRet f)) := ps_imp (ps_ret h) (by
 rintro Dn σ H ⟨A, st, r, rs, hr, p⟩
 obtain ⟨d, hd, h3⟩ := R.ok_of hr
 cases h3
 exact ⟨A, st, d, rs, hd, fun v H' s q => p A v H' (Le.of s) q⟩)
theorem s_set (i : Nat) {x : Str} {pos' : Pos} (he : PE X e (tI X.K B f)) (hN : X.N.Nodup) (hi : X.N[i]? = some x := by rfl) (hx : Loc X.env.scope x := by first | exact Or.inl rfl | exact Or.inr rfl) (hs : swapsWith e (some (.Name x pos')) pos.line X.env = pure false := by rfl)
  (hf : X.fn x = true \/ X.env.scope.names.lookup x = some .local := by first | exact .inl rfl | exact .inr rfl | assumption) : PS X (.Assign [.Name x pos'] e pos) (tS X.K B (sSet i f)) := ps_imp (ps_set hN hi hx he hs hf) (by
 rintro Dn σ H ⟨A, st, r, rs, hr, p⟩
 obtain ⟨d, hd, h3⟩ := R.ok_of hr
 cases h3
 exact ⟨A, st, d, rs, hd, fun v H' s q => p A _ H' (Le.of s) ((rs.mono s).set i q)⟩)
def tF (K : PySem.W.Frag) (B : List Addr) (f : Ex) : TE := fun σ H Q => ∃ A st ds, RS K B A H st σ /\ f st = .ok (.lst ds) /\ ∀ p vs H', Same H H' -> H' p = none -> Reps K (hide (A ++ B) H') ds vs -> Q (.ref p) (upd H' p (.lst vs))
theorem f_lst {es : List Expr} {r : Exs} (h : PA X es (tA X.K B r)) : PE X (.List es pos) (tF X.K B (eLst r)) := by
 refine pe_imp (pe_lst h) ?_
 rintro σ H Q ⟨A, st, d, rs, hd, q⟩
 obtain ⟨xs, hx, h2⟩ := R.ok_of hd
 obtain ⟨c, h3⟩ := guardR_of h2
 cases h3
 exact ⟨A, st, _, rs, hx, fun vs H1 s1 r1 => ⟨by rw [r1.length]; exact lim c, fun p hp => q p vs H1 s1 hp r1⟩⟩
theorem s_setO (i : Nat) {x : Str} {pos' : Pos} (he : PE X e (tF X.K B f)) (hN : X.N.Nodup) (hi : X.N[i]? = some x := by rfl) (hx : Loc X.env.scope x := by first | exact Or.inl rfl | exact Or.inr rfl) (hs : swapsWith e (some (.Name x pos')) pos.line X.env = pure false := by rfl)
  (hf : X.fn x = true \/ X.env.scope.names.lookup x = some .local := by first | exact .inl rfl | exact .inr rfl | assumption) : PS X (.Assign [.Name x pos'] e pos) (tS X.K B (sSetO i f)) := ps_imp (ps_set hN hi hx he hs hf) (by
 rintro Dn σ H ⟨A, st, r, rs, hr, p⟩
 obtain ⟨d, hd, h3⟩ := R.ok_of hr
 cases d <;> first | (cases h3; done) | skip
 cases h3
 exact ⟨A, st, _, rs, hd, fun a vs H' s hn q => p (a :: A) _ _ ((Le.of s).trans (le_new hn)) ((rs.mono s).setO (kk := .l) i hn rfl q)⟩)
theorem s_if {c : Expr} {t : Ex} {x y : List Stmt} (hc : PT X c (tT X.K B t)) (ha : PSs X x (tS X.K B bd)) (hb : PSs X y (tS X.K B bd')) : PS X (.If c x y pos) (tS X.K B (sIf t bd bd')) := ps_imp (ps_if hc ha hb) (by
 rintro Dn σ H ⟨A, st, r, rs, hr, p⟩
 obtain ⟨d, hd, h3⟩ := R.ok_of hr
 obtain ⟨k, rfl, h4⟩ := onB_of h3
 refine ⟨A, st, k, rs, hd, fun H1 s1 => ?_⟩
 cases k with
 | true => exact ⟨A, st, r, rs.mono s1, h4, p.mono (Le.of s1)⟩
 | false => exact ⟨A, st, r, rs.mono s1, h4, p.mono (Le.of s1)⟩)
theorem g_name (i : Nat) {x : Str} (hN : X.N.Nodup) (hi : X.N[i]? = some x := by rfl) (hx : Loc X.env.scope x := by first | exact Or.inl rfl | exact Or.inr rfl)
  (hf : X.fn x = true \/ X.env.scope.names.lookup x = some .local := by first | exact .inl rfl | exact .inr rfl | assumption) : PG X (.Name x pos) (tG X.K B (tgN i)) := pg_imp (pg_name hN hi hx hf) (by
 rintro v σ H Q ⟨A, st, d, s1, rs, hr, hg, q⟩
 cases hg
 exact q _ (rs.set i hr))
def tGs (K : PySem.W.Frag) (B : List Addr) (is : List Nat) : TGs := fun vs σ H Q => ∃ A st ds s1, RS K B A H st σ /\ Reps K (hide (A ++ B) H) ds vs /\ setAll is ds st = .ok s1 /\ ∀ σ', RS K B A H s1 σ' -> Q σ' H
theorem pgs_imp {es : List Expr} {t t' : TGs} (h : PGs X es t) (m : ∀ v σ H Q, t' v σ H Q -> t v σ H Q) : PGs X es t' := fun pins s σ H v u Q I r q => h pins s σ H v u Q I r (m v σ H Q q)
theorem gs_nil : PGs X [] (tGs X.K B []) := pgs_imp pgs_nil (by
 rintro v σ H Q ⟨A, st, ds, s1, rs, hr, hg, q⟩
 cases ds with
 | nil => cases hg; exact ⟨reps_nil.mp hr, q σ rs⟩
 | cons _ _ => exact nomatch hg)
theorem gs_cons (i : Nat) {is : List Nat} {x : Str} {es : List Expr} (h2 : PGs X es (tGs X.K B is)) (hN : X.N.Nodup) (hi : X.N[i]? = some x := by rfl) (hx : Loc X.env.scope x := by first | exact Or.inl rfl | exact Or.inr rfl)
  (hf : X.fn x = true \/ X.env.scope.names.lookup x = some .local := by first | exact .inl rfl | exact .inr rfl | assumption)
  (hs : (assignEach (.Name x pos :: es) X.env).map (·.2) = assign (.Name x pos) X.env :: (assignEach es X.env).map (·.2) := by rfl) : PGs X (.Name x pos :: es) (tGs X.K B (i :: is)) := pgs_imp (pgs_cons (g_name i (pos := pos) hN hi hx hf) h2 hs) (by
 rintro v σ H Q ⟨A, st, ds, s1, rs, hr, hg, q⟩
 cases ds with
 | nil => exact nomatch hg
 | cons d ds =>
  obtain ⟨u, r, e, r1, r2⟩ := reps_cons.mp hr
  exact ⟨u, r, e, A, st, d, st.set i (some (.v d)), rs, r1, rfl, fun σ' rs' => ⟨A, _, ds, s1, rs', r2, hg, q⟩⟩)
theorem isList_but {h h' : Heap} {l it : Addr} {items : Array Value} (hl : h.IsList l items) (s : Heap.SameBut it h h') (hne : l ≠ it) : h'.IsList l items := by
 obtain ⟨o, e, r⟩ := hl
 exact ⟨o, (s.2 l hne).trans e, r⟩
theorem draw_list {M : Program} {w : World} {A : Around} {E : Value -> Shared -> Prop} {it t : Addr} {items : Array Value} (hne : t ≠ it) : ∀ (n i : Nat) (s : Shared) (Q : List Value -> Shared -> Prop), s.heap.IsListIter it t i -> s.heap.IsList t items -> i + n <= items.size ->
  (∀ h', h'.IsListIter it t (i + n) -> Heap.SameBut it s.heap h' -> Q ((items.toList.drop i).take n) { s with heap := h' }) -> wpAny (model M w) A (draw (.ref it) n) Q E s
 | 0, i, s, Q, hit, _, _, hQ => by
  show wpAny _ _ (pure []) Q E s
  exact wpAny_pure (by simpa using hQ s.heap hit (Heap.SameBut.refl ..))
 | n + 1, i, s, Q, hit, ht, hle, hQ => by
  have hlt : i < items.size := by omega
  show wpAny _ _ (pyNext (.ref it) >>= _) Q E s
  refine wpAny_bind (wpAny_pyNext_list_item hit ht (x := items[i]) (by simp [hlt]) fun h1 hit1 hs1 => ?_)
  refine wpAny_bind (wpAny_holding (draw_list hne n (i + 1) _ _ hit1 (isList_but ht hs1 hne) (by omega) fun h2 hit2 hs2 => wpAny_pure ?_))
  have hd : items.toList.drop i = items[i] :: items.toList.drop (i + 1) := by simp [List.drop_eq_getElem_cons, hlt]
  have := hQ h2 (by rw [show i + (n + 1) = i + 1 + n by omega]; exact hit2) (hs1.trans hs2)
  rw [hd, List.take_succ_cons] at this
  exact this
theorem assign_Tuple_list {M : Program} {w : World} {A : Around} {E : Value -> Shared -> Prop} {s : Shared} {env : Env} {elts : List Expr} {x1 : Nat} {pos : Pos} {t : Addr} {items : Array Value} {Q : Unit -> Shared -> Prop} (hh : A.handled = none) (ht : s.heap.IsList t items)
  (hn : (assignEach elts env).length = items.size) (hstar : (assignEach elts env).findIdx? (·.1) = none)
  (h : ∀ h', Heap.ExtBut s.heap.objs.size s.heap h' -> wpAny (model M w) A (assignInOrder ((assignEach elts env).map (·.2)) items.toList) Q E { s with heap := h' }) :
  wpAny (model M w) A (assign (.Tuple elts x1 pos) env (.ref t)) Q E s := by
 have hlt : t ≠ s.heap.objs.size := by obtain ⟨o, ho, _⟩ := ht; exact Nat.ne_of_lt (Heap.lt_size ho)
 rw [assign_Tuple]
 refine wpAny_bind (wpAny_standAt ?_)
 unfold unpack
 rw [hn, hstar]
 refine wpAny_bind (wpAny_holding ?_)
 unfold unpackItems
 refine wpAny_bind ?_
 unfold notIterableAtAll
 refine wpAny_bind (wpAny_specialOf ht.typeIs PySem.F.slot_list_iter.lookup ?_)
 refine wpAny_pure ?_
 simp only [Bool.false_eq_true, if_false]
 refine wpAny_bind (wpAny_holding (wpAny_pyIter_list ht ?_))
 have ht0 : (s.heap.push { cls := .type "list_iterator", data := .fields #[.ref t, rawInt 0] }).IsList t items := by
  obtain ⟨o, ho, r⟩ := ht
  exact ⟨o, Heap.get?_push_of_some _ ho, r⟩
 refine wpAny_bind (wpAny_holding (draw_list hlt items.size 0 _ _ ⟨_, Heap.get?_push_size _ rfl, rfl, rfl⟩ ht0 (by omega) fun h1 hit1 hs1 => ?_))
 have hall : List.take items.size (List.drop 0 items.toList) = items.toList := by
  rw [List.drop_zero]; exact List.take_of_length_le (by simp)
 rw [hall]
 rw [if_neg (by simp)]
 refine wpAny_bind (wpAny_holding (wpAny_pyNext_list_end hh hit1 (isList_but ht0 hs1 hlt) (by simp) fun h2 he2 => ?_))
 simp only [Option.isSome_none, Bool.false_eq_true, if_false]
 refine wpAny_pure (h h2 fun b o hb e => he2 b o hb (hs1.extBut b o hb (Heap.get?_push_of_some _ e)))
def gSeq (K : PySem.W.Frag) (n : Nat) (t : TGs) : TG := fun v σ H Q => ∃ a xs, v = .ref a /\ (SqT K H a xs \/ SqL K H a xs) /\ xs.length = n /\ t xs σ H Q
theorem pg_seq {es : List Expr} {k : Nat} {t : TGs} {n : Nat} (hc : X.calm = true) (h : PGs X es t)
  (hn : (assignEach es X.env).length = n := by rfl) (hst : (assignEach es X.env).findIdx? (·.1) = none := by rfl) : PG X (.Tuple es k pos) (gSeq X.K n t) := by
 intro pins s σ H v u Q I r hw
 obtain ⟨a, xs, e1, hq, hl, hw⟩ := hw
 rcases hq with hq | hq
 ·exact pg_tup hc h hn hst pins s σ H v u Q I r ⟨a, xs, e1, hq, hl, hw⟩
 ·subst e1
  cases r
  obtain ⟨its, rv, ht, hz⟩ := I.list hq
  refine assign_Tuple_list (I.ok.hd hc) ht.isList (by simp [hn, <- hl, rv.length]) hst fun h' hx => ?_
  have I1 : Inv X pins σ H { s with heap := h' } := I.kept (t' := s.toks) fun b o e => hx b o (Nat.ne_of_lt (Heap.lt_size e)) e
  exact h pins _ σ H xs _ Q I1 (by simpa using rv) hw
theorem setAll_len {s1 : PSt} : ∀ (is : List Nat) (ds : List D) (st : PSt), setAll is ds st = .ok s1 -> ds.length = is.length := by
 intro is
 induction is with
 | nil => intro ds st h; cases ds with | nil => rfl | cons _ _ => exact nomatch h
 | cons i is ih => intro ds st h; cases ds with | nil => exact nomatch h | cons _ ds => exact congrArg (· + 1) (ih ds _ h)
theorem g_tup {is : List Nat} {es : List Expr} {k : Nat} (hc : X.calm = true) (h : PGs X es (tGs X.K B is)) (hn : (assignEach es X.env).length = is.length := by rfl) (hst : (assignEach es X.env).findIdx? (·.1) = none := by rfl) : PG X (.Tuple es k pos) (tG X.K B (tgT is)) := pg_imp (pg_seq hc h hn hst) (by
 rintro v σ H Q ⟨A, st, d, s1, rs, hr, hg, q⟩
 cases d <;> first | (cases hg; done) | skip
 ·rename_i ds
  obtain ⟨a, vs, e, h1, h2⟩ := rep_tup_mp hr
  exact ⟨a, vs, e, .inl (sqT_mono (hide_sub _ _) h1), by rw [h2.length]; exact setAll_len is ds st hg, A, st, ds, s1, rs, h2, hg, q⟩
 ·rename_i ds
  obtain ⟨a, vs, e, h1, h2⟩ := rep_lst.mp hr
  exact ⟨a, vs, e, .inr ((hide_sub _ _).seq h1), by rw [h2.length]; exact setAll_len is ds st hg, A, st, ds, s1, rs, h2, hg, q⟩)
theorem s_tgt {tg : Expr} {t : Tg} (he : PE X e (tI X.K B f)) (hg : PG X tg (tG X.K B t)) (hs : swapsWithSole [tg] e pos.line X.env = pure false := by rfl) (hw : swappedStores [tg] e X.env = pure none := by rfl)
  (h1 : (assignEach [tg] X.env).map (·.2) = [assign tg X.env] := by rfl) : PS X (.Assign [tg] e pos) (tS X.K B (sTgt t f)) := ps_imp (ps_asg he hg hs hw h1) (by
 rintro Dn σ H ⟨A, st, r, rs, hr, p⟩
 obtain ⟨d, hd, h3⟩ := R.ok_of hr
 obtain ⟨s1, hs1, h4⟩ := R.ok_of h3
 cases h4
 exact ⟨A, st, d, rs, hd, fun v H' s q => ⟨A, st, d, s1, rs.mono s, q, hs1, fun σ' rs' => p A σ' H' (Le.of s) rs'⟩⟩)
theorem s_for {tg iter : Expr} {body : List Stmt} {t : Tg} {it : ItE} (hi : L2.PI X tg iter (tIt X.K B it)) (hg : PG X tg (tG X.K B t)) (hb : PSs X body (tS X.K B bd)) (hp : PassesOwn (model X.prog X.w) X.A X.env X.xe) (hc : X.calm = true)
  (hs : ∀ x, foldedSetIterable iter X.env x = pure x := by intro _; rfl) : PS X (.For tg iter body [] pos) (tS X.K B (sFor t it bd)) := ps_imp (ps_for hp hc hi hg hb hs) (by
 rintro Dn σ H ⟨A, st, r, rs, hr, p⟩
 obtain ⟨ds, hd, h3⟩ := R.ok_of hr
 refine ⟨A, st, ds, rs, hd, fun J H1 s1 ito => ?_⟩
 refine ⟨fun i m σ' H' => ∃ A' st', m = ds.length - i /\ i <= ds.length /\ RS X.K B A' H' st' σ' /\ forR t bd (ds.drop i) st' = .ok r /\ Le A H1 A' H', ⟨ds.length, A, st, by simp, Nat.zero_le _, rs.mono s1, by rw [List.drop_zero]; exact h3, Le.refl⟩, ?_⟩
 rintro i m σ' H' ⟨A', st', rfl, hle, rs', hf, l⟩
 obtain ⟨i1, i2⟩ := ito A' H' l rs'.own i
 by_cases hlt : i < ds.length
 ·have hd' : ds[i]? = some ds[i] := List.getElem?_eq_getElem hlt
  obtain ⟨go, yl⟩ := i1 _ hd'
  rw [List.drop_eq_getElem_cons hlt] at hf
  obtain ⟨s2, hs2, h5⟩ := R.ok_of hf
  obtain ⟨fl, hfl, h6⟩ := R.ok_of h5
  refine .inr ⟨go, fun σ2 H2 => ∃ A2 st2, i + 1 <= ds.length /\ RS X.K B A2 H2 st2 σ2 /\ forR t bd (ds.drop (i + 1)) st2 = .ok r /\ Le A H1 A2 H2, ?_, fun x H2 y => ?_⟩
  ·rintro σ2 H2 ⟨A2, st2, hle2, rs2, hf2, l2⟩
   exact ⟨ds.length - (i + 1), by omega, A2, st2, rfl, hle2, rs2, hf2, l2⟩
  ·obtain ⟨sm, rx⟩ := yl x H2 y
   have l5 : Le A H1 A' H2 := l.trans (Le.of sm)
   refine ⟨A', st', ds[i], s2, rs'.mono sm, rx, hs2, fun σ3 rs3 => ⟨A', s2, fl, rs3, hfl, ?_⟩⟩
   cases fl with
   | nx s4 => exact fun A4 σ4 H4 l4 rs4 => ⟨A4, s4, hlt, rs4, h6, l5.trans l4⟩
   | ct s4 => exact fun A4 σ4 H4 l4 rs4 => ⟨A4, s4, hlt, rs4, h6, l5.trans l4⟩
   | bk s4 => cases h6; exact p.mono ((Le.of s1).trans l5)
   | rt d => cases h6; exact p.mono ((Le.of s1).trans l5)
 ·have e : i = ds.length := by omega
  subst e
  rw [List.drop_length] at hf
  cases hf
  exact .inl ⟨i2 (Nat.le_refl _), p A' σ' H' ((Le.of s1).trans l) rs'⟩)
theorem s_while (n : Nat) {c : Expr} {t : Ex} {body : List Stmt} (hc : PT X c (tT X.K B t)) (hb : PSs X body (tS X.K B bd)) (hp : PassesOwn (model X.prog X.w) X.A X.env X.xe) : PS X (.While c body [] pos) (tS X.K B (sWhile n t bd)) := ps_imp (ps_while hp hc hb) (by
 rintro Dn σ H ⟨A, st, r, rs, hr, p⟩
 refine ⟨fun m σ' H' => ∃ A' st', RS X.K B A' H' st' σ' /\ whileR t bd m st' = .ok r /\ Le A H A' H', ⟨n, A, st, rs, hr, Le.refl⟩, ?_⟩
 rintro m σ' H' ⟨A', st', rs', hw, l⟩
 cases m with
 | zero => exact nomatch hw
 | succ m =>
  obtain ⟨d, hd, h3⟩ := R.ok_of hw
  obtain ⟨k, rfl, h4⟩ := onB_of h3
  refine ⟨A', st', k, rs', hd, fun H1 s1 => ?_⟩
  cases k with
  | false =>
   cases h4
   exact p A' σ' H1 (l.trans (Le.of s1)) (rs'.mono s1)
  | true =>
   obtain ⟨fl, hfl, h6⟩ := R.ok_of h4
   refine ⟨fun σ2 H2 => ∃ A2 st2, RS X.K B A2 H2 st2 σ2 /\ whileR t bd m st2 = .ok r /\ Le A H A2 H2, ?_, A', st', fl, rs'.mono s1, hfl, ?_⟩
   ·rintro σ2 H2 ⟨A2, st2, rs2, hf2, l2⟩
    exact ⟨m, Nat.lt_succ_self m, A2, st2, rs2, hf2, l2⟩
   ·cases fl with
    | nx s4 => exact fun A4 σ4 H4 l4 rs4 => ⟨A4, s4, rs4, h6, l.trans ((Le.of s1).trans l4)⟩
    | ct s4 => exact fun A4 σ4 H4 l4 rs4 => ⟨A4, s4, rs4, h6, l.trans ((Le.of s1).trans l4)⟩
    | bk s4 => cases h6; exact p.mono (l.trans (Le.of s1))
    | rt d => cases h6; exact p.mono (l.trans (Le.of s1)))
theorem itl_of {K : PySem.W.Frag} {A : List Addr} {H : Hp} {ds : List D} {vs : List V} {l : Addr} (hq : SqL K (hide (A ++ B) H) l vs) (r : Reps K (hide (A ++ B) H) ds vs) : ItOf K B A H (Itl K l) ds := by
 intro A' H' le own i
 have hq' : SqL K H' l vs := (hide_sub _ _).seq ((Le.app le).seq hq)
 refine ⟨fun d hd => ?_, fun hl => ⟨vs, hq', by rw [r.length]; exact hl⟩⟩
 obtain ⟨v, hv, rv⟩ := r.get hd
 refine ⟨⟨vs, v, hq', hv⟩, fun x H3 y => ⟨by rw [y.1]; exact Same.refl _, ?_⟩⟩
 have hx := y.2 vs hq'
 rw [y.1]
 rw [hv] at hx
 cases hx
 exact rv.mono (Le.app le)
theorem itt_of {K : PySem.W.Frag} {A : List Addr} {H : Hp} {ds : List D} {vs : List V} {l : Addr} (hq : SqT K (hide (A ++ B) H) l vs) (r : Reps K (hide (A ++ B) H) ds vs) : ItOf K B A H (Itt K l) ds := by
 intro A' H' le own i
 have hq' : SqT K H' l vs := sqT_mono (hide_sub _ _) (sqT_mono (Le.app le) hq)
 refine ⟨fun d hd => ?_, fun hl => ⟨vs, hq', by rw [r.length]; exact hl⟩⟩
 obtain ⟨v, hv, rv⟩ := r.get hd
 refine ⟨⟨vs, v, hq', hv⟩, fun x H3 y => ⟨by rw [y.1]; exact Same.refl _, ?_⟩⟩
 have hx := y.2 vs hq'
 rw [y.1]
 rw [hv] at hx
 cases hx
 exact rv.mono (Le.app le)
theorem itr_of {K : PySem.W.Frag} {A : List Addr} {H : Hp} {lo : Int} {n : Nat} : ItOf K B A H (Itr lo n) (rangeD lo n) := by
 intro A' H' le own i
 have hl : (rangeD lo n).length = n := by simp [rangeD]
 refine ⟨fun d hd => ?_, fun h => by rw [hl] at h; exact h⟩
 have hi : i < n := by
  have := (List.getElem?_eq_some_iff.mp hd).1
  rw [hl] at this; exact this
 have e : d = .int (lo + (i : Int)) := by
  unfold rangeD at hd
  rw [List.getElem?_map, List.getElem?_range hi] at hd
  exact (Option.some.inj hd).symm
 subst e
 exact ⟨hi, fun x H3 y => ⟨by rw [y.1]; exact Same.refl _, rep_int.mpr y.2⟩⟩
def Its (z : List Nat) : It := ⟨fun i _ => i < z.length, fun i H x H' => H' = H /\ ∃ c, z[i]? = some c /\ x = .str ⟨#[c]⟩, fun i _ => z.length <= i⟩
theorem turn_str {P : Program} {w : World} {K : PySem.W.Frag} {tg : Expr} {z : List Nat} {it : Addr} {n : String} {t : Tok} (hn : n = "str_ascii_iterator" \/ n = "str_iterator") : Turn P w K tg (Its z) [it] it (fun i h => h.IsStrIter it n ⟨z.toArray⟩ t i) where
 mem := by simp
 obj := fun i h st b hb => by
  have e : b = it := by simpa using hb
  subst e
  obtain ⟨o, e, c, d⟩ := st
  exact ⟨o, e, fun v z => by rw [d] at z; cases z⟩
 keep := fun i h h' st k => let ⟨o, e, r⟩ := st; ⟨o, k it (by simp) o e, r⟩
 item := by
  intro X hP hw hK hc i pins s σ H E I hf st hg
  subst hP hw hK
  obtain ⟨f0, f1, f2, f3, f4, f5⟩ := hf it (by simp)
  have fin : ∀ v h' tk, SignAt ⟨z.toArray⟩ i v -> Heap.IsStrIter h' it n ⟨z.toArray⟩ t (i + 1) -> (∀ b o, b ∉ [it] -> s.heap.get? b = some o -> h'.get? b = some o) ->
    ∃ u, some v = some u /\ wpAny (model X.prog X.w) X.A (letOwnedTupleGo tg (.ref it) u) (fun _ s2 => ∃ x H', Inv X pins σ H' s2 /\ RelV x u /\ (Its z).yld i H x H' /\ Heap.IsStrIter s2.heap it n ⟨z.toArray⟩ t (i + 1) /\ ∀ b ∈ [it], H' b = none) E { s with heap := h', toks := tk } := by
   intro v h' tk hv st' kk
   obtain ⟨c, u, hcu, rfl⟩ := hv
   have I1 : Inv X pins σ H { s with heap := h', toks := tk } := I.turned (fun b o hb e => kk b o (by simpa using hb) e) f0 f1 f3 f4 f5
   obtain ⟨o, e, c', d⟩ := id st'
   refine ⟨_, rfl, go_of (s := { s with heap := h', toks := tk }) e c' d (by rcases hn with rfl | rfl <;> decide) ⟨.str ⟨#[c]⟩, H, I1, ⟨u, rfl⟩, ⟨rfl, c, ?_, rfl⟩, st', fun b hb => (hf b hb).1⟩⟩
   simpa using hcu
  have hg2 : i < z.length := hg
  have hg' : i < (⟨z.toArray⟩ : Str).cps.size := by simpa using hg2
  rcases hn with rfl | rfl
  ·exact (Walks.strAscii (prog := X.prog) (w := X.w) (I.ok.hd hc) it ⟨z.toArray⟩ t).item i s _ _ hg' st fun v h' tk hv st' kk => fin v h' tk hv st' kk
  ·exact (Walks.strWide (prog := X.prog) (w := X.w) (I.ok.hd hc) it ⟨z.toArray⟩ t).item i s _ _ hg' st fun v h' tk hv st' kk => fin v h' tk hv st' kk
 done := by
  intro X hP hw hK hc i pins s σ H E I hf st hg
  subst hP hw hK
  obtain ⟨f0, f1, f2, f3, f4, f5⟩ := hf it (by simp)
  have hg2 : z.length <= i := hg
  rcases hn with rfl | rfl
  ·exact wpAny_pyNext_ascii_end (I.ok.hd hc) st (by simpa using hg2) fun h' eb => ⟨rfl, I.turned (t' := s.toks) (fun b o hb e => eb b o hb e) f0 f1 f3 f4 f5⟩
  ·exact wpAny_pyNext_wide_end (I.ok.hd hc) st (by simpa using hg2) fun h' eb => ⟨rfl, I.turned (t' := s.toks) (fun b o hb e => eb b o hb e) f0 f1 f3 f4 f5⟩
 self := fun _ _ _ _ _ st h => by
  rcases hn with rfl | rfl
  ·exact wpAny_pyIter_striter_ascii st h
  ·exact wpAny_pyIter_striter_wide st h
theorem its_of {K : PySem.W.Frag} {A : List Addr} {H : Hp} {z : List Nat} : ItOf K B A H (Its z) (z.map fun c => .str [c]) := by
 intro A' H' le own i
 refine ⟨fun d hd => ?_, fun h => (by simpa using h : z.length <= i)⟩
 rw [List.getElem?_map] at hd
 cases hz : z[i]? with
 | none => rw [hz] at hd; cases hd
 | some c =>
  rw [hz] at hd
  cases hd
  refine ⟨(List.getElem?_eq_some_iff.mp hz).1, fun x H3 y => ⟨by rw [y.1]; exact Same.refl _, ?_⟩⟩
  obtain ⟨c', hc', rfl⟩ := y.2
  rw [hz] at hc'
  cases hc'
  exact rep_str.mpr rfl
def iSeq (K : PySem.W.Frag) (tl : TE) : TI := fun σ H R => tl σ H fun x H1 => (∃ a, x = .ref a /\ (((∃ xs, SqL K H1 a xs) /\ R (Itl K a) H1) \/ ((∃ xs, SqT K H1 a xs) /\ R (Itt K a) H1))) \/ ∃ z : List Nat, x = .str ⟨z.toArray⟩ /\ R (Its z) H1
theorem pi_seq {tg l : Expr} {tl : TE} (hl : PE X l tl) : L2.PI X tg l (iSeq X.K tl) := by
 intro pins s σ H R I h
 refine thn (hl pins s σ H _ I h) fun v s1 ⟨x, H1, I1, r1, q1⟩ => ?_
 rcases q1 with ⟨a, e, q⟩ | ⟨z, rfl, q⟩
 rotate_left
 ·obtain ⟨t, rfl⟩ := r1
  refine wpAny_pyIter_strU ?_
  refine ⟨s1.heap.objs.size, [s1.heap.objs.size], _, _, H1, rfl, I1.kept (t' := s1.toks) fun b o e => Heap.get?_push_of_some _ e, turn_str (z := z) (n := strIterType ⟨z.toArray⟩) (t := t) (by unfold strIterType; split <;> simp), ⟨_, Heap.get?_push_size _ rfl, rfl, rfl⟩, fun b hb => ?_, q⟩
  have e : b = s1.heap.objs.size := by simpa using hb
  subst e
  exact I1.fpOk (Nat.le_refl _) (I1.hok.fresh (Nat.le_refl _))
 subst e
 cases r1
 rcases q with ⟨⟨xs, hq⟩, q⟩ | ⟨⟨xs, hq⟩, q⟩
 ·obtain ⟨its, rv, p, hz⟩ := I1.list hq
  refine wpAny_pyIter_list p.isList ?_
  refine ⟨s1.heap.objs.size, [s1.heap.objs.size], _, _, H1, rfl, I1.kept (t' := s1.toks) fun b o e => Heap.get?_push_of_some _ e, turn_list a _, ⟨_, Heap.get?_push_size _ rfl, rfl, rfl⟩, fun b hb => ?_, q⟩
  have e : b = s1.heap.objs.size := by simpa using hb
  subst e
  exact I1.fpOk (Nat.le_refl _) (I1.hok.fresh (Nat.le_refl _))
 ·obtain ⟨its, rv, p, hz⟩ := I1.tuple hq
  refine wpAny_pyIter_tuple (show s1.heap.IsTuple a its.toArray from p) ?_
  refine ⟨s1.heap.objs.size, [s1.heap.objs.size], _, _, H1, rfl, I1.kept (t' := s1.toks) fun b o e => Heap.get?_push_of_some _ e, turn_tuple a _, ⟨_, Heap.get?_push_size _ rfl, rfl, rfl⟩, fun b hb => ?_, q⟩
  have e : b = s1.heap.objs.size := by simpa using hb
  subst e
  exact I1.fpOk (Nat.le_refl _) (I1.hok.fresh (Nat.le_refl _))
theorem it_e {tg l : Expr} (hl : PE X l (tI X.K B f)) : L2.PI X tg l (tIt X.K B (itE f)) := pi_imp (pi_seq hl) (by
 rintro σ H Rq ⟨A, st, ds, rs, hd, q⟩
 obtain ⟨x, hx, h2⟩ := R.ok_of hd
 refine ⟨A, st, x, rs, hx, fun v H1 s1 r1 => ?_⟩
 cases x <;> first | (cases h2; done) | skip
 ·obtain ⟨_, h2⟩ := guardR_of h2
  cases h2
  exact .inr ⟨_, rep_str.mp r1, q _ H1 s1 its_of⟩
 ·cases h2
  obtain ⟨a, vs, e, h3, r3⟩ := rep_tup_mp r1
  exact .inl ⟨a, e, .inr ⟨⟨vs, sqT_mono (hide_sub _ _) h3⟩, q _ H1 s1 (itt_of h3 r3)⟩⟩
 ·cases h2
  obtain ⟨a, vs, e, h3, r3⟩ := rep_lst.mp r1
  exact .inl ⟨a, e, .inl ⟨⟨vs, (hide_sub _ _).seq h3⟩, q _ H1 s1 (itl_of h3 r3)⟩⟩)
theorem it_r1 {tg : Expr} {p : Pos} (hm : X.mg "range" = none) (ha : PE X a (tP X.K B f)) (hg : Gl X "range" := by rfl) (hs : starEach [a] X.env = [(false, eval a X.env)] := by rfl) : L2.PI X tg (.Call (.Name "range" p) [a] [] pos) (tIt X.K B (itR1 f)) := pi_imp (pi_range1 hg hm (pa_cons ha pa_nil hs) hs) (by
 rintro σ H Rq ⟨A, st, ds, rs, hd, q⟩
 obtain ⟨x, hx, h2⟩ := R.ok_of hd
 obtain ⟨j, rfl, h3⟩ := inI_of h2
 obtain ⟨c, h4⟩ := guardR_of h3
 rw [big_eq] at c
 cases h4
 exact ⟨A, st, _, rs, hx, fun v H1 s1 r1 => ⟨j, by rw [r1.int], by omega, by omega, q _ H1 s1 itr_of⟩⟩)
theorem it_r2 {tg : Expr} {p : Pos} (hm : X.mg "range" = none) (ha : PE X a (tP X.K B f)) (hb : PE X b (tP X.K B g)) (hg : Gl X "range" := by rfl) (hs : starEach [a, b] X.env = [(false, eval a X.env), (false, eval b X.env)] := by rfl) (hs2 : starEach [b] X.env = [(false, eval b X.env)] := by rfl)
  (hs3 : starEach [a, b] X.env = (false, eval a X.env) :: starEach [b] X.env := by rfl) : L2.PI X tg (.Call (.Name "range" p) [a, b] [] pos) (tIt X.K B (itR2 f g)) := pi_imp (pi_range2 hg hm (pa_cons ha (pa_cons hb pa_nil hs2) hs3) hs hs2) (by
 rintro σ H Rq ⟨A, st, ds, rs, hd, q⟩
 obtain ⟨x, hx, h2⟩ := R.ok_of hd
 obtain ⟨y, hy, h5⟩ := R.ok_of h2
 obtain ⟨i, rfl, h6⟩ := inI_of h5
 obtain ⟨j, rfl, h3⟩ := inI_of h6
 obtain ⟨c, h4⟩ := guardR_of h3
 rw [big_eq] at c
 cases h4
 exact ⟨A, st, _, rs, hx, fun v H1 s1 r1 => ⟨A, st, _, rs.mono s1, hy, fun u H2 s2 r2 => ⟨i, j, by rw [r1.int, r2.int], ⟨by omega, by omega, by omega, by omega⟩, q _ H2 (s1.trans s2) itr_of⟩⟩⟩)
end
theorem start_rs {K : PySem.W.Frag} {B : List Addr} {H : Hp} {N : List Str} {ds : List D} {vs : List V} (w : Own B H) (r : Reps K (hide B H) ds vs) : RS K B [] H (ds.map (fun d => some (Sl.v d)) ++ List.replicate (N.length - ds.length) none) (L2.start N vs) := by
 have hl := r.length
 have nov : ∀ (i : Nat) (s : Sl), (ds.map (fun d => some (Sl.v d)) ++ List.replicate (N.length - ds.length) none)[i]? = some (some s) -> ∃ d, ds[i]? = some d /\ s = .v d := fun i s e => by
  by_cases hi : i < ds.length
  ·rw [List.getElem?_append_left (by simpa using hi), List.getElem?_map, List.getElem?_eq_getElem hi] at e
   simp at e
   exact ⟨ds[i], List.getElem?_eq_getElem hi, e.symm⟩
  ·rw [List.getElem?_append_right (by simpa using hi), List.getElem?_replicate] at e
   split at e <;> simp at e
 refine ⟨by unfold L2.start; simp [hl], by rw [List.nil_append]; exact w, fun a ha => absurd ha (by simp), fun i d e => ?_, fun i kk xs e => ?_⟩
 ·obtain ⟨d', e1, e2⟩ := nov i _ e
  cases e2
  obtain ⟨v, hv, rv⟩ := r.get e1
  refine ⟨v, ?_, by rw [List.nil_append]; exact rv⟩
  unfold L2.start
  have hi : i < vs.length := (List.getElem?_eq_some_iff.mp hv).1
  rw [List.getElem?_append_left (by simpa using hi), List.getElem?_map, hv]
  rfl
 ·obtain ⟨d', e1, e2⟩ := nov i _ e
  cases e2
theorem runD_len {np n : Nat} {bd : Bd} (ds : List D) (d : D) (h : runD np n bd ds = .ok d) : ds.length = np := (guardR_of h).1
end Pu
namespace Pu
open PySem PySem.Spec PyProof.Rows L2
structure DefOk (P : Program) (w : World) (K : PySem.W.Frag) (mg : Str -> Option Value) (base : Heap) (x : Str) (k np : Nat) (p : List D -> R D) : Prop where
 ex : ∃ (fa : Addr) (fd : FuncData) (ps : List Str), FnOk P w K mg base CX0 k fa fd ps (spI K np p) /\ mg x = some (.ref fa) /\ PySem.W.keepIn K (.ref fa) = true /\ Binds K fd ps []
 len : ∀ ds d, p ds = .ok d -> ds.length = np
theorem DefOk.of {P : Program} {w : World} {K : PySem.W.Frag} {mg : Str -> Option Value} {base : Heap} {x : Str} {k np : Nat} {p : List D -> R D} {fa : Addr} {fd : FuncData} {ps : List Str} (h : FnOk P w K mg base CX0 k fa fd ps (spI K np p)) (m : mg x = some (.ref fa))
  (kp : PySem.W.keepIn K (.ref fa) = true) (b : Binds K fd ps []) (l : ∀ ds d, p ds = .ok d -> ds.length = np) : DefOk P w K mg base x k np p := ⟨⟨fa, fd, ps, h, m, kp, b⟩, l⟩
section
variable {X : Cx} {B : List Addr} {a b e : Expr} {f g : Ex} {pos : Pos}
theorem i_callD {x : Str} {k j np : Nat} {p : List D -> R D} {es : List Expr} {r : Exs} {p0 : Pos} (h : DefOk X.prog X.w X.K X.mg X.base x k np p) (hr : Room j X.A) (hk : k <= j) (ha : PA X (e :: es) (tA X.K B r)) (hg : Gl X x := by rfl) (hdb : (x == ("__debug__" : Str)) = false := by decide)
  (he : starEach (e :: es) X.env = (false, eval e X.env) :: starEach es X.env := by rfl) (hpl : (backTo pos (starEach es X.env)).any (·.1) = false := by rfl) : PE X (.Call (.Name x p0) (e :: es) [] pos) (tI X.K B (eCall p r)) := by
 obtain ⟨fa, fd, ps, F, m, kp, bd⟩ := h.ex
 exact i_call F (hr.mono hk) m kp bd h.len ha hg hdb he hpl
theorem law_sp {K : PySem.W.Frag} {H : Hp} {a : Addr} {ns : List Int} {p : List D -> R D} {E : XK} (hS : SqL K H a (ns.map V.int)) (h : p [.lst (ns.map D.int)] = .ok (.bl true)) : spI K 1 p [.ref a] H (fun v _ => v = .bl true) E := by
 refine ⟨[], [.lst (ns.map D.int)], .bl true, fun b hb => absurd hb (by simp), ?_, rfl, h, fun v H' _ r => rep_bl.mp r⟩
 rw [hide_nil]
 refine .cons (rep_lst.mpr ⟨a, _, rfl, hS, ?_⟩) .nil
 clear hS h
 induction ns with
 | nil => exact .nil
 | cons n ns ih => exact .cons (rep_int.mpr rfl) ih
theorem i_len {p0 : Pos} (hm : X.mg "len" = none) (ha : PE X a (tP X.K B f)) (hg : Gl X "len" := by rfl) (hs : starEach [a] X.env = (false, eval a X.env) :: starEach [] X.env := by rfl) : PE X (.Call (.Name "len" p0) [a] [] pos) (tI X.K B (e1 dLen f)) := by
 refine pe_imp (pe_callB (call_len_seq.or (call_len_str.or call_lenK)) hg hm PySem.boot_len (pa_cons ha pa_nil hs) (he := hs)) ?_
 rintro σ H Q ⟨A, st, d, rs, hd, q⟩
 obtain ⟨x, hx, h2⟩ := R.ok_of hd
 refine ⟨A, st, x, rs, hx, fun v H1 s1 r1 => ?_⟩
 cases x <;> first | (cases h2; done) | skip
 ·obtain ⟨c, h3⟩ := guardR_of h2
  cases h3
  exact .inr (.inl ⟨_, by rw [r1.str], by rw [str_len]; exact lim c, by rw [str_len]; exact q _ H1 s1 (rep_int.mpr rfl)⟩)
 ·cases h2
  obtain ⟨l, vs, e, h3, r3⟩ := r1.tup
  exact .inl ⟨l, vs, by rw [e], .inr h3, by rw [r3.length]; exact q _ H1 s1 (rep_int.mpr rfl)⟩
 ·cases h2
  obtain ⟨l, vs, e, h3, r3⟩ := r1.lst
  exact .inl ⟨l, vs, by rw [e], .inl h3, by rw [r3.length]; exact q _ H1 s1 (rep_int.mpr rfl)⟩
 ·rename_i t ks ds
  cases t <;> first | (cases h2; done) | skip
  cases h2
  obtain ⟨a, kvs, e, h3, h4⟩ := dlen_of r1
  exact .inr (.inr ⟨a, kvs, by rw [e], h3, by rw [h4]; exact q _ H1 s1 (rep_int.mpr rfl)⟩)
theorem o_none : PO X none (tO X.K B oNone) := po_imp po_none (by
 rintro σ H Q ⟨A, st, o, rs, ho, q⟩
 cases ho
 exact q H (Same.refl _))
theorem o_some (h : PE X e (tP X.K B f)) : PO X (some e) (tO X.K B (oSome f)) := po_imp (po_some h) (by
 rintro σ H Q ⟨A, st, o, rs, ho, q⟩
 obtain ⟨x, hx, h2⟩ := R.ok_of ho
 obtain ⟨i, rfl, h3⟩ := inI_of h2
 cases h3
 exact ⟨A, st, _, rs, hx, fun v H1 s1 r1 => ⟨i, r1.int, q H1 s1⟩⟩)
theorem fm_range {α : Type} (x : List α) : ∀ (k a : Nat), ((List.range k).map (a + ·)).filterMap (x[·]?) = (x.drop a).take k
 | 0, a => by simp
 | k + 1, a => by
  rw [List.range_succ_eq_map, List.map_cons, List.filterMap_cons, List.map_map]
  have e : ((fun b => a + b) ∘ Nat.succ) = fun b => (a + 1) + b := by funext b; simp only [Function.comp_apply]; omega
  rw [e]
  have ih := fm_range x k (a + 1)
  rw [ih]
  by_cases h : a < x.length
  ·rw [Nat.add_zero, List.getElem?_eq_getElem h]
   simp only [List.drop_eq_getElem_cons h, List.take_succ_cons]
  ·rw [Nat.add_zero, List.getElem?_eq_none (by omega)]
   simp only [List.drop_eq_nil_of_le (by omega : x.length <= a), List.drop_eq_nil_of_le (by omega : x.length <= a + 1), List.take_nil]
theorem clip_lo (n d : Nat) (o : Option Int) : (match o with | none => (d : Int) | some i => if (1 : Int) > 0 then max 0 (min (if i < 0 then i + (n : Int) else i) (n : Int)) else max (-1) (min (if i < 0 then i + (n : Int) else i) ((n : Int) - 1))) = ((sIx n d o : Nat) : Int) := by
 cases o with
 | none => rfl
 | some i =>
  show (if (1 : Int) > 0 then _ else _) = (((if i < 0 then (i + (n : Int)).toNat else min i.toNat n) : Nat) : Int)
  rw [if_pos (by decide)]
  by_cases h : i < 0
  ·rw [if_pos h, if_pos h]; omega
  ·rw [if_neg h, if_neg h]; omega
theorem slice_ix (lo hi : Option Int) (n : Nat) : Builtin.Str.strSliceIndices lo hi 1 n = (List.range (sIx n n hi - sIx n 0 lo)).map (sIx n 0 lo + ·) := by
 unfold Builtin.Str.strSliceIndices
 simp only [show (1 : Int) > 0 by decide, if_true]
 have e1 := clip_lo n 0 lo
 have e2 := clip_lo n n hi
 simp only [show (1 : Int) > 0 by decide, if_true] at e1 e2
 rw [show ((0 : Nat) : Int) = 0 from rfl] at e1
 refine Eq.trans (congrArg (fun z => sliceRange z _ 1) (show _ = ((sIx n 0 lo : Nat) : Int) from e1)) (Eq.trans (congrArg (fun z => sliceRange _ z 1) (show _ = ((sIx n n hi : Nat) : Int) from e2)) ?_)
 unfold sliceRange
 simp only [show (1 : Int) > 0 by decide, if_true]
 have hc : (if ((sIx n 0 lo : Nat) : Int) < ((sIx n n hi : Nat) : Int) then (((sIx n n hi : Nat) : Int) - ((sIx n 0 lo : Nat) : Int) + 1 - 1) / 1 else 0).toNat = sIx n n hi - sIx n 0 lo := by
  by_cases h : ((sIx n 0 lo : Nat) : Int) < ((sIx n n hi : Nat) : Int)
  ·rw [if_pos h, Int.ediv_one]; omega
  ·rw [if_neg h]; omega
 rw [hc]
 refine List.map_congr_left fun k _ => ?_
 omega
theorem sIx_le' (n d : Nat) (hd : d <= n) (o : Option Int) : sIx n d o <= n := by
 cases o with
 | none => exact hd
 | some v =>
  show (if v < 0 then (v + (n : Int)).toNat else min v.toNat n) <= n
  by_cases hv : v < 0
  ·rw [if_pos hv]; omega
  ·rw [if_neg hv]; omega
theorem cut_slice (x : List Nat) (lo hi : Option Int) : Txt.slice ⟨x.toArray⟩ lo hi = ⟨(cut x lo hi).toArray⟩ := by
 unfold Txt.slice cut
 rw [str_len, slice_ix, List.length_map, List.length_range]
 have h1 := sIx_le' x.length x.length (Nat.le_refl _) hi
 by_cases h : sIx x.length x.length hi - sIx x.length 0 lo = x.length
 ·have e0 : sIx x.length 0 lo = 0 \/ x.length = 0 := by omega
  rw [if_pos (by simp [h]), h]
  rcases e0 with e0 | e0
  ·rw [e0, List.drop_zero, List.take_length]
  ·rw [List.length_eq_zero_iff.mp e0]; simp
 ·rw [if_neg (by simp [h])]
  have e : (fun (i : Nat) => (⟨x.toArray⟩ : Str).cps[i]?) = fun i => x[i]? := by funext i; simp
  rw [e, fm_range]
def rSlS : V -> Option Int -> Option Int -> Hp -> VK -> Prop := fun x lo hi H Q => ∃ z : List Nat, x = .str ⟨z.toArray⟩ /\ z.length <= sizeLine /\ Q (.str ⟨(cut z lo hi).toArray⟩) H
theorem sl_str : SlR X rSlS := by
 intro pins s σ H x v vl vu lo hi sl Q I rx hs pl pu h
 obtain ⟨z, rfl, hz, q⟩ := h
 obtain ⟨t, rfl⟩ := rx
 refine ⟨"str", _, PySem.F.slot_str_getitem.lookup, typeIs_str _ _ _, ?_⟩
 have hl : (Txt.slice ⟨z.toArray⟩ lo hi).length <= sizeLine := Nat.le_trans (Txt.slice_le _ _ _) (by rw [str_len]; exact hz)
 have fin : ∀ t' k, EP X pins σ Q (.str (Txt.slice ⟨z.toArray⟩ lo hi) t') { s with toks := k } := fun t' k => ⟨.str ⟨(cut z lo hi).toArray⟩, H, I.tok k, ⟨t', by rw [cut_slice]⟩, q⟩
 cases pl with
 | none =>
  cases pu with
  | none => exact wpAny_getItem_str_slice (l := none) (u := none) (st := none) hs rfl (post_val_or_str ⟨hl, fin⟩)
  | int j uj => exact wpAny_getItem_str_slice (l := none) (u := some (j, uj)) (st := none) hs rfl (post_val_or_str ⟨hl, fin⟩)
 | int i ui =>
  cases pu with
  | none => exact wpAny_getItem_str_slice (l := some (i, ui)) (u := none) (st := none) hs rfl (post_val_or_str ⟨hl, fin⟩)
  | int j uj => exact wpAny_getItem_str_slice (l := some (i, ui)) (u := some (j, uj)) (st := none) hs rfl (post_val_or_str ⟨hl, fin⟩)
theorem cutV_cut {K : PySem.W.Frag} {H : Hp} {ds : List D} {vs : List V} (lo hi : Option Int) (r : Reps K H ds vs) : Reps K H (cut ds lo hi) (cutV vs lo hi) := by
 unfold cut cutV
 rw [r.length]
 exact (r.drop _).take _
theorem i_sl {lo hi : Option Expr} {l u : ExO} {p2 : Pos} (ha : PE X a (tP X.K B f)) (hl : PO X lo (tO X.K B l)) (hu : PO X hi (tO X.K B u)) : PE X (.Subscript a (.Slice lo hi none p2) pos) (tI X.K B (eSl f l u)) := by
 refine pe_imp (pe_slice (sl_list.or sl_str) ha hl hu) ?_
 rintro σ H Q ⟨A, st, d, rs, hd, q⟩
 obtain ⟨x, hx, h2⟩ := R.ok_of hd
 obtain ⟨l', hl', h3⟩ := R.ok_of h2
 obtain ⟨u', hu', h4⟩ := R.ok_of h3
 refine ⟨A, st, x, rs, hx, fun v H1 s1 r1 => ⟨A, st, l', rs.mono s1, hl', fun H2 s2 => ⟨A, st, u', rs.mono (s1.trans s2), hu', fun H3 s3 => ?_⟩⟩⟩
 have r3 := r1.mono (s2.trans s3)
 cases x <;> first | (cases h4; done) | skip
 ·obtain ⟨c, h5⟩ := guardR_of h4
  cases h5
  exact .inr ⟨_, r3.str, lim c, q _ H3 (s1.trans (s2.trans s3)) (rep_str.mpr rfl)⟩
 ·cases h4
  obtain ⟨p, vs, e, h6, r6⟩ := r3.lst
  refine .inl ⟨p, vs, e, h6, fun n hn => q _ _ (s1.trans (s2.trans (s3.trans (same_upd hn)))) ?_⟩
  exact rep_new_lst (rs.own.mono (s1.trans (s2.trans s3))) hn (cutV_cut _ _ r6)
end
end Pu
namespace Pu
open PySem PySem.Spec PyProof.Rows L2
def clo (cells : List (Str × Addr)) : List (Str × NameKind) -> List (Str × Addr) -> List (Str × Addr)
 | [], acc => acc
 | (n, k) :: r, acc => if k == .free then clo cells r ((n, (cells.lookup n).getD 0) :: acc) else clo cells r acc
theorem closure_eq {env : Env} : ∀ (names : List (Str × NameKind)) (acc : List (Str × Addr)), (∀ y ∈ names, y.2 = .free -> ∃ c, env.cells.lookup y.1 = some c) ->
  (forIn names acc fun x cs => if x.2 == .free then (do let c <- cellOf env x.1; pure (ForInStep.yield ((x.1, c) :: cs))) else pure (ForInStep.yield cs) : Sem (List (Str × Addr))) = pure (clo env.cells names acc)
 | [], acc, _ => by rw [List.forIn_nil]; rfl
 | (n, k) :: r, acc, h => by
  rw [List.forIn_cons]
  unfold clo
  by_cases hk : k = .free
  ·subst hk
   obtain ⟨c, e⟩ := h (n, .free) List.mem_cons_self rfl
   have e2 : cellOf env n = pure c := by unfold cellOf; rw [e]
   simp only [beq_self_eq_true, if_true, e2, e, Option.getD_some]
   show (forIn r ((n, c) :: acc) _ : Sem (List (Str × Addr))) = _
   exact closure_eq r _ fun y hy => h y (List.mem_cons_of_mem _ hy)
  ·have hb : (k == NameKind.free) = false := by simpa using hk
   simp only [hb, Bool.false_eq_true, if_false]
   show (forIn r acc _ : Sem (List (Str × Addr))) = _
   exact closure_eq r _ fun y hy => h y (List.mem_cons_of_mem _ hy)
theorem closureFor_eq {scope : Scope} {env : Env} (h : ∀ y ∈ scope.names, y.2 = .free -> ∃ c, env.cells.lookup y.1 = some c) : closureFor scope env = pure (clo env.cells scope.names []) := by
 have q := closure_eq (env := env) scope.names [] h
 unfold closureFor
 rw [<- q]
 simp only [pure_bind, bind_pure]
theorem clo_mem {cells : List (Str × Addr)} : ∀ (names : List (Str × NameKind)) (acc : List (Str × Addr)) (x : Str) (c : Addr), (∀ y ∈ names, y.2 = .free -> ∃ c, cells.lookup y.1 = some c) -> (x, c) ∈ clo cells names acc -> ((x, NameKind.free) ∈ names /\ cells.lookup x = some c) \/ (x, c) ∈ acc
 | [], acc, x, c, _, h => .inr h
 | (n, k) :: r, acc, x, c, hn, h => by
  unfold clo at h
  have hr : ∀ y ∈ r, y.2 = .free -> ∃ c, cells.lookup y.1 = some c := fun y hy => hn y (List.mem_cons_of_mem _ hy)
  by_cases hk : k = .free
  ·subst hk
   rw [if_pos (by simp)] at h
   obtain ⟨c', e⟩ := hn (n, .free) List.mem_cons_self rfl
   rcases clo_mem r _ x c hr h with ⟨h1, h2⟩ | h1
   ·exact .inl ⟨List.mem_cons_of_mem _ h1, h2⟩
   ·rcases List.mem_cons.mp h1 with h1 | h1
    ·cases h1
     refine .inl ⟨List.mem_cons_self, ?_⟩
     have e' : cells.lookup n = some c' := e
     rw [e']; rfl
    ·exact .inr h1
  ·rw [if_neg (by simpa using hk)] at h
   rcases clo_mem r _ x c hr h with ⟨h1, h2⟩ | h1
   ·exact .inl ⟨List.mem_cons_of_mem _ h1, h2⟩
   ·exact .inr h1
theorem clo_has {cells : List (Str × Addr)} : ∀ (names : List (Str × NameKind)) (acc : List (Str × Addr)) (x : Str), ((x, NameKind.free) ∈ names \/ ∃ c, (x, c) ∈ acc) -> ∃ c, (x, c) ∈ clo cells names acc
 | [], acc, x, h => by
  rcases h with h | h
  ·cases h
  ·exact h
 | (n, k) :: r, acc, x, h => by
  unfold clo
  by_cases hk : k = .free
  ·subst hk
   rw [if_pos (by simp)]
   refine clo_has r _ x ?_
   rcases h with h | ⟨c, h⟩
   ·rcases List.mem_cons.mp h with h | h
    ·cases h; exact .inr ⟨_, List.mem_cons_self⟩
    ·exact .inl h
   ·exact .inr ⟨c, List.mem_cons_of_mem _ h⟩
  ·rw [if_neg (by simpa using hk)]
   refine clo_has r _ x ?_
   rcases h with h | h
   ·rcases List.mem_cons.mp h with h | h
    ·cases h; exact absurd rfl hk
    ·exact .inl h
   ·exact .inr h
theorem lookup_of_mem {α : Type} : ∀ {l : List (Str × α)} {x : Str} {c : α}, (x, c) ∈ l -> ∃ c', l.lookup x = some c'
 | (n, v) :: r, x, c, h => by
  rw [List.lookup_cons]
  cases hb : x == n with
  | true => exact ⟨v, rfl⟩
  | false =>
   rcases List.mem_cons.mp h with h | h
   ·cases h; simp at hb
   ·exact lookup_of_mem h
theorem relabel_lookup {env : Env} : ∀ (names : List (Str × NameKind)) (x : Str), (names.map fun (n, k) => if (k == NameKind.free && env.scope.kind == .function && env.kindOf n == some .cell) then (n, NameKind.cell) else (n, k)).lookup x =
  (names.lookup x).map fun k => if (k == NameKind.free && env.scope.kind == .function && env.kindOf x == some .cell) then NameKind.cell else k
 | [], _ => rfl
 | (n, k) :: r, x => by
  have ih := @relabel_lookup env r x
  rw [List.map_cons, List.lookup_cons]
  show List.lookup x ((if (k == NameKind.free && env.scope.kind == .function && env.kindOf n == some .cell) = true then (n, NameKind.cell) else (n, k)) :: _) = _
  cases hx : x == n with
  | true =>
   have e : x = n := beq_iff_eq.mp hx
   subst e
   by_cases hc : (k == NameKind.free && env.scope.kind == .function && env.kindOf x == some .cell) = true
   ·rw [if_pos hc, List.lookup_cons, List.lookup_cons, hx]; simp only [Option.map_some]; rw [if_pos hc]
   ·rw [if_neg hc, List.lookup_cons, List.lookup_cons, hx]; simp only [Option.map_some]; rw [if_neg hc]
  | false =>
   by_cases hc : (k == NameKind.free && env.scope.kind == .function && env.kindOf n == some .cell) = true
   ·rw [if_pos hc, List.lookup_cons, List.lookup_cons, hx]; exact ih
   ·rw [if_neg hc, List.lookup_cons, List.lookup_cons, hx]; exact ih
theorem cellsFrom_app : ∀ (names : List (Str × NameKind)) (n : Nat) (acc : List (Str × Addr)), cellsFrom n names acc = cellsFrom n names [] ++ acc
 | [], _, _ => rfl
 | (x, k) :: r, n, acc => by
  unfold cellsFrom
  split
  ·rw [cellsFrom_app r (n + 1) ((x, n) :: acc), cellsFrom_app r (n + 1) [(x, n)], List.append_assoc]; rfl
  ·exact cellsFrom_app r n acc
theorem cellsFrom_in : ∀ (names : List (Str × NameKind)) (n : Nat) (acc : List (Str × Addr)) (x : Str) (c : Addr), (x, c) ∈ cellsFrom n names acc -> (x, c) ∈ acc \/ (x, NameKind.cell) ∈ names
 | [], _, _, _, _, h => .inl h
 | (y, k) :: r, n, acc, x, c, h => by
  unfold cellsFrom at h
  split at h
  ·rename_i hk
   rcases cellsFrom_in r _ _ x c h with z | z
   ·rcases List.mem_cons.mp z with z | z
    ·cases z; exact .inr (by rw [show k = NameKind.cell from by simpa using hk]; exact List.mem_cons_self)
    ·exact .inl z
   ·exact .inr (List.mem_cons_of_mem _ z)
  ·rcases cellsFrom_in r _ _ x c h with z | z
   ·exact .inl z
   ·exact .inr (List.mem_cons_of_mem _ z)
theorem cellsFrom_has : ∀ (names : List (Str × NameKind)) (n : Nat) (acc : List (Str × Addr)) (x : Str), ((x, NameKind.cell) ∈ names \/ ∃ c, (x, c) ∈ acc) -> ∃ c, (x, c) ∈ cellsFrom n names acc
 | [], _, _, x, h => h.elim (fun z => nomatch z) id
 | (y, k) :: r, n, acc, x, h => by
  unfold cellsFrom
  split
  ·refine cellsFrom_has r _ _ x ?_
   rcases h with h | ⟨c, h⟩
   ·rcases List.mem_cons.mp h with h | h
    ·cases h; exact .inr ⟨n, List.mem_cons_self⟩
    ·exact .inl h
   ·exact .inr ⟨c, List.mem_cons_of_mem _ h⟩
  ·rename_i hk
   refine cellsFrom_has r _ _ x ?_
   rcases h with h | h
   ·rcases List.mem_cons.mp h with h | h
    ·cases h; exact absurd rfl hk
    ·exact .inl h
   ·exact .inr h
theorem lookup_app {α : Type} (x : Str) : ∀ (l r : List (Str × α)), (l ++ r).lookup x = (l.lookup x).or (r.lookup x)
 | [], r => by simp
 | (y, v) :: l, r => by
  rw [List.cons_append, List.lookup_cons, List.lookup_cons]
  cases hb : x == y with
  | true => rfl
  | false => exact lookup_app x l r
theorem mem_lookup_nd {α : Type} : ∀ {l : List (Str × α)} {x : Str} {v : α}, (l.map (·.1)).Nodup -> (x, v) ∈ l -> l.lookup x = some v
 | (y, w) :: l, x, v, nd, h => by
  rw [List.map_cons, List.nodup_cons] at nd
  rw [List.lookup_cons]
  rcases List.mem_cons.mp h with h | h
  ·cases h; simp
  ·have hne : (x == y) = false := by
    rw [beq_eq_false_iff_ne]
    intro z
    exact nd.1 (List.mem_map.mpr ⟨(x, v), h, z⟩)
   rw [hne]
   exact mem_lookup_nd nd.2 h
theorem wp_newEnv {M : Model} {A : Around} {E : Value -> Shared -> Prop} {s : Shared} {scope : Scope} {gl : Addr} {cl : List (Str × Addr)} {qual : Str} {env : Env} {Q : Env -> Shared -> Prop}
  (hQ : ∀ h', h'.Ns s.heap.objs.size (fun _ => none) -> (∀ b o, s.heap.get? b = some o -> h'.get? b = some o) -> CellsOk h' (s.heap.objs.size + 1) (cellsFrom (s.heap.objs.size + 1) scope.names []) ->
   Q { scope := scope, locals := s.heap.objs.size, globals := gl, cells := cellsFrom (s.heap.objs.size + 1) scope.names cl, qual := qual, func := none, code := env.code, frame := env.frame, builtins := env.builtins } { s with heap := h' }) :
  wpAny M A (newFunctionEnv scope gl cl [] qual none .none (some env)) Q E s := by
 simp only [newFunctionEnv, Option.isSome_some, if_true]
 refine wpAny_bind (wpAny_alloc (wpAny_bind (wpAny_layCells _ (fun name kind cells => by cases hkc : kind == NameKind.cell <;> simp [hkc]) _ _ _ _ ?_)))
 rw [List.forIn_nil]
 refine wpAny_bind (wpAny_pure (wpAny_pure ?_))
 have ok := cellsFrom_ok scope.names (s.heap.push { cls := .type "dict", data := .dict #[] }) (s.heap.objs.size + 1) [] ⟨fun _ _ hm => (nomatch hm), List.Pairwise.nil⟩ (by rw [Heap.size_push]; exact Nat.le_refl _)
 rw [Heap.size_push] at ok
 have e : ({ s with heap := s.heap.push { cls := .type "dict", data := .dict #[] } } : Shared).heap.objs.size = s.heap.objs.size + 1 := Heap.size_push ..
 rw [e]
 exact hQ _ ((Heap.Ns.new s.heap (.type "dict")).keeps (pushCells_keeps _ _)) (fun b o q => pushCells_keeps _ _ b o (Heap.get?_push_of_some _ q)) ok
structure CScope (X : Cx) (scope : Scope) (is : List Nat) : Prop where
 kind : scope.kind = .function
 nd : (scope.names.map (·.1)).Nodup
 free : ∀ x ∈ scope.names, x.2 = .free -> X.env.kindOf x.1 = some .cell \/ X.env.kindOf x.1 = some .free
 own : ∀ (i : Nat) x, X.N[i]? = some x -> (scope.names.lookup x = some .local \/ scope.names.lookup x = some .cell) -> i ∈ is
section
variable {X : Cx} {scope : Scope} {is : List Nat}
theorem CScope.names (S : CScope X scope is) : ∀ x ∈ scope.names, x.2 = .local -> scope.names.lookup x.1 = some .local := fun x hx e => mem_lookup_nd S.nd (by rw [<- e]; exact hx)
def compCx (X : Cx) (scope : Scope) (C : Addr) (s₀ : Shared) (H₀ : Hp) (fp : List Addr) : Cx :=
 { X with s₀ := s₀, H₀ := H₀, env := compEnvC scope (cellsFrom (C + 1) scope.names (clo X.env.cells scope.names [])) C X.env, outer := X.stack, stack := X.stack, ex := fp, fn := fun x => scope.names.lookup x == some .cell, pn := [], xe := fun _ _ => False, calm := true }
theorem CScope.cells (S : CScope X scope is) (ok : X.Ok) : ∀ y ∈ scope.names, y.2 = .free -> ∃ c, X.env.cells.lookup y.1 = some c := fun y hy hf => ok.has y.1 (S.free y hy hf)
theorem CScope.lk (S : CScope X scope is) (ok : X.Ok) {n : Nat} {x : Str} {c : Addr} (h : (cellsFrom n scope.names (clo X.env.cells scope.names [])).lookup x = some c) :
  ((cellsFrom n scope.names []).lookup x = some c /\ scope.names.lookup x = some .cell) \/ (scope.names.lookup x = some .free /\ X.env.cells.lookup x = some c) := by
 rw [cellsFrom_app, lookup_app] at h
 cases e : (cellsFrom n scope.names []).lookup x with
 | some c' =>
  rw [e] at h
  cases h
  rcases cellsFrom_in _ _ _ _ _ (PySem.mem_of_lookup e) with z | z
  ·cases z
  ·exact .inl ⟨rfl, mem_lookup_nd S.nd z⟩
 | none =>
  rw [e] at h
  have h : (clo X.env.cells scope.names []).lookup x = some c := h
  rcases clo_mem scope.names [] x c (S.cells ok) (PySem.mem_of_lookup h) with ⟨h1, h2⟩ | h2
  ·exact .inr ⟨mem_lookup_nd S.nd h1, h2⟩
  ·cases h2
def clrS (is : List Nat) (σ : LSt) : LSt := is.foldl (fun τ i => τ.set i none) σ
theorem clrS_len (is : List Nat) : ∀ σ : LSt, (clrS is σ).length = σ.length := by
 induction is with
 | nil => exact fun _ => rfl
 | cons i is ih => intro σ; show (clrS is (σ.set i none)).length = _; rw [ih, List.length_set]
theorem clrS_get (is : List Nat) : ∀ (σ : LSt) (j : Nat) (v : V), (clrS is σ)[j]? = some (some v) -> σ[j]? = some (some v) /\ j ∉ is := by
 induction is with
 | nil => exact fun σ j v h => ⟨h, by simp⟩
 | cons i is ih =>
  intro σ j v h
  obtain ⟨h1, h2⟩ := ih (σ.set i none) j v h
  rw [List.getElem?_set] at h1
  by_cases e : i = j
  ·subst e
   rw [if_pos rfl] at h1
   split at h1 <;> cases h1
  ·rw [if_neg e] at h1
   exact ⟨h1, fun z => (List.mem_cons.mp z).elim (fun z => e z.symm) h2⟩
theorem comp_start {pins : List (Addr × Obj)} {σ : LSt} {H : Hp} {s : Shared} {fp : List Addr} {h' : Heap} {t' : Nat} (S : CScope X scope is) (hc : X.calm = true) (I : Inv X pins σ H s) (hf : ∀ b ∈ fp, FpOk X pins H b) (hlt : ∀ b ∈ fp, b < s.heap.objs.size)
  (hn : h'.Ns s.heap.objs.size fun _ => none) (hk : ∀ b o, s.heap.get? b = some o -> h'.get? b = some o) (hcl : CellsOk h' (s.heap.objs.size + 1) (cellsFrom (s.heap.objs.size + 1) scope.names [])) :
  Inv (compCx X scope s.heap.objs.size s H fp) [] (clrS is σ) H { s with heap := h', toks := t' } := by
 have lk := @CScope.lk X scope is S I.ok (s.heap.objs.size + 1)
 have nf : ∀ b ∈ fp, b ≠ s.heap.objs.size := fun b hb => Nat.ne_of_lt (hlt b hb)
 have cellLt : ∀ x c, X.env.cells.lookup x = some c -> c < s.heap.objs.size := fun x c e => by
  obtain ⟨v, q⟩ := I.cell x c e
  exact q.lt
 have ownGe : ∀ x c, (cellsFrom (s.heap.objs.size + 1) scope.names []).lookup x = some c -> s.heap.objs.size + 1 <= c := fun x c e => (hcl.empty x c (PySem.mem_of_lookup e)).2
 have has : ∀ x k, (k = .cell \/ k = .free) -> scope.names.lookup x = some k -> ∃ c, (cellsFrom (s.heap.objs.size + 1) scope.names (clo X.env.cells scope.names [])).lookup x = some c := fun x k hk e => by
  have hm := PySem.mem_of_lookup e
  rcases hk with rfl | rfl
  ·obtain ⟨c, q⟩ := cellsFrom_has scope.names (s.heap.objs.size + 1) (clo X.env.cells scope.names []) x (.inl hm)
   exact lookup_of_mem q
  ·obtain ⟨c, q⟩ := cellsFrom_has scope.names (s.heap.objs.size + 1) (clo X.env.cells scope.names []) x (.inr (clo_has (cells := X.env.cells) scope.names [] x (.inl hm)))
   exact lookup_of_mem q
 have knd : ∀ x, (relabel scope X.env).names.lookup x = some .cell \/ (relabel scope X.env).names.lookup x = some .free -> scope.names.lookup x = some .cell \/ scope.names.lookup x = some .free := fun x hx => by
  unfold relabel at hx
  rw [relabel_lookup] at hx
  cases e : scope.names.lookup x with
  | none => rw [e] at hx; rcases hx with hx | hx <;> cases hx
  | some k =>
   rw [e] at hx
   simp only [Option.map_some] at hx
   by_cases hc : (k == NameKind.free && X.env.scope.kind == .function && X.env.kindOf x == some .cell) = true
   ·simp only [Bool.and_eq_true, beq_iff_eq] at hc
    exact .inr (by rw [hc.1.1])
   ·rw [if_neg hc] at hx; exact hx
 refine ⟨⟨I.ok.mod, ?_, I.ok.glob, I.ok.blt, Nat.le_refl _, fun x y c h1 h2 => ?_, fun x hx => ?_, fun x c hfn e => ?_, fun _ => I.ok.hd hc, I.ok.frames, .inl rfl, fun b hb => ⟨nf b hb, fun x c e z => ?_⟩, I.bs, ?_, fun b o e hb => ?_, fun b hb z => ?_, I.stack, I.stkFree⟩,
  rfl, I.bare, Un.kept hk, ⟨_, hn, fun i x v e1 e2 e3 => ?_⟩, fun x c e => ?_, I.hok.fresh (Nat.le_refl _), fun x c e => ?_, (fun p hp => absurd (show p ∈ ([] : List (Addr × Obj)) from hp) (by simp)), I.hok.kept hk, by rw [clrS_len]; exact I.len⟩
 ·show (relabel scope X.env).kind = .function
  exact S.kind
 ·rcases lk h1 with ⟨a1, _⟩ | ⟨_, a1⟩ <;> rcases lk h2 with ⟨a2, _⟩ | ⟨_, a2⟩
  ·exact name_of_addr hcl.apart (PySem.mem_of_lookup a1) (PySem.mem_of_lookup a2)
  ·exact absurd (Nat.lt_of_lt_of_le (cellLt y c a2) (Nat.le_of_succ_le (ownGe x c a1))) (Nat.lt_irrefl _)
  ·exact absurd (Nat.lt_of_lt_of_le (cellLt x c a1) (Nat.le_of_succ_le (ownGe y c a2))) (Nat.lt_irrefl _)
  ·exact I.ok.inj x y c a1 a2
 ·rcases knd x hx with e | e
  ·exact has x _ (.inl rfl) e
  ·exact has x _ (.inr rfl) e
 ·have hfn : scope.names.lookup x = some .cell := beq_iff_eq.mp hfn
  rcases lk e with ⟨a1, _⟩ | ⟨a1, _⟩
  ·have := ownGe x c a1
   show s.heap.objs.size <= c
   omega
  ·rw [hfn] at a1; cases a1
 ·rcases lk e with ⟨a1, _⟩ | ⟨_, a1⟩
  ·have h2 := hlt b hb
   rw [<- z] at h2
   exact absurd (Nat.lt_of_lt_of_le h2 (Nat.le_of_succ_le (ownGe x c a1))) (Nat.lt_irrefl _)
  ·exact (hf b hb).2.2.2.2.1 x c a1 z
 ·exact Nat.le_trans I.ok.bsz I.sz
 ·rcases (hf b hb).2.2.2.1 with z | z
  ·exact I.ok.noex b o e z
  ·exact absurd (Nat.lt_of_lt_of_le (Heap.lt_size e) (Nat.le_trans I.ok.bsz z)) (Nat.lt_irrefl _)
 ·rcases List.mem_cons.mp (I.stkSub b z) with z | z
  ·exact (hf b hb).2.1 z
  ·exact (hf b hb).2.2.1 z
 ·obtain ⟨e2, hni⟩ := clrS_get is σ i v e2
  have e3 : (relabel scope X.env).names.lookup x = some .local \/ (relabel scope X.env).names.lookup x = some .cell \/ (relabel scope X.env).names.lookup x = some .free := e3
  have hfr : scope.names.lookup x = some .free := by
   have e4 := e3
   unfold relabel at e4
   rw [relabel_lookup] at e4
   cases e : scope.names.lookup x with
   | none => rw [e] at e4; rcases e4 with e4 | e4 | e4 <;> cases e4
   | some k =>
    rw [e] at e4
    simp only [Option.map_some] at e4
    by_cases hc : (k == NameKind.free && X.env.scope.kind == .function && X.env.kindOf x == some .cell) = true
    ·simp only [Bool.and_eq_true, beq_iff_eq] at hc
     rw [hc.1.1]
    ·rw [if_neg hc] at e4
     rcases e4 with e4 | e4 | e4
     ·exact absurd (S.own i x e1 (.inl (by rw [e, e4]))) hni
     ·exact absurd (S.own i x e1 (.inr (by rw [e, e4]))) hni
     ·exact e4
  have hrel : (relabel scope X.env).names.lookup x = some .cell \/ (relabel scope X.env).names.lookup x = some .free := by
   rcases e3 with e3 | e3 | e3
   ·unfold relabel at e3
    rw [relabel_lookup, hfr] at e3
    simp only [Option.map_some] at e3
    split at e3 <;> cases e3
   ·exact .inl e3
   ·exact .inr e3
  have hvis := S.free _ (PySem.mem_of_lookup hfr) rfl
  obtain ⟨m, hm, hl⟩ := I.loc
  obtain ⟨u, ru, lu⟩ := hl i x v e1 e2 (.inr hvis)
  refine ⟨u, ru, .inr ⟨hrel, ?_⟩⟩
  rcases lu with ⟨k1, _⟩ | ⟨_, c, ec, zc⟩
  ·have k1 : X.env.kindOf x = some .local := k1
   rcases hvis with q | q <;> rw [k1] at q <;> cases q
  ·obtain ⟨c2, e5⟩ := has x _ (.inr rfl) hfr
   rcases lk e5 with ⟨_, a1⟩ | ⟨_, a1⟩
   ·rw [hfr] at a1; cases a1
   ·rw [ec] at a1
    cases a1
    exact ⟨c, e5, zc.keeps hk⟩
 ·rcases lk e with ⟨a1, _⟩ | ⟨_, a1⟩
  ·exact ⟨_, (hcl.empty x c (PySem.mem_of_lookup a1)).1⟩
  ·obtain ⟨v, q⟩ := I.cell x c a1
   exact ⟨v, q.keeps hk⟩
 ·rcases lk e with ⟨a1, _⟩ | ⟨_, a1⟩
  ·exact I.hok.fresh (by have := ownGe x c a1; omega)
  ·exact I.freeC x c a1
end
end Pu
namespace Pu
open PySem PySem.Spec PyProof.Rows L2
theorem compTurn_list2 (elt target iter c : Expr) (scope : Scope) (pos : Pos) (it acc : Value) (env : Env) :
  compTurn (.ListComp elt [⟨target, iter, [c], 0⟩] scope pos) 0 it acc env = (standAt iter.pos >>= fun _ => pyNext it >>= fun r => match r with
   | none => pure (.done .next)
   | some v => letOwnedTupleGo target it v >>= fun _ => assign target env v >>= fun _ => isTrue c env (eval c env) >>= fun ok =>
    if ok = true then (eval elt env >>= fun x => call (.builtin "list.append") [acc, x] >>= fun _ => again (.compLoop (.ListComp elt [⟨target, iter, [c], 0⟩] scope pos) 0 it acc env))
    else again (.compLoop (.ListComp elt [⟨target, iter, [c], 0⟩] scope pos) 0 it acc env)) := by
 unfold compTurn
 simp [List.forIn_cons, List.forIn_nil]
 rfl
theorem compTurn_list1' (elt target iter : Expr) (scope : Scope) (pos : Pos) (it acc : Value) (env : Env) :
  compTurn (.ListComp elt [⟨target, iter, [], 0⟩] scope pos) 0 it acc env = (standAt iter.pos >>= fun _ => pyNext it >>= fun r => match r with
   | none => pure (.done .next)
   | some v => letOwnedTupleGo target it v >>= fun _ => assign target env v >>= fun _ =>
    (eval elt env >>= fun x => call (.builtin "list.append") [acc, x] >>= fun _ => again (.compLoop (.ListComp elt [⟨target, iter, [], 0⟩] scope pos) 0 it acc env))) := by
 unfold compTurn
 simp [List.forIn_nil]
 rfl
section
variable {X : Cx} {scope : Scope} {is : List Nat} {elt tg iter : Expr} {pos : Pos} {wi : TI} {g : TG} {te : TE} {tt : TT}
def tLC (is : List Nat) (wi : TI) (g : TG) (tt : TT) (te : TE) : TE := fun σ H Q => wi σ H fun J H1 => ∀ p, H1 p = none -> ∃ W : Nat -> Nat -> LSt -> List V -> Hp -> Prop, (∃ m, W 0 m (clrS is σ) [] (upd H1 p (.lst []))) /\
 ∀ i m τ vs H, W i m τ vs H -> H p = some (.lst vs) /\ ((J.stop i H /\ Q (.ref p) H) \/ (J.go i H /\ ∀ x H', J.yld i H x H' -> g x τ H' fun τ2 H2 => tt τ2 H2 fun k H3 =>
  if k = true then te τ2 H3 fun y H4 => H4 p = some (.lst vs) /\ vs.length < sizeLine /\ ∃ m', m' < m /\ W (i + 1) m' τ2 (vs ++ [y]) (upd H4 p (.lst (vs ++ [y]))) else ∃ m', m' < m /\ W (i + 1) m' τ2 vs H3))
theorem inv_end {pins : List (Addr × Obj)} {σ σ5 : LSt} {H H5 : Hp} {s s5 : Shared} {fp : List Addr} {C : Addr} {h' : Heap} (I : Inv X pins σ H s) (hf : ∀ b ∈ fp, FpOk X pins H b) (hC : s.heap.objs.size <= C) (J : Inv (compCx X scope C s H fp) [] σ5 H5 s5)
  (hs : Heap.SameBut C s5.heap h') : Inv X pins σ H5 { s5 with heap := h' } := by
 have hfree : H5 C = none := J.free
 have ne : ∀ b o, s.heap.get? b = some o -> b ≠ C := fun b o e z => by
  have := Heap.lt_size e
  subst z
  exact absurd (Nat.lt_of_lt_of_le this hC) (Nat.lt_irrefl _)
 have u : Un (frs X.stack) fp H H5 s.heap h' := ⟨fun b o e n hb hx => hs.extBut b o (ne b o e) (J.base.keep b o e n hb hx), fun b o e n hb hx => by
   obtain ⟨sl, q⟩ := J.base.slot b o e n hb hx
   exact ⟨sl, hs.extBut b _ (ne b o e) q⟩, J.base.free, fun b o e hx => by
   obtain ⟨o', q⟩ := J.base.there b o e hx
   exact ⟨o', hs.extBut b _ (ne b o e) q⟩, J.base.tups, J.base.frzs, J.base.tbls⟩
 have hok : HOk X.prog X.w H5 h' := fun b o e => by
  refine (J.hok b o e).stay (fun c v hc q => hs.extBut c v ?_ q) (fun _ q => q) fun _ _ q => q
  rintro rfl
  rcases hc with z | z
  ·subst z; rw [hfree] at e; cases e
  ·rw [hfree] at z; cases z
 obtain ⟨hh, gg, dd, tt, os⟩ := s5
 have hos : os = s.os := J.os
 subst hos
 have fin := I.call (h' := h') (g' := gg) (d' := dd) (t' := tt) (ch := fp) u hok J.bare fun b hb => ⟨(hf b hb).2.2.2.1, (hf b hb).2.1, (hf b hb).2.2.2.2.1, (hf b hb).2.2.2.2.2⟩
 exact fin
theorem comp_emit {Y : Cx} {pins : List (Addr × Obj)} {τ : LSt} {H : Hp} {s : Shared} {p : Addr} {vs : List V} {α : Type} {k : Sem α} {Q : α -> Shared -> Prop} {E : Value -> Shared -> Prop} (he : PE Y elt te) (hx : ∀ e s', Y.xe e s' -> E e s') (I : Inv Y pins τ H s) (hw : te τ H fun y H4 => H4 p = some (.lst vs) /\ vs.length < sizeLine /\ ∀ s', Inv Y pins τ (upd H4 p (.lst (vs ++ [y]))) s' -> wpAny (model Y.prog Y.w) Y.A k Q E s') :
  wpAny (model Y.prog Y.w) Y.A (eval elt Y.env >>= fun x => call (.builtin "list.append") [.ref p, x] >>= fun _ => k) Q E s := by
 refine wpAny_bind (wpAny_mono (he pins s τ H _ I hw) (fun u s1 ⟨y, H4, I4, r4, hp, hz, q⟩ => ?_) hx)
 obtain ⟨z, its, n, r, hl, e⟩ := I4.lstM hp
 refine wpAny_bind (call_meets PySem.F.slot_list_append ⟨_, e, rfl⟩ PySem.F.entry_list_append (PySem.F.args_list_append_2 _ _) (PySem.list_append p its.toArray n u (by rw [List.size_toArray]; omega)) ⟨e, ?_⟩)
 refine q _ (I4.lset (its' := its ++ [u]) (t' := s1.toks) hp e (by simp) (r.append (.cons r4 .nil)) ?_)
 rw [List.length_append, List.length_singleton]
 omega
end
theorem comp_loop {Y : Cx} {e tg : Expr} {env : Env} {g : TG} {te : TE} {tt : TT} {it p : Addr} {fp : List Addr} {tn : Nat -> Heap -> Prop} {J : It} {R : Result -> Shared -> Prop} {iterPos : Pos} {rest : Sem Fin}
  (T : Turn Y.prog Y.w Y.K tg J fp it tn) (hc : Y.calm = true) (hE : Y.xe = fun _ _ => False) (hg : PG Y tg g) (hq : (Code.compLoop e 0 (.ref it) (.ref p) Y.env).quiet = true)
  (hden : ∀ (s : Shared) (Q : Fin -> Shared -> Prop), wpAny (model Y.prog Y.w) Y.A (pyNext (.ref it) >>= fun r => match r with
    | none => pure (.done .next)
    | some v => letOwnedTupleGo tg (.ref it) v >>= fun _ => assign tg Y.env v >>= fun _ => rest) Q (fun _ _ => False) s ->
   wpAny (model Y.prog Y.w) (Y.A.under (.compLoop e 0 (.ref it) (.ref p) Y.env)) ((model Y.prog Y.w).den (.compLoop e 0 (.ref it) (.ref p) Y.env)) Q (fun _ _ => False) s)
  (hrest : ∀ (τ : LSt) (H : Hp) (s : Shared) (pins : List (Addr × Obj)) (vs : List V) (N : Hp -> List V -> Prop) (Q : Fin -> Shared -> Prop), Inv Y pins τ H s ->
   (tt τ H fun k H3 => if k = true then te τ H3 fun y H4 => H4 p = some (.lst vs) /\ vs.length < sizeLine /\ N (upd H4 p (.lst (vs ++ [y]))) (vs ++ [y]) else N H3 vs) ->
   (∀ s' H' ws, Inv Y pins τ H' s' -> N H' ws -> Q (.again (.compLoop e 0 (.ref it) (.ref p) Y.env)) s') -> wpAny (model Y.prog Y.w) Y.A rest Q (fun _ _ => False) s)
  (W : Nat -> Nat -> LSt -> List V -> Hp -> Prop) {Qe : Hp -> Prop}
  (step : ∀ i m τ vs H, W i m τ vs H -> H p = some (.lst vs) /\ ((J.stop i H /\ Qe H) \/ (J.go i H /\ ∀ x H', J.yld i H x H' -> g x τ H' fun τ2 H2 => tt τ2 H2 fun k H3 =>
   if k = true then te τ2 H3 fun y H4 => H4 p = some (.lst vs) /\ vs.length < sizeLine /\ ∃ m', m' < m /\ W (i + 1) m' τ2 (vs ++ [y]) (upd H4 p (.lst (vs ++ [y]))) else ∃ m', m' < m /\ W (i + 1) m' τ2 vs H3)))
  (hR : ∀ τ H s, Inv Y [] τ H s -> Qe H -> R (.ok .next) s) {s : Shared} {τ : LSt} {H : Hp} {vs : List V} {i m : Nat} (I : Inv Y [] τ H s) (st : tn i s.heap) (fr : ∀ b ∈ fp, FpOk Y [] H b) (w : W i m τ vs H) :
  codeAny (model Y.prog Y.w) Y.A (.compLoop e 0 (.ref it) (.ref p) Y.env) R s := by
 have stat : ∀ {H' : Hp}, (∀ b ∈ fp, H' b = none) -> ∀ b ∈ fp, FpOk Y [] H' b := fun hn b hb => ⟨hn b hb, (fr b hb).2⟩
 refine codeAny_loop hq (fun n s' => ∃ i τ' vs' H', Inv Y [] τ' H' s' /\ tn i s'.heap /\ (∀ b ∈ fp, H' b = none) /\ W i n τ' vs' H') (fun n s3 hI => ?_) m ⟨i, τ, vs, H, I, st, fun b hb => (fr b hb).1, w⟩
 obtain ⟨i, τ3, vs3, H3, I3, st3, fr3, w3⟩ := hI
 refine wpAny_mono (hden s3 _ ?_) (fun _ _ q => q) (fun _ _ q => q.elim)
 obtain ⟨hp, hs⟩ := step i n τ3 vs3 H3 w3
 rcases hs with ⟨stop, qe⟩ | ⟨go, hs⟩
 ·refine wpAny_bind (thn (T.done Y rfl rfl rfl hc i [] s3 τ3 H3 (fun _ _ => False) I3 (stat fr3) st3 stop) fun r s4 ⟨hr, I4⟩ => ?_)
  subst hr
  exact wpAny_pure (hR τ3 H3 s4 I4 qe)
 ·refine wpAny_bind (thn (T.item Y rfl rfl rfl hc i [] s3 τ3 H3 (fun _ _ => False) I3 (stat fr3) st3 go) fun r s4 ⟨u, hr, h4⟩ => ?_)
  subst hr
  refine wpAny_bind (thn h4 fun _ s5 ⟨x, H5, I5, r5, y5, st5, fr5⟩ => ?_)
  have I5' := I5.pinned (stat fr5) (T.obj _ _ st5)
  have hg' := hg _ s5 τ3 H5 x u _ I5' r5 (hs x H5 y5)
  rw [hE] at hg'
  refine wpAny_bind (thn hg' fun _ s6 ⟨τ6, H6, I6, q6⟩ => ?_)
  refine hrest τ6 H6 s6 _ vs3 (fun H' ws => ∃ m', m' < n /\ W (i + 1) m' τ6 ws H') _ I6 q6 fun s7 H7 ws I7 ⟨m', hm, w7⟩ => ?_
  refine ⟨rfl, m', hm, i + 1, τ6, ws, H7, I7.unpinned, T.keep _ _ _ st5 fun b hb o e => (I7.pin (b, o) (List.mem_append_right _ (List.mem_append_right _ (mem_pinsAt hb e)))).1, fun b hb => ?_, w7⟩
  obtain ⟨o, e, d⟩ := T.obj _ _ st5 b hb
  exact (I7.pin (b, o) (List.mem_append_right _ (List.mem_append_right _ (mem_pinsAt hb e)))).2.1
end Pu
namespace Pu
open PySem PySem.Spec PyProof.Rows L2
section
variable {X : Cx} {scope : Scope} {is : List Nat} {elt tg iter c : Expr} {pos : Pos} {wi : TI} {g : TG} {te : TE} {tt : TT}
theorem comp_core {use : Option (Value -> Sem Unit)} {Qf : Value -> Shared -> Prop} {ppos : Pos} {pins : List (Addr × Obj)} {s : Shared} {σ : LSt} {H : Hp} {Q : VK} {ifs : List Expr} {rest : Env -> Value -> Value -> Sem Fin} (S : CScope X scope is) (hc : X.calm = true) (hi : L2.PI X tg iter wi) (hg : ∀ C s₀ H₀ fp, PG (compCx X scope C s₀ H₀ fp) tg g)
  (hquiet : ∀ it acc env, (Code.compLoop (.ListComp elt [⟨tg, iter, ifs, 0⟩] scope pos) 0 it acc env).quiet = true)
  (hden : ∀ C s₀ H₀ fp it p (s : Shared) (Q : Fin -> Shared -> Prop), wpAny (model X.prog X.w) X.A (pyNext (.ref it) >>= fun r => match r with
    | none => pure (.done .next)
    | some v => letOwnedTupleGo tg (.ref it) v >>= fun _ => assign tg (compCx X scope C s₀ H₀ fp).env v >>= fun _ => rest (compCx X scope C s₀ H₀ fp).env (.ref it) (.ref p)) Q (fun _ _ => False) s ->
   wpAny (model X.prog X.w) (X.A.under (.compLoop (.ListComp elt [⟨tg, iter, ifs, 0⟩] scope pos) 0 (.ref it) (.ref p) (compCx X scope C s₀ H₀ fp).env)) ((model X.prog X.w).den (.compLoop (.ListComp elt [⟨tg, iter, ifs, 0⟩] scope pos) 0 (.ref it) (.ref p) (compCx X scope C s₀ H₀ fp).env)) Q (fun _ _ => False) s)
  (hrest : ∀ C s₀ H₀ fp it p (τ : LSt) (H : Hp) (s : Shared) (pins : List (Addr × Obj)) (vs : List V) (N : Hp -> List V -> Prop) (Q : Fin -> Shared -> Prop), Inv (compCx X scope C s₀ H₀ fp) pins τ H s ->
   (tt τ H fun k H3 => if k = true then te τ H3 fun y H4 => H4 p = some (.lst vs) /\ vs.length < sizeLine /\ N (upd H4 p (.lst (vs ++ [y]))) (vs ++ [y]) else N H3 vs) ->
   (∀ s' H' ws, Inv (compCx X scope C s₀ H₀ fp) pins τ H' s' -> N H' ws -> Q (.again (.compLoop (.ListComp elt [⟨tg, iter, ifs, 0⟩] scope pos) 0 (.ref it) (.ref p) (compCx X scope C s₀ H₀ fp).env)) s') ->
   wpAny (model X.prog X.w) X.A (rest (compCx X scope C s₀ H₀ fp).env (.ref it) (.ref p)) Q (fun _ _ => False) s)
  (hs : ∀ x, foldedSetIterable iter X.env x = pure x) (I : Inv X pins σ H s) (h : tLC is wi g tt te σ H Q)
  (hfin : ∀ C p H5 s5 m5 s3 H3 fp τ, s3.heap.objs.size <= C -> Inv X pins σ H3 s3 -> (∀ b ∈ fp, FpOk X pins H3 b) -> Inv (compCx X scope C s3 H3 fp) [] τ H5 s5 -> s5.heap.Ns C m5 -> Q (.ref p) H5 -> compPost (model X.prog X.w) X.A X.xe use Qf (.ref p) C (.ok .next) s5) :
  wpAny (model X.prog X.w) X.A (comprehension (.ListComp elt [⟨tg, iter, ifs, 0⟩] scope pos) scope X.env ppos (newList []) false (eval iter X.env) use) Qf X.xe s := by
 refine wpAny_comprehension_free (use := use) rfl hs (closureFor_eq (S.cells I.ok)) S.kind S.names ?_
 refine thn (hi pins s σ H _ I h) fun v s1 h1 => thn h1 fun itv s2 h2 => ?_
 obtain ⟨it, fp, tn, J, H2, e, I2, T, st2, f2, hW⟩ := h2
 subst e
 refine wpAny_newObj_type (wp_newEnv fun h₁ hns₁ hkp hcl₁ => ?_)
 have I3 : Inv X pins σ (upd H2 s2.heap.objs.size (.lst [])) { s2 with heap := s2.heap.push { cls := .type "list", data := .seq ([] : List Value).toArray } } := I2.lnew (t' := s2.toks) .nil (Nat.zero_le _)
 obtain ⟨W, ⟨m, w0⟩, step⟩ := hW s2.heap.objs.size I2.fresh
 have hob : ∀ b ∈ fp, b < s2.heap.objs.size := fun b hb => let ⟨o, e, _⟩ := T.obj 0 _ st2 b hb; Heap.lt_size e
 have hfp : ∀ b ∈ fp, FpOk X pins (upd H2 s2.heap.objs.size (.lst [])) b := fun b hb => ⟨by rw [upd_ne (Nat.ne_of_lt (hob b hb))]; exact (f2 b hb).1, (f2 b hb).2⟩
 have hk : ∀ b o, (s2.heap.push { cls := .type "list", data := .seq ([] : List Value).toArray }).get? b = some o -> h₁.get? b = some o := hkp
 have Ic := comp_start (t' := s2.toks) S hc I3 hfp (fun b hb => Nat.lt_of_lt_of_le (hob b hb) (by rw [Heap.size_push]; exact Nat.le_succ _)) hns₁ hk hcl₁
 have st4 : tn 0 h₁ := T.keep 0 _ _ st2 fun b _ o e => hk b o (Heap.get?_push_of_some _ e)
 have fr4 : ∀ b ∈ fp, FpOk (compCx X scope _ _ _ fp) [] (upd H2 s2.heap.objs.size (.lst [])) b := fun b hb => ⟨(hfp b hb).1, (Ic.ok.exf b hb).1, Ic.ok.exfs b hb, .inl hb, fun x c e => (Ic.ok.exf b hb).2 x c e, fun p hp => absurd (show p ∈ ([] : List (Addr × Obj)) from hp) (by simp)⟩
 have loop := comp_loop (Y := compCx X scope _ _ _ fp) (e := .ListComp elt [⟨tg, iter, ifs, 0⟩] scope pos) (env := X.env) (iterPos := pos) T rfl rfl (hg _ _ _ fp) (hquiet _ _ _) (hden _ _ _ fp it s2.heap.objs.size) (hrest _ _ _ fp it s2.heap.objs.size) W step
  (R := compPost (model X.prog X.w) X.A X.xe use Qf (.ref s2.heap.objs.size) (s2.heap.push { cls := .type "list", data := .seq ([] : List Value).toArray }).objs.size) (fun τ H5 s5 I5 q5 => by
   obtain ⟨m5, hn5, _⟩ := I5.loc
   exact hfin _ _ H5 s5 m5 _ _ fp τ (Nat.le_refl _) I3 hfp I5 hn5 q5) Ic st4 fr4 w0
 exact codeAny_compStart_list loop (T.self _ 0 _ _ _ st4 loop)
theorem quiet_comp {e : Expr} {it acc : Value} {env : Env} : (Code.compLoop e 0 it acc env).quiet = true := rfl
theorem den0 {Y : Cx} {it p : Addr} {s : Shared} {Q : Fin -> Shared -> Prop} (h : wpAny (model X.prog X.w) X.A (pyNext (.ref it) >>= fun r => match r with
        | none => pure (.done .next)
        | some v => letOwnedTupleGo tg (.ref it) v >>= fun _ => assign tg Y.env v >>= fun _ => (eval elt Y.env >>= fun x => call (.builtin "list.append") [.ref p, x] >>= fun _ => again (.compLoop (.ListComp elt [⟨tg, iter, [], 0⟩] scope pos) 0 (.ref it) (.ref p) Y.env))) Q (fun _ _ => False) s) :
      wpAny (model X.prog X.w) (X.A.under (.compLoop (.ListComp elt [⟨tg, iter, [], 0⟩] scope pos) 0 (.ref it) (.ref p) Y.env)) ((model X.prog X.w).den (.compLoop (.ListComp elt [⟨tg, iter, [], 0⟩] scope pos) 0 (.ref it) (.ref p) Y.env)) Q (fun _ _ => False) s := by
 show wpAny _ _ ((compTurn (.ListComp elt [⟨tg, iter, [], 0⟩] scope pos) 0 (.ref it) (.ref p) Y.env).onRaise (fun x => do noteFrame x Y.env; theTreesLotGoes x)) _ _ s
 refine wpAny_noted ?_
 rw [compTurn_list1']
 exact wpAny_bind (wpAny_standAt (wpAny_mono h (fun _ _ q => q) fun _ _ q => q.elim))
theorem den1 {Y : Cx} {it p : Addr} {s : Shared} {Q : Fin -> Shared -> Prop} (h : wpAny (model X.prog X.w) X.A (pyNext (.ref it) >>= fun r => match r with
        | none => pure (.done .next)
        | some v => letOwnedTupleGo tg (.ref it) v >>= fun _ => assign tg Y.env v >>= fun _ => (isTrue c Y.env (eval c Y.env) >>= fun ok => if ok = true then (eval elt Y.env >>= fun x => call (.builtin "list.append") [.ref p, x] >>= fun _ => again (.compLoop (.ListComp elt [⟨tg, iter, [c], 0⟩] scope pos) 0 (.ref it) (.ref p) Y.env))
          else again (.compLoop (.ListComp elt [⟨tg, iter, [c], 0⟩] scope pos) 0 (.ref it) (.ref p) Y.env))) Q (fun _ _ => False) s) :
      wpAny (model X.prog X.w) (X.A.under (.compLoop (.ListComp elt [⟨tg, iter, [c], 0⟩] scope pos) 0 (.ref it) (.ref p) Y.env)) ((model X.prog X.w).den (.compLoop (.ListComp elt [⟨tg, iter, [c], 0⟩] scope pos) 0 (.ref it) (.ref p) Y.env)) Q (fun _ _ => False) s := by
 show wpAny _ _ ((compTurn (.ListComp elt [⟨tg, iter, [c], 0⟩] scope pos) 0 (.ref it) (.ref p) Y.env).onRaise (fun x => do noteFrame x Y.env; theTreesLotGoes x)) _ _ s
 refine wpAny_noted ?_
 rw [compTurn_list2]
 exact wpAny_bind (wpAny_standAt (wpAny_mono h (fun _ _ q => q) fun _ _ q => q.elim))
def tAlways : TT := fun _ H Q => Q true H
theorem rest0 {Y : Cx} (hY : Y.xe = fun _ _ => False) (he : PE Y elt te) {it p : Addr} (τ : LSt) (H : Hp) (s : Shared) (pins : List (Addr × Obj)) (vs : List V) (N : Hp -> List V -> Prop) (Q : Fin -> Shared -> Prop) (I : Inv Y pins τ H s)
  (h : tAlways τ H fun k H3 => if k = true then te τ H3 fun y H4 => H4 p = some (.lst vs) /\ vs.length < sizeLine /\ N (upd H4 p (.lst (vs ++ [y]))) (vs ++ [y]) else N H3 vs)
  (mono : ∀ (Q Q' : VK), (∀ v H', Q v H' -> Q' v H') -> te τ H Q -> te τ H Q')
  (q : ∀ s' H' ws, Inv Y pins τ H' s' -> N H' ws -> Q (.again (.compLoop (.ListComp elt [⟨tg, iter, [], 0⟩] scope pos) 0 (.ref it) (.ref p) Y.env)) s') :
  wpAny (model Y.prog Y.w) Y.A (eval elt Y.env >>= fun x => call (.builtin "list.append") [.ref p, x] >>= fun _ => again (.compLoop (.ListComp elt [⟨tg, iter, [], 0⟩] scope pos) 0 (.ref it) (.ref p) Y.env)) Q (fun _ _ => False) s := by
 have h' : te τ H fun y H4 => H4 p = some (.lst vs) /\ vs.length < sizeLine /\ N (upd H4 p (.lst (vs ++ [y]))) (vs ++ [y]) := h
 exact comp_emit he (by rw [hY]; exact fun _ _ z => z) I (mono _ _ (fun y H4 ⟨a, b, n⟩ => ⟨a, b, fun s' I' => wpAny_pure (q s' _ _ I' n)⟩) h')
end
end Pu
namespace Pu
open PySem PySem.Spec PyProof.Rows L2
section
variable {K : PySem.W.Frag} {B A : List Addr} {H : Hp} {st st' : PSt} {σ : LSt}
theorem clr_len (is : List Nat) : ∀ st : PSt, (clr is st).length = st.length := by
 induction is with
 | nil => exact fun _ => rfl
 | cons i is ih => intro st; show (clr is (st.set i none)).length = _; rw [ih, List.length_set]
theorem clr_get (is : List Nat) : ∀ (st : PSt) (j : Nat) (x : Sl), (clr is st)[j]? = some (some x) -> st[j]? = some (some x) /\ j ∉ is := by
 induction is with
 | nil => exact fun σ j v h => ⟨h, by simp⟩
 | cons i is ih =>
  intro σ j v h
  obtain ⟨h1, h2⟩ := ih (σ.set i none) j v h
  rw [List.getElem?_set] at h1
  by_cases e : i = j
  ·subst e
   rw [if_pos rfl] at h1
   split at h1 <;> cases h1
  ·rw [if_neg e] at h1
   exact ⟨h1, fun z => (List.mem_cons.mp z).elim (fun z => e z.symm) h2⟩
theorem clrS_out (is : List Nat) : ∀ (σ : LSt) (j : Nat), j ∉ is -> (clrS is σ)[j]? = σ[j]? := by
 induction is with
 | nil => exact fun σ j _ => rfl
 | cons i is ih =>
  intro σ j h
  show (clrS is (σ.set i none))[j]? = _
  rw [ih _ j fun z => h (List.mem_cons_of_mem _ z), List.getElem?_set, if_neg (show ¬ i = j from fun z => h (z ▸ List.mem_cons_self))]
theorem RS.clr (is : List Nat) (r : RS K B A H st σ) : RS K B A H (Pu.clr is st) (clrS is σ) where
 len := by rw [clr_len, clrS_len, r.len]
 own := r.own
 dis := r.dis
 val := fun i d e => by
  obtain ⟨e1, h⟩ := clr_get is st i _ e
  rw [clrS_out is σ i h]
  exact r.val i d e1
 lst := fun i kk xs e => by
  obtain ⟨e1, h⟩ := clr_get is st i _ e
  obtain ⟨a, o, vs, e2, m, h1, ko, q, u⟩ := r.lst i kk xs e1
  refine ⟨a, o, vs, by rw [clrS_out is σ i h]; exact e2, m, h1, ko, q, fun j k' ys ej ej2 => ?_⟩
  obtain ⟨e3, h3⟩ := clr_get is st j _ ej
  rw [clrS_out is σ j h3] at ej2
  exact u j k' ys e3 ej2
theorem RS.weaken (r : RS K B A H st σ) (hl : st'.length = st.length) (h : ∀ (j : Nat) (x : Sl), st'[j]? = some (some x) -> st[j]? = some (some x)) : RS K B A H st' σ where
 len := hl.trans r.len
 own := r.own
 dis := r.dis
 val := fun i d e => r.val i d (h i _ e)
 lst := fun i kk xs e => by
  obtain ⟨a, o, vs, e2, m, h1, ko, q, u⟩ := r.lst i kk xs (h i _ e)
  exact ⟨a, o, vs, e2, m, h1, ko, q, fun j k' ys ej ej2 => u j k' ys (h j _ ej) ej2⟩
theorem mem_mid {A B : List Addr} {p b : Addr} : b ∈ A ++ p :: B ↔ b = p \/ b ∈ A ++ B := by
 simp only [List.mem_append, List.mem_cons]
 constructor
 ·rintro (h | h | h)
  ·exact .inr (.inl h)
  ·exact .inl h
  ·exact .inr (.inr h)
 ·rintro (h | h | h)
  ·exact .inr (.inl h)
  ·exact .inl h
  ·exact .inr (.inr h)
theorem same_mid {p : Addr} {o : HO} (hp : H p = none) : Same (hide (A ++ B) H) (hide (A ++ p :: B) (upd H p o)) := fun b u q => by
 have q1 := hide_sub _ _ _ _ q
 have hb : b ∉ A ++ B := fun z => by rw [hide_in z] at q; cases q
 have ne : b ≠ p := ne_of_none q1 hp
 rw [hide_out (show b ∉ A ++ p :: B from fun z => (mem_mid.mp z).elim ne hb), upd_ne ne]
 exact q1
theorem RS.grow (r : RS K B A H st σ) {p : Addr} {vs : List V} (hp : H p = none) : RS K (p :: B) A (upd H p (.lst vs)) st σ where
 len := r.len
 own := fun a ha => by
  by_cases e : a = p
  ·subst e; rw [upd_same]; rfl
  ·rw [upd_ne e]; exact r.own a ((mem_mid.mp ha).resolve_left e)
 dis := fun a ha hb => by
  rcases List.mem_cons.mp hb with rfl | hb
  ·exact r.own.free hp (List.mem_append_left _ ha)
  ·exact r.dis a ha hb
 val := fun j d' e => let ⟨u, e1, q⟩ := r.val j d' e; ⟨u, e1, q.mono (same_mid hp)⟩
 lst := fun j kk xs e => by
  obtain ⟨a, o, vs', e1, m, h1, ko, q, u⟩ := r.lst j kk xs e
  exact ⟨a, o, vs', e1, m, by rw [upd_ne (ne_of_none h1 hp)]; exact h1, ko, q.mono (same_mid hp), u⟩
theorem RS.put {p : Addr} (r : RS K (p :: B) A H st σ) {vs : List V} : RS K (p :: B) A (upd H p (.lst vs)) st σ := by
 have hh : hide (A ++ p :: B) (upd H p (.lst vs)) = hide (A ++ p :: B) H := hide_upd (mem_mid.mpr (.inl rfl))
 refine ⟨r.len, fun b hb => ?_, r.dis, fun j d e => by rw [hh]; exact r.val j d e, fun j kk xs e => ?_⟩
 ·by_cases e : b = p
  ·subst e; rw [upd_same]; rfl
  ·rw [upd_ne e]; exact r.own b hb
 ·obtain ⟨a, o, vs', e1, m, h1, ko, q, u⟩ := r.lst j kk xs e
  refine ⟨a, o, vs', e1, m, ?_, ko, by rw [hh]; exact q, u⟩
  have : a ≠ p := fun z => r.dis a m (z ▸ List.mem_cons_self)
  rw [upd_ne this]; exact h1
end
def TgSub (is : List Nat) (t : Tg) : Prop := ∀ d st s2, t d st = .ok s2 -> s2.length = st.length /\ ∀ (j : Nat), j ∉ is -> s2[j]? = st[j]?
theorem sub_N {i : Nat} : TgSub [i] (tgN i) := fun d st s2 h => by
 cases h
 refine ⟨List.length_set, fun j hj => ?_⟩
 rw [List.getElem?_set, if_neg fun z => hj (by simp [z])]
def ndB : List Str -> Bool
 | [] => true
 | x :: r => !r.contains x && ndB r
theorem nd_of : ∀ {l : List Str}, ndB l = true -> l.Nodup
 | [], _ => .nil
 | x :: r, h => by
  unfold ndB at h
  simp only [Bool.and_eq_true, Bool.not_eq_true'] at h
  exact List.nodup_cons.mpr ⟨fun z => by rw [List.contains_iff_mem.mpr z] at h; exact Bool.noConfusion h.1, nd_of h.2⟩
def chkC (scope : Scope) (outer : List (Str × NameKind)) (N : List Str) (is : List Nat) : Bool :=
 scope.kind == .function && ndB (scope.names.map (·.1)) && scope.names.all (fun x => x.2 != .free || outer.lookup x.1 == some .cell || outer.lookup x.1 == some .free) &&
  (List.range N.length).all fun i => (scope.names.lookup (N.getD i "") != some .local && scope.names.lookup (N.getD i "") != some .cell) || is.contains i
theorem CScope.of {X : Cx} {scope : Scope} {is : List Nat} (h : chkC scope X.env.scope.names X.N is = true) : CScope X scope is := by
 unfold chkC at h
 simp only [Bool.and_eq_true, List.all_eq_true] at h
 obtain ⟨⟨⟨h1, h0⟩, h2⟩, h3⟩ := h
 refine ⟨by simpa using h1, nd_of h0, fun x hx hf => ?_, fun i x e hl => ?_⟩
 ·have := h2 x hx
  simp only [Bool.or_eq_true, bne_iff_ne, ne_eq, beq_iff_eq] at this
  rcases this with (z | z) | z
  ·exact absurd hf z
  ·exact .inl z
  ·exact .inr z
 ·have hi : i < X.N.length := (List.getElem?_eq_some_iff.mp e).1
  have := h3 i (List.mem_range.mpr hi)
  rw [List.getD_eq_getElem?_getD, e] at this
  simp only [Option.getD_some, Bool.or_eq_true, Bool.and_eq_true, bne_iff_ne, ne_eq] at this
  rcases this with ⟨z1, z2⟩ | z
  ·rcases hl with hl | hl
   ·exact absurd hl z1
   ·exact absurd hl z2
  ·simpa using z
theorem tI_mono {K : PySem.W.Frag} {B : List Addr} {f : Ex} {τ : LSt} {H : Hp} (Q Q' : VK) (m : ∀ v H', Q v H' -> Q' v H') (h : tI K B f τ H Q) : tI K B f τ H Q' :=
 let ⟨A, st, d, rs, hd, q⟩ := h; ⟨A, st, d, rs, hd, fun v H' s r => m v H' (q v H' s r)⟩
def tIx (K : PySem.W.Frag) (f : Ex) : TE := fun τ H Q => ∃ B, tI K B f τ H Q
def tTx (K : PySem.W.Frag) (f : Ex) : TT := fun τ H Q => ∃ B, tT K B f τ H Q
def tGx (K : PySem.W.Frag) (t : Tg) : TG := fun v τ H Q => ∃ B, tG K B t v τ H Q
theorem pe_x {X : Cx} {e : Expr} {f : Ex} (h : ∀ B, PE X e (tI X.K B f)) : PE X e (tIx X.K f) := fun pins s σ H Q I ⟨B, q⟩ => h B pins s σ H Q I q
theorem pt_x {X : Cx} {e : Expr} {f : Ex} (h : ∀ B, PT X e (tT X.K B f)) : PT X e (tTx X.K f) := fun pins s σ H Q I ⟨B, q⟩ => h B pins s σ H Q I q
theorem pg_x {X : Cx} {e : Expr} {t : Tg} (h : ∀ B, PG X e (tG X.K B t)) : PG X e (tGx X.K t) := fun pins s σ H v u Q I r ⟨B, q⟩ => h B pins s σ H v u Q I r q
theorem tIx_mono {K : PySem.W.Frag} {f : Ex} {τ : LSt} {H : Hp} (Q Q' : VK) (m : ∀ v H', Q v H' -> Q' v H') (h : tIx K f τ H Q) : tIx K f τ H Q' := let ⟨B, q⟩ := h; ⟨B, tI_mono Q Q' m q⟩
theorem lc_of {K : PySem.W.Frag} {B : List Addr} {is : List Nat} {t : Tg} {it : ItE} {c f : Ex} {tt : TT} {σ : LSt} {H : Hp} (hsub : TgSub is t)
  (htt : ∀ τ H Q, tTx K c τ H Q -> tt τ H Q) {A : List Addr} {st : PSt} {xs ys : List D} (rs : RS K B A H st σ) (hx : it st = .ok xs) (hl : xs.length <= big) (hy : compR t c f (clr is st) xs = .ok ys) {Q : VK}
  (q : ∀ p vs H1 H', Same H H1 -> H1 p = none -> Same H1 H' -> H' p = some (.lst vs) -> Reps K (hide (A ++ p :: B) H') ys vs -> Q (.ref p) H') : tLC is (tIt K B it) (tGx K t) tt (tIx K f) σ H Q := by
 refine ⟨A, st, xs, rs, hx, fun J H1 s1 ito p hp => ?_⟩
 have rs1 := rs.mono s1
 refine ⟨fun i m τ vs H' => m = xs.length - i /\ i <= xs.length /\ vs.length <= i /\ H' p = some (.lst vs) /\ Same H1 H' /\ RS K (p :: B) A H' (clr is st) τ /\
   ∃ ds rest, Reps K (hide (A ++ p :: B) H') ds vs /\ compR t c f (clr is st) (xs.drop i) = .ok rest /\ ds ++ rest = ys, ⟨xs.length, by simp, Nat.zero_le _, Nat.zero_le _, upd_same, same_upd hp, (rs1.clr is).grow hp, [], ys, .nil, by rw [List.drop_zero]; exact hy, rfl⟩, ?_⟩
 rintro i m τ vs H' ⟨rfl, hi, hvl, hpv, s2, rs2, ds, rest, rds, hr, hcat⟩
 refine ⟨hpv, ?_⟩
 have mv : ∀ a, a ∈ (p :: A) ++ B ↔ a ∈ A ++ p :: B := fun a => by
  rw [mem_mid]
  exact List.mem_cons
 have le : Le A H1 (p :: A) H' := fun b u z => by
  have z1 := hide_sub _ _ _ _ z
  have hb : b ∉ A := fun w => by rw [hide_in w] at z; cases z
  have ne : b ≠ p := ne_of_none z1 hp
  rw [hide_out (show b ∉ p :: A from fun w => (List.mem_cons.mp w).elim ne hb)]
  exact s2 b u z1
 obtain ⟨i1, i2⟩ := ito (p :: A) H' le (fun a ha => rs2.own a ((mv a).mp ha)) i
 by_cases hlt : i < xs.length
 ·have hd' : xs[i]? = some xs[i] := List.getElem?_eq_getElem hlt
  obtain ⟨go, yl⟩ := i1 _ hd'
  rw [List.drop_eq_getElem_cons hlt] at hr
  obtain ⟨st2, hst2, h5⟩ := R.ok_of hr
  obtain ⟨cb, hcb, h6⟩ := R.ok_of h5
  obtain ⟨k, rfl, h7⟩ := onB_of h6
  refine .inr ⟨go, fun x H2 y => ?_⟩
  obtain ⟨sm3, rx⟩ := yl x H2 y
  have hpv := sm3 _ _ hpv
  have s2 := s2.trans sm3
  have rs2 := rs2.mono sm3
  have rds := rds.mono (Same.hide sm3)
  have rx' : Rep K (hide (A ++ p :: B) H2) xs[i] x := rx.mono (hide_more fun a ha => (mv a).mpr ha)
  obtain ⟨sl, sg⟩ := hsub _ _ _ hst2
  have back : ∀ (j : Nat) (z : Sl), (clr is st)[j]? = some (some z) -> st2[j]? = some (some z) := fun j z ez => by rw [sg j (clr_get is st j z ez).2]; exact ez
  refine ⟨p :: B, A, clr is st, xs[i], st2, rs2, rx', hst2, fun τ2 rs3 => htt _ _ _ ⟨p :: B, A, st2, k, rs3, hcb, fun H3 s3 => ?_⟩⟩
  cases k with
  | true =>
   obtain ⟨y', hy', h8⟩ := R.ok_of h7
   obtain ⟨rest', hrest', h9⟩ := R.ok_of h8
   cases h9
   refine ⟨p :: B, A, st2, y', rs3.mono s3, hy', fun v H4 s4 r4 => ⟨s4 _ _ (s3 _ _ hpv), ?_, xs.length - (i + 1), by omega, rfl, hlt, by rw [List.length_append, List.length_singleton]; omega, upd_same, ?_, ?_, ds ++ [y'], rest', ?_, hrest', by rw [List.append_assoc]; exact hcat⟩⟩
   ·have : sizeLine = 16777216 := by decide
    have hbg := big_eq
    omega
   ·exact fun b u z => by rw [upd_ne (ne_of_none z hp)]; exact s4 _ _ (s3 _ _ (s2 b u z))
   ·exact (((rs3.mono s3).mono s4).weaken (by rw [sl]) back).put
   ·rw [hide_upd (mem_mid.mpr (.inl rfl))]
    exact (rds.mono (Same.hide (s3.trans s4))).append (.cons r4 .nil)
  | false => exact ⟨xs.length - (i + 1), by omega, rfl, hlt, by omega, s3 _ _ hpv, s2.trans s3, (rs3.mono s3).weaken (by rw [sl]) back, ds, rest, rds.mono (Same.hide s3), h7, hcat⟩
 ·have e : i = xs.length := by omega
  subst e
  rw [List.drop_length] at hr
  cases hr
  rw [List.append_nil] at hcat
  subst hcat
  exact .inl ⟨i2 (Nat.le_refl _), q p vs H1 H' s1 hp s2 hpv rds⟩
section
variable {X : Cx} {B : List Addr} {scope : Scope} {elt tg iter c : Expr} {pos : Pos} {t : Tg} {it : ItE} {f u : Ex}
theorem rest1 {Y : Cx} {te : TE} {tt : TT} (hY : Y.xe = fun _ _ => False) (he : PE Y elt te) (ht : PT Y c tt) {it p : Addr} (τ : LSt) (H : Hp) (s : Shared) (pins : List (Addr × Obj)) (vs : List V) (N : Hp -> List V -> Prop) (Q : Fin -> Shared -> Prop) (I : Inv Y pins τ H s)
  (h : tt τ H fun k H3 => if k = true then te τ H3 fun y H4 => H4 p = some (.lst vs) /\ vs.length < sizeLine /\ N (upd H4 p (.lst (vs ++ [y]))) (vs ++ [y]) else N H3 vs)
  (mono : ∀ H (Q Q' : VK), (∀ v H', Q v H' -> Q' v H') -> te τ H Q -> te τ H Q')
  (q : ∀ s' H' ws, Inv Y pins τ H' s' -> N H' ws -> Q (.again (.compLoop (.ListComp elt [⟨tg, iter, [c], 0⟩] scope pos) 0 (.ref it) (.ref p) Y.env)) s') :
  wpAny (model Y.prog Y.w) Y.A (isTrue c Y.env (eval c Y.env) >>= fun ok => if ok = true then (eval elt Y.env >>= fun x => call (.builtin "list.append") [.ref p, x] >>= fun _ => again (.compLoop (.ListComp elt [⟨tg, iter, [c], 0⟩] scope pos) 0 (.ref it) (.ref p) Y.env))
        else again (.compLoop (.ListComp elt [⟨tg, iter, [c], 0⟩] scope pos) 0 (.ref it) (.ref p) Y.env)) Q (fun _ _ => False) s := by
 have ht' := ht pins s τ H _ I h
 rw [hY] at ht'
 refine wpAny_bind (thn ht' fun k s1 ⟨H1, I1, q1⟩ => ?_)
 cases k with
 | true =>
  rw [if_pos rfl]
  have q1 : te τ H1 fun y H4 => H4 p = some (.lst vs) /\ vs.length < sizeLine /\ N (upd H4 p (.lst (vs ++ [y]))) (vs ++ [y]) := q1
  exact comp_emit he (by rw [hY]; exact fun _ _ z => z) I1 (mono _ _ _ (fun y H4 ⟨a, b, n⟩ => ⟨a, b, fun s' I' => wpAny_pure (q s' _ _ I' n)⟩) q1)
 | false =>
  rw [if_neg Bool.false_ne_true]
  exact wpAny_pure (q s1 H1 vs I1 q1)
theorem comp_e {σ : LSt} {H : Hp} {Q : VK} {st : PSt} {A : List Addr} {ys : List D} {p : Addr} {vs : List V} {H1 H' : Hp} (rs : RS X.K B A H st σ) (q : ∀ v H', Same H H' -> Rep X.K (hide (A ++ B) H') (.lst ys) v -> Q v H') (s1 : Same H H1) (hp : H1 p = none) (s2 : Same H1 H')
  (hv : H' p = some (.lst vs)) (r : Reps X.K (hide (A ++ p :: B) H') ys vs) : Q (.ref p) H' :=
 q _ H' (s1.trans s2) (rep_lst.mpr ⟨p, vs, rfl, SqL.of (by rw [hide_out ((rs.own.mono s1).free hp)]; exact hv), r.mono (hide_more fun a ha => mem_mid.mpr (.inr ha))⟩)
theorem i_comp (is : List Nat) (hsub : TgSub is t) (S : CScope X scope is) (hi : L2.PI X tg iter (tIt X.K B it)) (hg : ∀ (B : List Addr) (C : Addr) (s₀ : Shared) (H₀ : Hp) (fp : List Addr), PG (compCx X scope C s₀ H₀ fp) tg (tG X.K B t))
  (he : ∀ (B : List Addr) (C : Addr) (s₀ : Shared) (H₀ : Hp) (fp : List Addr), PE (compCx X scope C s₀ H₀ fp) elt (tI X.K B f)) (hc : X.calm = true) (hs : ∀ x, foldedSetIterable iter X.env x = pure x := by intro _; rfl) :
  PE X (.ListComp elt [⟨tg, iter, [], 0⟩] scope pos) (tI X.K B (eComp is t it eTrue f)) := by
 intro pins s σ H Q I h
 obtain ⟨A, st, d, rs, hd, q⟩ := h
 obtain ⟨xs, hx, h2⟩ := R.ok_of hd
 obtain ⟨hl, h3⟩ := guardR_of h2
 obtain ⟨ys, hy, h4⟩ := R.ok_of h3
 cases h4
 rw [eval_ListComp]
 refine comp_core (use := none) (Qf := EP X pins σ Q) (Q := Q) (tt := tAlways) (te := tIx X.K f) (rest := fun env it p => eval elt env >>= fun x => call (.builtin "list.append") [p, x] >>= fun _ => again (.compLoop (.ListComp elt [⟨tg, iter, [], 0⟩] scope pos) 0 it p env)) S hc hi (fun C s₀ H₀ fp => pg_x fun B => hg B C s₀ H₀ fp) (fun _ _ _ => quiet_comp)
  (fun C s₀ H₀ fp it p s Q h => den0 (Y := compCx X scope C s₀ H₀ fp) h) (fun C s₀ H₀ fp it p τ H s pins vs N Q I h q => rest0 (Y := compCx X scope C s₀ H₀ fp) rfl (pe_x fun B => he B C s₀ H₀ fp) τ H s pins vs N Q I h (fun Q Q' m h => tIx_mono Q Q' m h) q) hs I
  (lc_of hsub (fun τ H Q ⟨B, A, st, k, rs, hk, q⟩ => ?_) rs hx hl hy fun p vs H1 H' s1 hp s2 hv r => comp_e rs q s1 hp s2 hv r) fun C p H5 s5 m5 s3 H3 fp τ hC I3 hfp I5 hn5 q5 => ⟨m5, hn5, fun h' hs' => ⟨.ref p, H5, inv_end I3 hfp hC I5 hs', rfl, q5⟩⟩
 cases hk
 exact q H (Same.refl _)
theorem i_compif (is : List Nat) (hsub : TgSub is t) (S : CScope X scope is) (hi : L2.PI X tg iter (tIt X.K B it)) (hg : ∀ (B : List Addr) (C : Addr) (s₀ : Shared) (H₀ : Hp) (fp : List Addr), PG (compCx X scope C s₀ H₀ fp) tg (tG X.K B t))
  (ht : ∀ (B : List Addr) (C : Addr) (s₀ : Shared) (H₀ : Hp) (fp : List Addr), PT (compCx X scope C s₀ H₀ fp) c (tT X.K B u))
  (he : ∀ (B : List Addr) (C : Addr) (s₀ : Shared) (H₀ : Hp) (fp : List Addr), PE (compCx X scope C s₀ H₀ fp) elt (tI X.K B f)) (hc : X.calm = true) (hs : ∀ x, foldedSetIterable iter X.env x = pure x := by intro _; rfl) :
  PE X (.ListComp elt [⟨tg, iter, [c], 0⟩] scope pos) (tI X.K B (eComp is t it u f)) := by
 intro pins s σ H Q I h
 obtain ⟨A, st, d, rs, hd, q⟩ := h
 obtain ⟨xs, hx, h2⟩ := R.ok_of hd
 obtain ⟨hl, h3⟩ := guardR_of h2
 obtain ⟨ys, hy, h4⟩ := R.ok_of h3
 cases h4
 rw [eval_ListComp]
 exact comp_core (use := none) (Qf := EP X pins σ Q) (Q := Q) (tt := tTx X.K u) (te := tIx X.K f) (rest := fun env it p => isTrue c env (eval c env) >>= fun ok => if ok = true then (eval elt env >>= fun x => call (.builtin "list.append") [p, x] >>= fun _ => again (.compLoop (.ListComp elt [⟨tg, iter, [c], 0⟩] scope pos) 0 it p env)) else again (.compLoop (.ListComp elt [⟨tg, iter, [c], 0⟩] scope pos) 0 it p env)) S hc hi (fun C s₀ H₀ fp => pg_x fun B => hg B C s₀ H₀ fp) (fun _ _ _ => quiet_comp)
  (fun C s₀ H₀ fp it p s Q h => den1 (Y := compCx X scope C s₀ H₀ fp) h) (fun C s₀ H₀ fp it p τ H s pins vs N Q I h q => rest1 (Y := compCx X scope C s₀ H₀ fp) rfl (pe_x fun B => he B C s₀ H₀ fp) (pt_x fun B => ht B C s₀ H₀ fp) τ H s pins vs N Q I h (fun _ Q Q' m h => tIx_mono Q Q' m h) q) hs I
  (lc_of hsub (fun τ H Q h => h) rs hx hl hy fun p vs H1 H' s1 hp s2 hv r => comp_e rs q s1 hp s2 hv r) fun C p H5 s5 m5 s3 H3 fp τ hC I3 hfp I5 hn5 q5 => ⟨m5, hn5, fun h' hs' => ⟨.ref p, H5, inv_end I3 hfp hC I5 hs', rfl, q5⟩⟩
end
end Pu
namespace Pu
open PySem PySem.Spec PyProof.Rows L2 PySem.SeqAt
section
variable {X : Cx} {pins : List (Addr × Obj)} {σ : LSt} {H : Hp} {s : Shared}
theorem no_both (I : Inv X pins σ H s) {a : Addr} {xs ys : List V} (h1 : SqL X.K H a xs) (h2 : SqT X.K H a ys) : False := by
 obtain ⟨its, _, ⟨o, n, e, hc, _⟩, _⟩ := I.list h1
 obtain ⟨its2, _, ⟨o2, e2, hc2, _⟩, _⟩ := I.tuple h2
 rw [e] at e2; cases e2
 rw [hc] at hc2; simp at hc2
mutual
theorem Rep.inj (I : Inv X pins σ H s) : ∀ {x y : D} {v : V}, plain x = true -> plain y = true -> Rep X.K H x v -> Rep X.K H y v -> x = y
 | .non, y, v, px, py, h, h' => by
  have e := rep_non.mp h; subst e
  cases y <;> first | (simp at py; done) | skip
  all_goals simp only [rep_non, rep_bl, rep_int, rep_str, rep_tupD, rep_lst] at h'
  all_goals first | rfl | (obtain ⟨_, _, h', _⟩ := h'; cases h'; done) | (cases h'; done)
 | .bl b, y, v, px, py, h, h' => by
  have e := rep_bl.mp h; subst e
  cases y <;> first | (simp at py; done) | skip
  all_goals simp only [rep_non, rep_bl, rep_int, rep_str, rep_tupD, rep_lst] at h'
  all_goals first | (obtain ⟨_, _, h', _⟩ := h'; cases h'; done) | (cases h'; first | rfl | done)
 | .int i, y, v, px, py, h, h' => by
  have e := rep_int.mp h; subst e
  cases y <;> first | (simp at py; done) | skip
  all_goals simp only [rep_non, rep_bl, rep_int, rep_str, rep_tupD, rep_lst] at h'
  all_goals first | (obtain ⟨_, _, h', _⟩ := h'; cases h'; done) | (cases h'; first | rfl | done)
 | .str x, y, v, px, py, h, h' => by
  have e := rep_str.mp h; subst e
  cases y with
  | dct _ _ _ => simp at py
  | ins _ _ _ => simp at py
  | exn _ _ _ => simp at py
  | fn _ => simp at py
  | str z =>
   have e2 := rep_str.mp h'
   injection e2 with e2
   injection e2 with e2
   have : x = z := by simpa using congrArg Array.toList e2
   rw [this]
  | non => exact nomatch rep_non.mp h'
  | bl _ => exact nomatch rep_bl.mp h'
  | int _ => exact nomatch rep_int.mp h'
  | tup _ => obtain ⟨_, _, h', _⟩ := rep_tup_mp h'; cases h'
  | lst _ => obtain ⟨_, _, h', _⟩ := rep_lst.mp h'; cases h'
 | .tup ds, y, v, px, py, h, h' => by
  obtain ⟨a, vs, e, hq, hr⟩ := rep_tup_mp h
  subst e
  cases y with
  | dct _ _ _ => simp at py
  | ins _ _ _ => simp at py
  | exn _ _ _ => simp at py
  | fn _ => simp at py
  | tup es =>
   obtain ⟨a', vs', e', hq', hr'⟩ := rep_tup_mp h'
   cases e'
   have := I.tuple_inj hq hq'
   subst this
   rw [Reps.inj I (by simpa using px) (by simpa using py) hr hr']
  | lst es =>
   obtain ⟨a', vs', e', hq', hr'⟩ := rep_lst.mp h'
   cases e'
   exact (no_both I hq' hq).elim
  | non => exact nomatch rep_non.mp h'
  | bl _ => exact nomatch rep_bl.mp h'
  | int _ => exact nomatch rep_int.mp h'
  | str _ => exact nomatch rep_str.mp h'
 | .lst ds, y, v, px, py, h, h' => by
  obtain ⟨a, vs, e, hq, hr⟩ := rep_lst.mp h
  subst e
  cases y with
  | dct _ _ _ => simp at py
  | ins _ _ _ => simp at py
  | exn _ _ _ => simp at py
  | fn _ => simp at py
  | lst es =>
   obtain ⟨a', vs', e', hq', hr'⟩ := rep_lst.mp h'
   cases e'
   have := I.list_inj hq hq'
   subst this
   rw [Reps.inj I (by simpa using px) (by simpa using py) hr hr']
  | tup es =>
   obtain ⟨a', vs', e', hq', hr'⟩ := rep_tup_mp h'
   cases e'
   exact (no_both I hq hq').elim
  | non => exact nomatch rep_non.mp h'
  | bl _ => exact nomatch rep_bl.mp h'
  | int _ => exact nomatch rep_int.mp h'
  | str _ => exact nomatch rep_str.mp h'
 | .dct _ _ _, y, v, px, py, h, h' => by simp at px
 | .ins _ _ _, y, v, px, py, h, h' => by simp at px
 | .exn _ _ _, y, v, px, py, h, h' => by simp at px
 | .fn _, y, v, px, py, h, h' => by simp at px
theorem Reps.inj (I : Inv X pins σ H s) : ∀ {xs ys : List D} {vs : List V}, plains xs = true -> plains ys = true -> Reps X.K H xs vs -> Reps X.K H ys vs -> xs = ys
 | [], ys, vs, px, py, h, h' => by
  have e := reps_nil.mp h; subst e
  cases ys with
  | nil => rfl
  | cons y ys => obtain ⟨_, _, h', _⟩ := reps_cons.mp h'; cases h'
 | x :: xs, ys, vs, px, py, h, h' => by
  obtain ⟨v, r, e, h1, h2⟩ := reps_cons.mp h
  subst e
  cases ys with
  | nil => exact nomatch reps_nil.mp h'
  | cons y ys =>
   obtain ⟨v', r', e', h1', h2'⟩ := reps_cons.mp h'
   cases e'
   simp only [plains_cons, Bool.and_eq_true] at px py
   rw [Rep.inj I px.1 py.1 h1 h1', Reps.inj I px.2 py.2 h2 h2']
end
mutual
theorem eqD_refl : ∀ x : D, plain x = true -> eqD x x = true
 | .non, _ => by unfold eqD; rfl
 | .bl b, _ => by unfold eqD; simp
 | .int i, _ => by unfold eqD; simp
 | .str x, _ => by unfold eqD; simp
 | .tup x, h => by unfold eqD; exact eqDs_refl x (by simpa using h)
 | .lst x, h => by unfold eqD; exact eqDs_refl x (by simpa using h)
 | .dct _ _ _, h => by simp at h
 | .ins _ _ _, h => by simp at h
 | .exn _ _ _, h => by simp at h
 | .fn _, h => by simp at h
theorem eqDs_refl : ∀ x : List D, plains x = true -> eqDs x x = true
 | [], _ => by unfold eqDs; rfl
 | a :: x, h => by
  simp only [plains_cons, Bool.and_eq_true] at h
  unfold eqDs; rw [eqD_refl a h.1, eqDs_refl x h.2]; rfl
end
def pairE (xs ys : List D) (j : Nat) : Bool := eqD (xs.getD j .non) (ys.getD j .non)
theorem eqDs_all : ∀ xs ys : List D, ((List.range (min xs.length ys.length)).all (pairE xs ys) && xs.length == ys.length) = eqDs xs ys
 | [], [] => by unfold eqDs; rfl
 | [], _ :: _ => by unfold eqDs; simp
 | _ :: _, [] => by unfold eqDs; simp
 | x :: xs, y :: ys => by
  have ih := eqDs_all xs ys
  have e : eqDs (x :: xs) (y :: ys) = (eqD x y && eqDs xs ys) := by conv => lhs; unfold eqDs
  rw [e, <- ih]
  have hm : min (x :: xs).length (y :: ys).length = min xs.length ys.length + 1 := by simp only [List.length_cons]; omega
  rw [hm, List.range_succ_eq_map, List.all_cons, List.all_map]
  have e1 : pairE (x :: xs) (y :: ys) 0 = eqD x y := rfl
  have e2 : (pairE (x :: xs) (y :: ys) ∘ Nat.succ) = pairE xs ys := rfl
  rw [e1, e2, Bool.and_assoc]
  congr 1
  simp
theorem eqDs_other {xs ys : List D} (h : xs.length ≠ ys.length) : eqDs xs ys = false := by
 rw [<- eqDs_all]; simp [h]
mutual
theorem eqAt_rep (I : Inv X pins σ H s) : ∀ (x y : D) (A : Around) (v u : V) (a b : Value), Rep X.K H x v -> Rep X.K H y u -> RelV v a -> RelV u b -> A.units + dep x < cLine -> plain x = true -> plain y = true -> EqAt A s a b (eqD x y)
 | .non, y, A, v, u, a, b, ra, rb, va, vb, hu, px, py => by
  have zv := rep_non.mp ra; subst zv; have za : a = Value.none := va; subst za
  cases y with
  | dct _ _ _ => simp at py
  | ins _ _ _ => simp at py
  | exn _ _ _ => simp at py
  | fn _ => simp at py
  | non =>
   have zu := rep_non.mp rb; subst zu; have zb : b = Value.none := vb; subst zb
   have e : eqD (.non) (.non) = eqD _ _ := rfl
   unfold eqD
   exact EqAt.same _
  | bl y =>
   have zu := rep_bl.mp rb; subst zu; have zb : b = Value.bool y := vb; subst zb
   have e : eqD (.non) (.bl y) = eqD _ _ := rfl
   unfold eqD
   exact EqAt.none_bool y
  | int y =>
   have zu := rep_int.mp rb; subst zu; obtain ⟨tb, zb⟩ : ∃ t, b = Value.int y t := vb; subst zb
   have e : eqD (.non) (.int y) = eqD _ _ := rfl
   unfold eqD
   exact EqAt.none_int y tb
  | str y =>
   have zu := rep_str.mp rb; subst zu; obtain ⟨tb, zb⟩ : ∃ t, b = Value.str ⟨y.toArray⟩ t := vb; subst zb
   have e : eqD (.non) (.str y) = eqD _ _ := rfl
   unfold eqD
   exact EqAt.none_str _ tb
  | tup y =>
   obtain ⟨lb, wsb, zu, hqb, hrb⟩ := rep_tup_mp rb; subst zu; have zb : b = Value.ref lb := vb; subst zb; obtain ⟨itsb, rvb, plb, _⟩ := I.tuple hqb; have ilb : s.heap.IsTuple lb itsb.toArray := plb
   have e : eqD (.non) (.tup y) = eqD _ _ := rfl
   unfold eqD
   exact EqAt.none_tuple ilb (Nat.lt_of_le_of_lt (Nat.le_add_right _ _) hu)
  | lst y =>
   obtain ⟨lb, wsb, zu, hqb, hrb⟩ := rep_lst.mp rb; subst zu; have zb : b = Value.ref lb := vb; subst zb; obtain ⟨itsb, rvb, plb, _⟩ := I.list hqb; have ilb := plb.isList
   have e : eqD (.non) (.lst y) = eqD _ _ := rfl
   unfold eqD
   exact EqAt.none_list ilb (Nat.lt_of_le_of_lt (Nat.le_add_right _ _) hu)
 | .bl x, y, A, v, u, a, b, ra, rb, va, vb, hu, px, py => by
  have zv := rep_bl.mp ra; subst zv; have za : a = Value.bool x := va; subst za
  cases y with
  | dct _ _ _ => simp at py
  | ins _ _ _ => simp at py
  | exn _ _ _ => simp at py
  | fn _ => simp at py
  | non =>
   have zu := rep_non.mp rb; subst zu; have zb : b = Value.none := vb; subst zb
   have e : eqD (.bl x) (.non) = eqD _ _ := rfl
   unfold eqD
   exact EqAt.bool_none x
  | bl y =>
   have zu := rep_bl.mp rb; subst zu; have zb : b = Value.bool y := vb; subst zb
   have e : eqD (.bl x) (.bl y) = eqD _ _ := rfl
   unfold eqD
   exact EqAt.bool_bool x y
  | int y =>
   have zu := rep_int.mp rb; subst zu; obtain ⟨tb, zb⟩ : ∃ t, b = Value.int y t := vb; subst zb
   have e : eqD (.bl x) (.int y) = eqD _ _ := rfl
   unfold eqD
   exact EqAt.bool_int x y tb
  | str y =>
   have zu := rep_str.mp rb; subst zu; obtain ⟨tb, zb⟩ : ∃ t, b = Value.str ⟨y.toArray⟩ t := vb; subst zb
   have e : eqD (.bl x) (.str y) = eqD _ _ := rfl
   unfold eqD
   exact EqAt.bool_str x _ tb
  | tup y =>
   obtain ⟨lb, wsb, zu, hqb, hrb⟩ := rep_tup_mp rb; subst zu; have zb : b = Value.ref lb := vb; subst zb; obtain ⟨itsb, rvb, plb, _⟩ := I.tuple hqb; have ilb : s.heap.IsTuple lb itsb.toArray := plb
   have e : eqD (.bl x) (.tup y) = eqD _ _ := rfl
   unfold eqD
   exact EqAt.bool_tuple x ilb (Nat.lt_of_le_of_lt (Nat.le_add_right _ _) hu)
  | lst y =>
   obtain ⟨lb, wsb, zu, hqb, hrb⟩ := rep_lst.mp rb; subst zu; have zb : b = Value.ref lb := vb; subst zb; obtain ⟨itsb, rvb, plb, _⟩ := I.list hqb; have ilb := plb.isList
   have e : eqD (.bl x) (.lst y) = eqD _ _ := rfl
   unfold eqD
   exact EqAt.bool_list x ilb (Nat.lt_of_le_of_lt (Nat.le_add_right _ _) hu)
 | .int x, y, A, v, u, a, b, ra, rb, va, vb, hu, px, py => by
  have zv := rep_int.mp ra; subst zv; obtain ⟨ta, za⟩ : ∃ t, a = Value.int x t := va; subst za
  cases y with
  | dct _ _ _ => simp at py
  | ins _ _ _ => simp at py
  | exn _ _ _ => simp at py
  | fn _ => simp at py
  | non =>
   have zu := rep_non.mp rb; subst zu; have zb : b = Value.none := vb; subst zb
   have e : eqD (.int x) (.non) = eqD _ _ := rfl
   unfold eqD
   exact EqAt.int_none x ta
  | bl y =>
   have zu := rep_bl.mp rb; subst zu; have zb : b = Value.bool y := vb; subst zb
   have e : eqD (.int x) (.bl y) = eqD _ _ := rfl
   unfold eqD
   exact EqAt.int_bool x ta y
  | int y =>
   have zu := rep_int.mp rb; subst zu; obtain ⟨tb, zb⟩ : ∃ t, b = Value.int y t := vb; subst zb
   have e : eqD (.int x) (.int y) = eqD _ _ := rfl
   unfold eqD
   exact EqAt.int_int x ta y tb
  | str y =>
   have zu := rep_str.mp rb; subst zu; obtain ⟨tb, zb⟩ : ∃ t, b = Value.str ⟨y.toArray⟩ t := vb; subst zb
   have e : eqD (.int x) (.str y) = eqD _ _ := rfl
   unfold eqD
   exact EqAt.int_str x ta _ tb
  | tup y =>
   obtain ⟨lb, wsb, zu, hqb, hrb⟩ := rep_tup_mp rb; subst zu; have zb : b = Value.ref lb := vb; subst zb; obtain ⟨itsb, rvb, plb, _⟩ := I.tuple hqb; have ilb : s.heap.IsTuple lb itsb.toArray := plb
   have e : eqD (.int x) (.tup y) = eqD _ _ := rfl
   unfold eqD
   exact EqAt.int_tuple x ta ilb (Nat.lt_of_le_of_lt (Nat.le_add_right _ _) hu)
  | lst y =>
   obtain ⟨lb, wsb, zu, hqb, hrb⟩ := rep_lst.mp rb; subst zu; have zb : b = Value.ref lb := vb; subst zb; obtain ⟨itsb, rvb, plb, _⟩ := I.list hqb; have ilb := plb.isList
   have e : eqD (.int x) (.lst y) = eqD _ _ := rfl
   unfold eqD
   exact EqAt.int_list x ta ilb (Nat.lt_of_le_of_lt (Nat.le_add_right _ _) hu)
 | .str x, y, A, v, u, a, b, ra, rb, va, vb, hu, px, py => by
  have zv := rep_str.mp ra; subst zv; obtain ⟨ta, za⟩ : ∃ t, a = Value.str ⟨x.toArray⟩ t := va; subst za
  cases y with
  | dct _ _ _ => simp at py
  | ins _ _ _ => simp at py
  | exn _ _ _ => simp at py
  | fn _ => simp at py
  | non =>
   have zu := rep_non.mp rb; subst zu; have zb : b = Value.none := vb; subst zb
   have e : eqD (.str x) (.non) = eqD _ _ := rfl
   unfold eqD
   exact EqAt.str_none _ ta
  | bl y =>
   have zu := rep_bl.mp rb; subst zu; have zb : b = Value.bool y := vb; subst zb
   have e : eqD (.str x) (.bl y) = eqD _ _ := rfl
   unfold eqD
   exact EqAt.str_bool _ ta y
  | int y =>
   have zu := rep_int.mp rb; subst zu; obtain ⟨tb, zb⟩ : ∃ t, b = Value.int y t := vb; subst zb
   have e : eqD (.str x) (.int y) = eqD _ _ := rfl
   unfold eqD
   exact EqAt.str_int _ ta y tb
  | str y =>
   have zu := rep_str.mp rb; subst zu; obtain ⟨tb, zb⟩ : ∃ t, b = Value.str ⟨y.toArray⟩ t := vb; subst zb
   have e : eqD (.str x) (.str y) = ((⟨x.toArray⟩ : Str) == ⟨y.toArray⟩) := by rw [<- str_beq]; unfold eqD; simp
   rw [e]
   exact EqAt.str_str _ ta _ tb
  | tup y =>
   obtain ⟨lb, wsb, zu, hqb, hrb⟩ := rep_tup_mp rb; subst zu; have zb : b = Value.ref lb := vb; subst zb; obtain ⟨itsb, rvb, plb, _⟩ := I.tuple hqb; have ilb : s.heap.IsTuple lb itsb.toArray := plb
   have e : eqD (.str x) (.tup y) = eqD _ _ := rfl
   unfold eqD
   exact EqAt.str_tuple _ ta ilb (Nat.lt_of_le_of_lt (Nat.le_add_right _ _) hu)
  | lst y =>
   obtain ⟨lb, wsb, zu, hqb, hrb⟩ := rep_lst.mp rb; subst zu; have zb : b = Value.ref lb := vb; subst zb; obtain ⟨itsb, rvb, plb, _⟩ := I.list hqb; have ilb := plb.isList
   have e : eqD (.str x) (.lst y) = eqD _ _ := rfl
   unfold eqD
   exact EqAt.str_list _ ta ilb (Nat.lt_of_le_of_lt (Nat.le_add_right _ _) hu)
 | .tup x, y, A, v, u, a, b, ra, rb, va, vb, hu, px, py => by
  obtain ⟨la, wsa, zv, hqa, hra⟩ := rep_tup_mp ra; subst zv; have za : a = Value.ref la := va; subst za; obtain ⟨itsa, rva, pla, _⟩ := I.tuple hqa; have ila : s.heap.IsTuple la itsa.toArray := pla
  cases y with
  | dct _ _ _ => simp at py
  | ins _ _ _ => simp at py
  | exn _ _ _ => simp at py
  | fn _ => simp at py
  | non =>
   have zu := rep_non.mp rb; subst zu; have zb : b = Value.none := vb; subst zb
   have e : eqD (.tup x) (.non) = eqD _ _ := rfl
   unfold eqD
   exact EqAt.tuple_none ila (Nat.lt_of_le_of_lt (Nat.le_add_right _ _) hu)
  | bl y =>
   have zu := rep_bl.mp rb; subst zu; have zb : b = Value.bool y := vb; subst zb
   have e : eqD (.tup x) (.bl y) = eqD _ _ := rfl
   unfold eqD
   exact EqAt.tuple_bool y ila (Nat.lt_of_le_of_lt (Nat.le_add_right _ _) hu)
  | int y =>
   have zu := rep_int.mp rb; subst zu; obtain ⟨tb, zb⟩ : ∃ t, b = Value.int y t := vb; subst zb
   have e : eqD (.tup x) (.int y) = eqD _ _ := rfl
   unfold eqD
   exact EqAt.tuple_int y tb ila (Nat.lt_of_le_of_lt (Nat.le_add_right _ _) hu)
  | str y =>
   have zu := rep_str.mp rb; subst zu; obtain ⟨tb, zb⟩ : ∃ t, b = Value.str ⟨y.toArray⟩ t := vb; subst zb
   have e : eqD (.tup x) (.str y) = eqD _ _ := rfl
   unfold eqD
   exact EqAt.tuple_str _ tb ila (Nat.lt_of_le_of_lt (Nat.le_add_right _ _) hu)
  | tup y =>
   obtain ⟨lb, wsb, zu, hqb, hrb⟩ := rep_tup_mp rb; subst zu; have zb : b = Value.ref lb := vb; subst zb; obtain ⟨itsb, rvb, plb, _⟩ := I.tuple hqb; have ilb : s.heap.IsTuple lb itsb.toArray := plb
   have n1 : itsa.length = x.length := by rw [<- rva.length, hra.length]
   have n2 : itsb.length = y.length := by rw [<- rvb.length, hrb.length]
   have e : eqD (.tup x) (.tup y) = eqDs x y := by conv => lhs; unfold eqD
   have hd : dep (.tup x) = deps x + 1 := by conv => lhs; unfold dep
   rw [hd] at hu
   have hin : A.in1.units + deps x < cLine := by show A.units + 1 + deps x < cLine; omega
   by_cases hll : la = lb
   ·subst hll
    have := Rep.inj I px py ra rb
    rw [this, eqD_refl _ py]
    exact EqAt.same _
   ·rw [e]
    have e3 : eqDs x y = ((List.range (min itsa.toArray.size itsb.toArray.size)).all (pairE x y) && itsa.toArray.size == itsb.toArray.size) := by rw [<- eqDs_all, List.size_toArray, List.size_toArray, n1, n2]
    rw [e3]
    refine EqAt.of_refs hll (RcAt.tuples ila ilb (by omega) fun j j1 j2 => ?_)
    have := eqAt_reps I x y A.in1 wsa wsb itsa itsb hra hrb rva rvb hin (by simpa using px) (by simpa using py) j (by simpa using j1) (by simpa using j2)
    simpa using this
  | lst y =>
   obtain ⟨lb, wsb, zu, hqb, hrb⟩ := rep_lst.mp rb; subst zu; have zb : b = Value.ref lb := vb; subst zb; obtain ⟨itsb, rvb, plb, _⟩ := I.list hqb; have ilb := plb.isList
   have e : eqD (.tup x) (.lst y) = eqD _ _ := rfl
   unfold eqD
   exact EqAt.tuple_list ila ilb (Nat.lt_of_le_of_lt (Nat.le_add_right _ _) hu)
 | .lst x, y, A, v, u, a, b, ra, rb, va, vb, hu, px, py => by
  obtain ⟨la, wsa, zv, hqa, hra⟩ := rep_lst.mp ra; subst zv; have za : a = Value.ref la := va; subst za; obtain ⟨itsa, rva, pla, _⟩ := I.list hqa; have ila := pla.isList
  cases y with
  | dct _ _ _ => simp at py
  | ins _ _ _ => simp at py
  | exn _ _ _ => simp at py
  | fn _ => simp at py
  | non =>
   have zu := rep_non.mp rb; subst zu; have zb : b = Value.none := vb; subst zb
   have e : eqD (.lst x) (.non) = eqD _ _ := rfl
   unfold eqD
   exact EqAt.list_none ila (Nat.lt_of_le_of_lt (Nat.le_add_right _ _) hu)
  | bl y =>
   have zu := rep_bl.mp rb; subst zu; have zb : b = Value.bool y := vb; subst zb
   have e : eqD (.lst x) (.bl y) = eqD _ _ := rfl
   unfold eqD
   exact EqAt.list_bool y ila (Nat.lt_of_le_of_lt (Nat.le_add_right _ _) hu)
  | int y =>
   have zu := rep_int.mp rb; subst zu; obtain ⟨tb, zb⟩ : ∃ t, b = Value.int y t := vb; subst zb
   have e : eqD (.lst x) (.int y) = eqD _ _ := rfl
   unfold eqD
   exact EqAt.list_int y tb ila (Nat.lt_of_le_of_lt (Nat.le_add_right _ _) hu)
  | str y =>
   have zu := rep_str.mp rb; subst zu; obtain ⟨tb, zb⟩ : ∃ t, b = Value.str ⟨y.toArray⟩ t := vb; subst zb
   have e : eqD (.lst x) (.str y) = eqD _ _ := rfl
   unfold eqD
   exact EqAt.list_str _ tb ila (Nat.lt_of_le_of_lt (Nat.le_add_right _ _) hu)
  | tup y =>
   obtain ⟨lb, wsb, zu, hqb, hrb⟩ := rep_tup_mp rb; subst zu; have zb : b = Value.ref lb := vb; subst zb; obtain ⟨itsb, rvb, plb, _⟩ := I.tuple hqb; have ilb : s.heap.IsTuple lb itsb.toArray := plb
   have e : eqD (.lst x) (.tup y) = eqD _ _ := rfl
   unfold eqD
   exact EqAt.list_tuple ila ilb (Nat.lt_of_le_of_lt (Nat.le_add_right _ _) hu)
  | lst y =>
   obtain ⟨lb, wsb, zu, hqb, hrb⟩ := rep_lst.mp rb; subst zu; have zb : b = Value.ref lb := vb; subst zb; obtain ⟨itsb, rvb, plb, _⟩ := I.list hqb; have ilb := plb.isList
   have n1 : itsa.length = x.length := by rw [<- rva.length, hra.length]
   have n2 : itsb.length = y.length := by rw [<- rvb.length, hrb.length]
   have e : eqD (.lst x) (.lst y) = eqDs x y := by conv => lhs; unfold eqD
   have hd : dep (.lst x) = deps x + 1 := by conv => lhs; unfold dep
   rw [hd] at hu
   have hin : A.in1.units + deps x < cLine := by show A.units + 1 + deps x < cLine; omega
   by_cases hll : la = lb
   ·subst hll
    have := Rep.inj I px py ra rb
    rw [this, eqD_refl _ py]
    exact EqAt.same _
   ·rw [e]
    by_cases hsz : itsa.length = itsb.length
    ·have e3 : eqDs x y = (List.range itsa.toArray.size).all (pairE x y) := by rw [<- eqDs_all, List.size_toArray, n1]; simp [show x.length = y.length by omega]
     rw [e3]
     refine EqAt.of_refs hll (RcAt.lists ila ilb (by simpa using hsz) (by omega) fun j j1 j2 => ?_)
     have := eqAt_reps I x y A.in1 wsa wsb itsa itsb hra hrb rva rvb hin (by simpa using px) (by simpa using py) j (by simpa using j1) (by simpa using j2)
     simpa using this
    ·rw [eqDs_other (by omega)]
     exact EqAt.of_refs hll (RcAt.lists_lengths ila ilb (by simpa using hsz) (by omega))
 | .dct _ _ _, y, A, v, u, a, b, ra, rb, va, vb, hu, px, py => by simp at px
 | .ins _ _ _, y, A, v, u, a, b, ra, rb, va, vb, hu, px, py => by simp at px
 | .exn _ _ _, y, A, v, u, a, b, ra, rb, va, vb, hu, px, py => by simp at px
 | .fn _, y, A, v, u, a, b, ra, rb, va, vb, hu, px, py => by simp at px
theorem eqAt_reps (I : Inv X pins σ H s) : ∀ (xs ys : List D) (A : Around) (vs us : List V) (as bs : List Value), Reps X.K H xs vs -> Reps X.K H ys us -> Vals vs as -> Vals us bs -> A.units + deps xs < cLine -> plains xs = true -> plains ys = true -> ∀ (j : Nat) (h1 : j < as.length) (h2 : j < bs.length), EqAt A s as[j] bs[j] (pairE xs ys j)
 | [], _, A, vs, us, as, bs, ra, rb, va, vb, hu, px, py, j, h1, h2 => by
  have e := reps_nil.mp ra; subst e; cases va; exact absurd h1 (Nat.not_lt_zero _)
 | x :: xs, [], A, vs, us, as, bs, ra, rb, va, vb, hu, px, py, j, h1, h2 => by
  have e := reps_nil.mp rb; subst e; cases vb; exact absurd h2 (Nat.not_lt_zero _)
 | x :: xs, y :: ys, A, vs, us, as, bs, ra, rb, va, vb, hu, px, py, j, h1, h2 => by
  obtain ⟨v, r, e, p1, p2⟩ := reps_cons.mp ra; subst e
  obtain ⟨u, r', e, q1, q2⟩ := reps_cons.mp rb; subst e
  have hd : deps (x :: xs) = max (dep x) (deps xs) := by conv => lhs; unfold deps
  rw [hd] at hu
  simp only [plains_cons, Bool.and_eq_true] at px py
  cases va with
  | cons va vas =>
   cases vb with
   | cons vb vbs =>
    cases j with
    | zero => exact eqAt_rep I x y A v u _ _ p1 q1 va vb (by omega) px.1 py.1
    | succ j => exact eqAt_reps I xs ys A r r' _ _ p2 q2 vas vbs (by omega) px.2 py.2 j (Nat.lt_of_succ_lt_succ h1) (Nat.lt_of_succ_lt_succ h2)
end
theorem rcAt_rep (I : Inv X pins σ H s) : ∀ (x y : D) (A : Around) (v u : V) (a b : Value), Rep X.K H x v -> Rep X.K H y u -> RelV v a -> RelV u b -> A.units + dep x < cLine -> plain x = true -> plain y = true -> RcAt A s a b (eqD x y)
 | .non, y, A, v, u, a, b, ra, rb, va, vb, hu, px, py => by
  have zv := rep_non.mp ra; subst zv; have za : a = Value.none := va; subst za
  cases y with
  | dct _ _ _ => simp at py
  | ins _ _ _ => simp at py
  | exn _ _ _ => simp at py
  | fn _ => simp at py
  | non =>
   have zu := rep_non.mp rb; subst zu; have zb : b = Value.none := vb; subst zb
   have e : eqD (.non) (.non) = eqD _ _ := rfl
   unfold eqD
   exact RcAt.none_none
  | bl y =>
   have zu := rep_bl.mp rb; subst zu; have zb : b = Value.bool y := vb; subst zb
   have e : eqD (.non) (.bl y) = eqD _ _ := rfl
   unfold eqD
   exact RcAt.none_bool y
  | int y =>
   have zu := rep_int.mp rb; subst zu; obtain ⟨tb, zb⟩ : ∃ t, b = Value.int y t := vb; subst zb
   have e : eqD (.non) (.int y) = eqD _ _ := rfl
   unfold eqD
   exact RcAt.none_int y tb
  | str y =>
   have zu := rep_str.mp rb; subst zu; obtain ⟨tb, zb⟩ : ∃ t, b = Value.str ⟨y.toArray⟩ t := vb; subst zb
   have e : eqD (.non) (.str y) = eqD _ _ := rfl
   unfold eqD
   exact RcAt.none_str _ tb
  | tup y =>
   obtain ⟨lb, wsb, zu, hqb, hrb⟩ := rep_tup_mp rb; subst zu; have zb : b = Value.ref lb := vb; subst zb; obtain ⟨itsb, rvb, plb, _⟩ := I.tuple hqb; have ilb : s.heap.IsTuple lb itsb.toArray := plb
   have e : eqD (.non) (.tup y) = eqD _ _ := rfl
   unfold eqD
   exact RcAt.none_tuple ilb (Nat.lt_of_le_of_lt (Nat.le_add_right _ _) hu)
  | lst y =>
   obtain ⟨lb, wsb, zu, hqb, hrb⟩ := rep_lst.mp rb; subst zu; have zb : b = Value.ref lb := vb; subst zb; obtain ⟨itsb, rvb, plb, _⟩ := I.list hqb; have ilb := plb.isList
   have e : eqD (.non) (.lst y) = eqD _ _ := rfl
   unfold eqD
   exact RcAt.none_list ilb (Nat.lt_of_le_of_lt (Nat.le_add_right _ _) hu)
 | .bl x, y, A, v, u, a, b, ra, rb, va, vb, hu, px, py => by
  have zv := rep_bl.mp ra; subst zv; have za : a = Value.bool x := va; subst za
  cases y with
  | dct _ _ _ => simp at py
  | ins _ _ _ => simp at py
  | exn _ _ _ => simp at py
  | fn _ => simp at py
  | non =>
   have zu := rep_non.mp rb; subst zu; have zb : b = Value.none := vb; subst zb
   have e : eqD (.bl x) (.non) = eqD _ _ := rfl
   unfold eqD
   exact RcAt.bool_none x
  | bl y =>
   have zu := rep_bl.mp rb; subst zu; have zb : b = Value.bool y := vb; subst zb
   have e : eqD (.bl x) (.bl y) = eqD _ _ := rfl
   unfold eqD
   exact RcAt.bool_bool x y
  | int y =>
   have zu := rep_int.mp rb; subst zu; obtain ⟨tb, zb⟩ : ∃ t, b = Value.int y t := vb; subst zb
   have e : eqD (.bl x) (.int y) = eqD _ _ := rfl
   unfold eqD
   exact RcAt.bool_int x y tb
  | str y =>
   have zu := rep_str.mp rb; subst zu; obtain ⟨tb, zb⟩ : ∃ t, b = Value.str ⟨y.toArray⟩ t := vb; subst zb
   have e : eqD (.bl x) (.str y) = eqD _ _ := rfl
   unfold eqD
   exact RcAt.bool_str x _ tb
  | tup y =>
   obtain ⟨lb, wsb, zu, hqb, hrb⟩ := rep_tup_mp rb; subst zu; have zb : b = Value.ref lb := vb; subst zb; obtain ⟨itsb, rvb, plb, _⟩ := I.tuple hqb; have ilb : s.heap.IsTuple lb itsb.toArray := plb
   have e : eqD (.bl x) (.tup y) = eqD _ _ := rfl
   unfold eqD
   exact RcAt.bool_tuple x ilb (Nat.lt_of_le_of_lt (Nat.le_add_right _ _) hu)
  | lst y =>
   obtain ⟨lb, wsb, zu, hqb, hrb⟩ := rep_lst.mp rb; subst zu; have zb : b = Value.ref lb := vb; subst zb; obtain ⟨itsb, rvb, plb, _⟩ := I.list hqb; have ilb := plb.isList
   have e : eqD (.bl x) (.lst y) = eqD _ _ := rfl
   unfold eqD
   exact RcAt.bool_list x ilb (Nat.lt_of_le_of_lt (Nat.le_add_right _ _) hu)
 | .int x, y, A, v, u, a, b, ra, rb, va, vb, hu, px, py => by
  have zv := rep_int.mp ra; subst zv; obtain ⟨ta, za⟩ : ∃ t, a = Value.int x t := va; subst za
  cases y with
  | dct _ _ _ => simp at py
  | ins _ _ _ => simp at py
  | exn _ _ _ => simp at py
  | fn _ => simp at py
  | non =>
   have zu := rep_non.mp rb; subst zu; have zb : b = Value.none := vb; subst zb
   have e : eqD (.int x) (.non) = eqD _ _ := rfl
   unfold eqD
   exact RcAt.int_none x ta
  | bl y =>
   have zu := rep_bl.mp rb; subst zu; have zb : b = Value.bool y := vb; subst zb
   have e : eqD (.int x) (.bl y) = eqD _ _ := rfl
   unfold eqD
   exact RcAt.int_bool x ta y
  | int y =>
   have zu := rep_int.mp rb; subst zu; obtain ⟨tb, zb⟩ : ∃ t, b = Value.int y t := vb; subst zb
   have e : eqD (.int x) (.int y) = eqD _ _ := rfl
   unfold eqD
   exact RcAt.int_int x ta y tb
  | str y =>
   have zu := rep_str.mp rb; subst zu; obtain ⟨tb, zb⟩ : ∃ t, b = Value.str ⟨y.toArray⟩ t := vb; subst zb
   have e : eqD (.int x) (.str y) = eqD _ _ := rfl
   unfold eqD
   exact RcAt.int_str x ta _ tb
  | tup y =>
   obtain ⟨lb, wsb, zu, hqb, hrb⟩ := rep_tup_mp rb; subst zu; have zb : b = Value.ref lb := vb; subst zb; obtain ⟨itsb, rvb, plb, _⟩ := I.tuple hqb; have ilb : s.heap.IsTuple lb itsb.toArray := plb
   have e : eqD (.int x) (.tup y) = eqD _ _ := rfl
   unfold eqD
   exact RcAt.int_tuple x ta ilb (Nat.lt_of_le_of_lt (Nat.le_add_right _ _) hu)
  | lst y =>
   obtain ⟨lb, wsb, zu, hqb, hrb⟩ := rep_lst.mp rb; subst zu; have zb : b = Value.ref lb := vb; subst zb; obtain ⟨itsb, rvb, plb, _⟩ := I.list hqb; have ilb := plb.isList
   have e : eqD (.int x) (.lst y) = eqD _ _ := rfl
   unfold eqD
   exact RcAt.int_list x ta ilb (Nat.lt_of_le_of_lt (Nat.le_add_right _ _) hu)
 | .str x, y, A, v, u, a, b, ra, rb, va, vb, hu, px, py => by
  have zv := rep_str.mp ra; subst zv; obtain ⟨ta, za⟩ : ∃ t, a = Value.str ⟨x.toArray⟩ t := va; subst za
  cases y with
  | dct _ _ _ => simp at py
  | ins _ _ _ => simp at py
  | exn _ _ _ => simp at py
  | fn _ => simp at py
  | non =>
   have zu := rep_non.mp rb; subst zu; have zb : b = Value.none := vb; subst zb
   have e : eqD (.str x) (.non) = eqD _ _ := rfl
   unfold eqD
   exact RcAt.str_none _ ta
  | bl y =>
   have zu := rep_bl.mp rb; subst zu; have zb : b = Value.bool y := vb; subst zb
   have e : eqD (.str x) (.bl y) = eqD _ _ := rfl
   unfold eqD
   exact RcAt.str_bool _ ta y
  | int y =>
   have zu := rep_int.mp rb; subst zu; obtain ⟨tb, zb⟩ : ∃ t, b = Value.int y t := vb; subst zb
   have e : eqD (.str x) (.int y) = eqD _ _ := rfl
   unfold eqD
   exact RcAt.str_int _ ta y tb
  | str y =>
   have zu := rep_str.mp rb; subst zu; obtain ⟨tb, zb⟩ : ∃ t, b = Value.str ⟨y.toArray⟩ t := vb; subst zb
   have e : eqD (.str x) (.str y) = ((⟨x.toArray⟩ : Str) == ⟨y.toArray⟩) := by rw [<- str_beq]; unfold eqD; simp
   rw [e]
   exact RcAt.str_str _ ta _ tb
  | tup y =>
   obtain ⟨lb, wsb, zu, hqb, hrb⟩ := rep_tup_mp rb; subst zu; have zb : b = Value.ref lb := vb; subst zb; obtain ⟨itsb, rvb, plb, _⟩ := I.tuple hqb; have ilb : s.heap.IsTuple lb itsb.toArray := plb
   have e : eqD (.str x) (.tup y) = eqD _ _ := rfl
   unfold eqD
   exact RcAt.str_tuple _ ta ilb (Nat.lt_of_le_of_lt (Nat.le_add_right _ _) hu)
  | lst y =>
   obtain ⟨lb, wsb, zu, hqb, hrb⟩ := rep_lst.mp rb; subst zu; have zb : b = Value.ref lb := vb; subst zb; obtain ⟨itsb, rvb, plb, _⟩ := I.list hqb; have ilb := plb.isList
   have e : eqD (.str x) (.lst y) = eqD _ _ := rfl
   unfold eqD
   exact RcAt.str_list _ ta ilb (Nat.lt_of_le_of_lt (Nat.le_add_right _ _) hu)
 | .tup x, y, A, v, u, a, b, ra, rb, va, vb, hu, px, py => by
  obtain ⟨la, wsa, zv, hqa, hra⟩ := rep_tup_mp ra; subst zv; have za : a = Value.ref la := va; subst za; obtain ⟨itsa, rva, pla, _⟩ := I.tuple hqa; have ila : s.heap.IsTuple la itsa.toArray := pla
  cases y with
  | dct _ _ _ => simp at py
  | ins _ _ _ => simp at py
  | exn _ _ _ => simp at py
  | fn _ => simp at py
  | non =>
   have zu := rep_non.mp rb; subst zu; have zb : b = Value.none := vb; subst zb
   have e : eqD (.tup x) (.non) = eqD _ _ := rfl
   unfold eqD
   exact RcAt.tuple_none ila (Nat.lt_of_le_of_lt (Nat.le_add_right _ _) hu)
  | bl y =>
   have zu := rep_bl.mp rb; subst zu; have zb : b = Value.bool y := vb; subst zb
   have e : eqD (.tup x) (.bl y) = eqD _ _ := rfl
   unfold eqD
   exact RcAt.tuple_bool y ila (Nat.lt_of_le_of_lt (Nat.le_add_right _ _) hu)
  | int y =>
   have zu := rep_int.mp rb; subst zu; obtain ⟨tb, zb⟩ : ∃ t, b = Value.int y t := vb; subst zb
   have e : eqD (.tup x) (.int y) = eqD _ _ := rfl
   unfold eqD
   exact RcAt.tuple_int y tb ila (Nat.lt_of_le_of_lt (Nat.le_add_right _ _) hu)
  | str y =>
   have zu := rep_str.mp rb; subst zu; obtain ⟨tb, zb⟩ : ∃ t, b = Value.str ⟨y.toArray⟩ t := vb; subst zb
   have e : eqD (.tup x) (.str y) = eqD _ _ := rfl
   unfold eqD
   exact RcAt.tuple_str _ tb ila (Nat.lt_of_le_of_lt (Nat.le_add_right _ _) hu)
  | tup y =>
   obtain ⟨lb, wsb, zu, hqb, hrb⟩ := rep_tup_mp rb; subst zu; have zb : b = Value.ref lb := vb; subst zb; obtain ⟨itsb, rvb, plb, _⟩ := I.tuple hqb; have ilb : s.heap.IsTuple lb itsb.toArray := plb
   have n1 : itsa.length = x.length := by rw [<- rva.length, hra.length]
   have n2 : itsb.length = y.length := by rw [<- rvb.length, hrb.length]
   have e : eqD (.tup x) (.tup y) = eqDs x y := by conv => lhs; unfold eqD
   have hd : dep (.tup x) = deps x + 1 := by conv => lhs; unfold dep
   rw [hd] at hu
   have hin : A.in1.units + deps x < cLine := by show A.units + 1 + deps x < cLine; omega
   rw [e]
   have e3 : eqDs x y = ((List.range (min itsa.toArray.size itsb.toArray.size)).all (pairE x y) && itsa.toArray.size == itsb.toArray.size) := by rw [<- eqDs_all, List.size_toArray, List.size_toArray, n1, n2]
   rw [e3]
   refine  (RcAt.tuples ila ilb (by omega) fun j j1 j2 => ?_)
   have := eqAt_reps I x y A.in1 wsa wsb itsa itsb hra hrb rva rvb hin (by simpa using px) (by simpa using py) j (by simpa using j1) (by simpa using j2)
   simpa using this
  | lst y =>
   obtain ⟨lb, wsb, zu, hqb, hrb⟩ := rep_lst.mp rb; subst zu; have zb : b = Value.ref lb := vb; subst zb; obtain ⟨itsb, rvb, plb, _⟩ := I.list hqb; have ilb := plb.isList
   have e : eqD (.tup x) (.lst y) = eqD _ _ := rfl
   unfold eqD
   exact RcAt.tuple_list ila ilb (Nat.lt_of_le_of_lt (Nat.le_add_right _ _) hu)
 | .lst x, y, A, v, u, a, b, ra, rb, va, vb, hu, px, py => by
  obtain ⟨la, wsa, zv, hqa, hra⟩ := rep_lst.mp ra; subst zv; have za : a = Value.ref la := va; subst za; obtain ⟨itsa, rva, pla, _⟩ := I.list hqa; have ila := pla.isList
  cases y with
  | dct _ _ _ => simp at py
  | ins _ _ _ => simp at py
  | exn _ _ _ => simp at py
  | fn _ => simp at py
  | non =>
   have zu := rep_non.mp rb; subst zu; have zb : b = Value.none := vb; subst zb
   have e : eqD (.lst x) (.non) = eqD _ _ := rfl
   unfold eqD
   exact RcAt.list_none ila (Nat.lt_of_le_of_lt (Nat.le_add_right _ _) hu)
  | bl y =>
   have zu := rep_bl.mp rb; subst zu; have zb : b = Value.bool y := vb; subst zb
   have e : eqD (.lst x) (.bl y) = eqD _ _ := rfl
   unfold eqD
   exact RcAt.list_bool y ila (Nat.lt_of_le_of_lt (Nat.le_add_right _ _) hu)
  | int y =>
   have zu := rep_int.mp rb; subst zu; obtain ⟨tb, zb⟩ : ∃ t, b = Value.int y t := vb; subst zb
   have e : eqD (.lst x) (.int y) = eqD _ _ := rfl
   unfold eqD
   exact RcAt.list_int y tb ila (Nat.lt_of_le_of_lt (Nat.le_add_right _ _) hu)
  | str y =>
   have zu := rep_str.mp rb; subst zu; obtain ⟨tb, zb⟩ : ∃ t, b = Value.str ⟨y.toArray⟩ t := vb; subst zb
   have e : eqD (.lst x) (.str y) = eqD _ _ := rfl
   unfold eqD
   exact RcAt.list_str _ tb ila (Nat.lt_of_le_of_lt (Nat.le_add_right _ _) hu)
  | tup y =>
   obtain ⟨lb, wsb, zu, hqb, hrb⟩ := rep_tup_mp rb; subst zu; have zb : b = Value.ref lb := vb; subst zb; obtain ⟨itsb, rvb, plb, _⟩ := I.tuple hqb; have ilb : s.heap.IsTuple lb itsb.toArray := plb
   have e : eqD (.lst x) (.tup y) = eqD _ _ := rfl
   unfold eqD
   exact RcAt.list_tuple ila ilb (Nat.lt_of_le_of_lt (Nat.le_add_right _ _) hu)
  | lst y =>
   obtain ⟨lb, wsb, zu, hqb, hrb⟩ := rep_lst.mp rb; subst zu; have zb : b = Value.ref lb := vb; subst zb; obtain ⟨itsb, rvb, plb, _⟩ := I.list hqb; have ilb := plb.isList
   have n1 : itsa.length = x.length := by rw [<- rva.length, hra.length]
   have n2 : itsb.length = y.length := by rw [<- rvb.length, hrb.length]
   have e : eqD (.lst x) (.lst y) = eqDs x y := by conv => lhs; unfold eqD
   have hd : dep (.lst x) = deps x + 1 := by conv => lhs; unfold dep
   rw [hd] at hu
   have hin : A.in1.units + deps x < cLine := by show A.units + 1 + deps x < cLine; omega
   rw [e]
   by_cases hsz : itsa.length = itsb.length
   ·have e3 : eqDs x y = (List.range itsa.toArray.size).all (pairE x y) := by rw [<- eqDs_all, List.size_toArray, n1]; simp [show x.length = y.length by omega]
    rw [e3]
    refine  (RcAt.lists ila ilb (by simpa using hsz) (by omega) fun j j1 j2 => ?_)
    have := eqAt_reps I x y A.in1 wsa wsb itsa itsb hra hrb rva rvb hin (by simpa using px) (by simpa using py) j (by simpa using j1) (by simpa using j2)
    simpa using this
   ·rw [eqDs_other (by omega)]
    exact  (RcAt.lists_lengths ila ilb (by simpa using hsz) (by omega))
 | .dct _ _ _, y, A, v, u, a, b, ra, rb, va, vb, hu, px, py => by simp at px
 | .ins _ _ _, y, A, v, u, a, b, ra, rb, va, vb, hu, px, py => by simp at px
 | .exn _ _ _, y, A, v, u, a, b, ra, rb, va, vb, hu, px, py => by simp at px
 | .fn _, y, A, v, u, a, b, ra, rb, va, vb, hu, px, py => by simp at px
theorem rcNe_rep (I : Inv X pins σ H s) : ∀ (x y : D) (A : Around) (v u : V) (a b : Value), Rep X.K H x v -> Rep X.K H y u -> RelV v a -> RelV u b -> A.units + dep x < cLine -> plain x = true -> plain y = true -> RcNeAt A s a b (!eqD x y)
 | .non, y, A, v, u, a, b, ra, rb, va, vb, hu, px, py => by
  have zv := rep_non.mp ra; subst zv; have za : a = Value.none := va; subst za
  cases y with
  | dct _ _ _ => simp at py
  | ins _ _ _ => simp at py
  | exn _ _ _ => simp at py
  | fn _ => simp at py
  | non =>
   have zu := rep_non.mp rb; subst zu; have zb : b = Value.none := vb; subst zb
   have e : eqD (.non) (.non) = eqD _ _ := rfl
   unfold eqD
   exact RcNeAt.none_none
  | bl y =>
   have zu := rep_bl.mp rb; subst zu; have zb : b = Value.bool y := vb; subst zb
   have e : eqD (.non) (.bl y) = eqD _ _ := rfl
   unfold eqD
   exact RcNeAt.none_bool y
  | int y =>
   have zu := rep_int.mp rb; subst zu; obtain ⟨tb, zb⟩ : ∃ t, b = Value.int y t := vb; subst zb
   have e : eqD (.non) (.int y) = eqD _ _ := rfl
   unfold eqD
   exact RcNeAt.none_int y tb
  | str y =>
   have zu := rep_str.mp rb; subst zu; obtain ⟨tb, zb⟩ : ∃ t, b = Value.str ⟨y.toArray⟩ t := vb; subst zb
   have e : eqD (.non) (.str y) = eqD _ _ := rfl
   unfold eqD
   exact RcNeAt.none_str _ tb
  | tup y =>
   obtain ⟨lb, wsb, zu, hqb, hrb⟩ := rep_tup_mp rb; subst zu; have zb : b = Value.ref lb := vb; subst zb; obtain ⟨itsb, rvb, plb, _⟩ := I.tuple hqb; have ilb : s.heap.IsTuple lb itsb.toArray := plb
   have e : eqD (.non) (.tup y) = eqD _ _ := rfl
   unfold eqD
   exact RcNeAt.none_tuple ilb (Nat.lt_of_le_of_lt (Nat.le_add_right _ _) hu)
  | lst y =>
   obtain ⟨lb, wsb, zu, hqb, hrb⟩ := rep_lst.mp rb; subst zu; have zb : b = Value.ref lb := vb; subst zb; obtain ⟨itsb, rvb, plb, _⟩ := I.list hqb; have ilb := plb.isList
   have e : eqD (.non) (.lst y) = eqD _ _ := rfl
   unfold eqD
   exact RcNeAt.none_list ilb (Nat.lt_of_le_of_lt (Nat.le_add_right _ _) hu)
 | .bl x, y, A, v, u, a, b, ra, rb, va, vb, hu, px, py => by
  have zv := rep_bl.mp ra; subst zv; have za : a = Value.bool x := va; subst za
  cases y with
  | dct _ _ _ => simp at py
  | ins _ _ _ => simp at py
  | exn _ _ _ => simp at py
  | fn _ => simp at py
  | non =>
   have zu := rep_non.mp rb; subst zu; have zb : b = Value.none := vb; subst zb
   have e : eqD (.bl x) (.non) = eqD _ _ := rfl
   unfold eqD
   exact RcNeAt.bool_none x
  | bl y =>
   have zu := rep_bl.mp rb; subst zu; have zb : b = Value.bool y := vb; subst zb
   have e : eqD (.bl x) (.bl y) = eqD _ _ := rfl
   unfold eqD
   exact RcNeAt.bool_bool x y
  | int y =>
   have zu := rep_int.mp rb; subst zu; obtain ⟨tb, zb⟩ : ∃ t, b = Value.int y t := vb; subst zb
   have e : eqD (.bl x) (.int y) = eqD _ _ := rfl
   unfold eqD
   exact RcNeAt.bool_int x y tb
  | str y =>
   have zu := rep_str.mp rb; subst zu; obtain ⟨tb, zb⟩ : ∃ t, b = Value.str ⟨y.toArray⟩ t := vb; subst zb
   have e : eqD (.bl x) (.str y) = eqD _ _ := rfl
   unfold eqD
   exact RcNeAt.bool_str x _ tb
  | tup y =>
   obtain ⟨lb, wsb, zu, hqb, hrb⟩ := rep_tup_mp rb; subst zu; have zb : b = Value.ref lb := vb; subst zb; obtain ⟨itsb, rvb, plb, _⟩ := I.tuple hqb; have ilb : s.heap.IsTuple lb itsb.toArray := plb
   have e : eqD (.bl x) (.tup y) = eqD _ _ := rfl
   unfold eqD
   exact RcNeAt.bool_tuple x ilb (Nat.lt_of_le_of_lt (Nat.le_add_right _ _) hu)
  | lst y =>
   obtain ⟨lb, wsb, zu, hqb, hrb⟩ := rep_lst.mp rb; subst zu; have zb : b = Value.ref lb := vb; subst zb; obtain ⟨itsb, rvb, plb, _⟩ := I.list hqb; have ilb := plb.isList
   have e : eqD (.bl x) (.lst y) = eqD _ _ := rfl
   unfold eqD
   exact RcNeAt.bool_list x ilb (Nat.lt_of_le_of_lt (Nat.le_add_right _ _) hu)
 | .int x, y, A, v, u, a, b, ra, rb, va, vb, hu, px, py => by
  have zv := rep_int.mp ra; subst zv; obtain ⟨ta, za⟩ : ∃ t, a = Value.int x t := va; subst za
  cases y with
  | dct _ _ _ => simp at py
  | ins _ _ _ => simp at py
  | exn _ _ _ => simp at py
  | fn _ => simp at py
  | non =>
   have zu := rep_non.mp rb; subst zu; have zb : b = Value.none := vb; subst zb
   have e : eqD (.int x) (.non) = eqD _ _ := rfl
   unfold eqD
   exact RcNeAt.int_none x ta
  | bl y =>
   have zu := rep_bl.mp rb; subst zu; have zb : b = Value.bool y := vb; subst zb
   have e : eqD (.int x) (.bl y) = eqD _ _ := rfl
   unfold eqD
   exact RcNeAt.int_bool x ta y
  | int y =>
   have zu := rep_int.mp rb; subst zu; obtain ⟨tb, zb⟩ : ∃ t, b = Value.int y t := vb; subst zb
   have e : eqD (.int x) (.int y) = eqD _ _ := rfl
   unfold eqD
   exact RcNeAt.int_int x ta y tb
  | str y =>
   have zu := rep_str.mp rb; subst zu; obtain ⟨tb, zb⟩ : ∃ t, b = Value.str ⟨y.toArray⟩ t := vb; subst zb
   have e : eqD (.int x) (.str y) = eqD _ _ := rfl
   unfold eqD
   exact RcNeAt.int_str x ta _ tb
  | tup y =>
   obtain ⟨lb, wsb, zu, hqb, hrb⟩ := rep_tup_mp rb; subst zu; have zb : b = Value.ref lb := vb; subst zb; obtain ⟨itsb, rvb, plb, _⟩ := I.tuple hqb; have ilb : s.heap.IsTuple lb itsb.toArray := plb
   have e : eqD (.int x) (.tup y) = eqD _ _ := rfl
   unfold eqD
   exact RcNeAt.int_tuple x ta ilb (Nat.lt_of_le_of_lt (Nat.le_add_right _ _) hu)
  | lst y =>
   obtain ⟨lb, wsb, zu, hqb, hrb⟩ := rep_lst.mp rb; subst zu; have zb : b = Value.ref lb := vb; subst zb; obtain ⟨itsb, rvb, plb, _⟩ := I.list hqb; have ilb := plb.isList
   have e : eqD (.int x) (.lst y) = eqD _ _ := rfl
   unfold eqD
   exact RcNeAt.int_list x ta ilb (Nat.lt_of_le_of_lt (Nat.le_add_right _ _) hu)
 | .str x, y, A, v, u, a, b, ra, rb, va, vb, hu, px, py => by
  have zv := rep_str.mp ra; subst zv; obtain ⟨ta, za⟩ : ∃ t, a = Value.str ⟨x.toArray⟩ t := va; subst za
  cases y with
  | dct _ _ _ => simp at py
  | ins _ _ _ => simp at py
  | exn _ _ _ => simp at py
  | fn _ => simp at py
  | non =>
   have zu := rep_non.mp rb; subst zu; have zb : b = Value.none := vb; subst zb
   have e : eqD (.str x) (.non) = eqD _ _ := rfl
   unfold eqD
   exact RcNeAt.str_none _ ta
  | bl y =>
   have zu := rep_bl.mp rb; subst zu; have zb : b = Value.bool y := vb; subst zb
   have e : eqD (.str x) (.bl y) = eqD _ _ := rfl
   unfold eqD
   exact RcNeAt.str_bool _ ta y
  | int y =>
   have zu := rep_int.mp rb; subst zu; obtain ⟨tb, zb⟩ : ∃ t, b = Value.int y t := vb; subst zb
   have e : eqD (.str x) (.int y) = eqD _ _ := rfl
   unfold eqD
   exact RcNeAt.str_int _ ta y tb
  | str y =>
   have zu := rep_str.mp rb; subst zu; obtain ⟨tb, zb⟩ : ∃ t, b = Value.str ⟨y.toArray⟩ t := vb; subst zb
   have e : eqD (.str x) (.str y) = ((⟨x.toArray⟩ : Str) == ⟨y.toArray⟩) := by rw [<- str_beq]; unfold eqD; simp
   rw [e]
   exact RcNeAt.str_str _ ta _ tb
  | tup y =>
   obtain ⟨lb, wsb, zu, hqb, hrb⟩ := rep_tup_mp rb; subst zu; have zb : b = Value.ref lb := vb; subst zb; obtain ⟨itsb, rvb, plb, _⟩ := I.tuple hqb; have ilb : s.heap.IsTuple lb itsb.toArray := plb
   have e : eqD (.str x) (.tup y) = eqD _ _ := rfl
   unfold eqD
   exact RcNeAt.str_tuple _ ta ilb (Nat.lt_of_le_of_lt (Nat.le_add_right _ _) hu)
  | lst y =>
   obtain ⟨lb, wsb, zu, hqb, hrb⟩ := rep_lst.mp rb; subst zu; have zb : b = Value.ref lb := vb; subst zb; obtain ⟨itsb, rvb, plb, _⟩ := I.list hqb; have ilb := plb.isList
   have e : eqD (.str x) (.lst y) = eqD _ _ := rfl
   unfold eqD
   exact RcNeAt.str_list _ ta ilb (Nat.lt_of_le_of_lt (Nat.le_add_right _ _) hu)
 | .tup x, y, A, v, u, a, b, ra, rb, va, vb, hu, px, py => by
  obtain ⟨la, wsa, zv, hqa, hra⟩ := rep_tup_mp ra; subst zv; have za : a = Value.ref la := va; subst za; obtain ⟨itsa, rva, pla, _⟩ := I.tuple hqa; have ila : s.heap.IsTuple la itsa.toArray := pla
  cases y with
  | dct _ _ _ => simp at py
  | ins _ _ _ => simp at py
  | exn _ _ _ => simp at py
  | fn _ => simp at py
  | non =>
   have zu := rep_non.mp rb; subst zu; have zb : b = Value.none := vb; subst zb
   have e : eqD (.tup x) (.non) = eqD _ _ := rfl
   unfold eqD
   exact RcNeAt.tuple_none ila (Nat.lt_of_le_of_lt (Nat.le_add_right _ _) hu)
  | bl y =>
   have zu := rep_bl.mp rb; subst zu; have zb : b = Value.bool y := vb; subst zb
   have e : eqD (.tup x) (.bl y) = eqD _ _ := rfl
   unfold eqD
   exact RcNeAt.tuple_bool y ila (Nat.lt_of_le_of_lt (Nat.le_add_right _ _) hu)
  | int y =>
   have zu := rep_int.mp rb; subst zu; obtain ⟨tb, zb⟩ : ∃ t, b = Value.int y t := vb; subst zb
   have e : eqD (.tup x) (.int y) = eqD _ _ := rfl
   unfold eqD
   exact RcNeAt.tuple_int y tb ila (Nat.lt_of_le_of_lt (Nat.le_add_right _ _) hu)
  | str y =>
   have zu := rep_str.mp rb; subst zu; obtain ⟨tb, zb⟩ : ∃ t, b = Value.str ⟨y.toArray⟩ t := vb; subst zb
   have e : eqD (.tup x) (.str y) = eqD _ _ := rfl
   unfold eqD
   exact RcNeAt.tuple_str _ tb ila (Nat.lt_of_le_of_lt (Nat.le_add_right _ _) hu)
  | tup y =>
   obtain ⟨lb, wsb, zu, hqb, hrb⟩ := rep_tup_mp rb; subst zu; have zb : b = Value.ref lb := vb; subst zb; obtain ⟨itsb, rvb, plb, _⟩ := I.tuple hqb; have ilb : s.heap.IsTuple lb itsb.toArray := plb
   have n1 : itsa.length = x.length := by rw [<- rva.length, hra.length]
   have n2 : itsb.length = y.length := by rw [<- rvb.length, hrb.length]
   have e : eqD (.tup x) (.tup y) = eqDs x y := by conv => lhs; unfold eqD
   have hd : dep (.tup x) = deps x + 1 := by conv => lhs; unfold dep
   rw [hd] at hu
   have hin : A.in1.units + deps x < cLine := by show A.units + 1 + deps x < cLine; omega
   rw [e]
   have e3 : eqDs x y = ((List.range (min itsa.toArray.size itsb.toArray.size)).all (pairE x y) && itsa.toArray.size == itsb.toArray.size) := by rw [<- eqDs_all, List.size_toArray, List.size_toArray, n1, n2]
   rw [e3]
   refine  (RcNeAt.tuples ila ilb (by omega) fun j j1 j2 => ?_)
   have := eqAt_reps I x y A.in1 wsa wsb itsa itsb hra hrb rva rvb hin (by simpa using px) (by simpa using py) j (by simpa using j1) (by simpa using j2)
   simpa using this
  | lst y =>
   obtain ⟨lb, wsb, zu, hqb, hrb⟩ := rep_lst.mp rb; subst zu; have zb : b = Value.ref lb := vb; subst zb; obtain ⟨itsb, rvb, plb, _⟩ := I.list hqb; have ilb := plb.isList
   have e : eqD (.tup x) (.lst y) = eqD _ _ := rfl
   unfold eqD
   exact RcNeAt.tuple_list ila ilb (Nat.lt_of_le_of_lt (Nat.le_add_right _ _) hu)
 | .lst x, y, A, v, u, a, b, ra, rb, va, vb, hu, px, py => by
  obtain ⟨la, wsa, zv, hqa, hra⟩ := rep_lst.mp ra; subst zv; have za : a = Value.ref la := va; subst za; obtain ⟨itsa, rva, pla, _⟩ := I.list hqa; have ila := pla.isList
  cases y with
  | dct _ _ _ => simp at py
  | ins _ _ _ => simp at py
  | exn _ _ _ => simp at py
  | fn _ => simp at py
  | non =>
   have zu := rep_non.mp rb; subst zu; have zb : b = Value.none := vb; subst zb
   have e : eqD (.lst x) (.non) = eqD _ _ := rfl
   unfold eqD
   exact RcNeAt.list_none ila (Nat.lt_of_le_of_lt (Nat.le_add_right _ _) hu)
  | bl y =>
   have zu := rep_bl.mp rb; subst zu; have zb : b = Value.bool y := vb; subst zb
   have e : eqD (.lst x) (.bl y) = eqD _ _ := rfl
   unfold eqD
   exact RcNeAt.list_bool y ila (Nat.lt_of_le_of_lt (Nat.le_add_right _ _) hu)
  | int y =>
   have zu := rep_int.mp rb; subst zu; obtain ⟨tb, zb⟩ : ∃ t, b = Value.int y t := vb; subst zb
   have e : eqD (.lst x) (.int y) = eqD _ _ := rfl
   unfold eqD
   exact RcNeAt.list_int y tb ila (Nat.lt_of_le_of_lt (Nat.le_add_right _ _) hu)
  | str y =>
   have zu := rep_str.mp rb; subst zu; obtain ⟨tb, zb⟩ : ∃ t, b = Value.str ⟨y.toArray⟩ t := vb; subst zb
   have e : eqD (.lst x) (.str y) = eqD _ _ := rfl
   unfold eqD
   exact RcNeAt.list_str _ tb ila (Nat.lt_of_le_of_lt (Nat.le_add_right _ _) hu)
  | tup y =>
   obtain ⟨lb, wsb, zu, hqb, hrb⟩ := rep_tup_mp rb; subst zu; have zb : b = Value.ref lb := vb; subst zb; obtain ⟨itsb, rvb, plb, _⟩ := I.tuple hqb; have ilb : s.heap.IsTuple lb itsb.toArray := plb
   have e : eqD (.lst x) (.tup y) = eqD _ _ := rfl
   unfold eqD
   exact RcNeAt.list_tuple ila ilb (Nat.lt_of_le_of_lt (Nat.le_add_right _ _) hu)
  | lst y =>
   obtain ⟨lb, wsb, zu, hqb, hrb⟩ := rep_lst.mp rb; subst zu; have zb : b = Value.ref lb := vb; subst zb; obtain ⟨itsb, rvb, plb, _⟩ := I.list hqb; have ilb := plb.isList
   have n1 : itsa.length = x.length := by rw [<- rva.length, hra.length]
   have n2 : itsb.length = y.length := by rw [<- rvb.length, hrb.length]
   have e : eqD (.lst x) (.lst y) = eqDs x y := by conv => lhs; unfold eqD
   have hd : dep (.lst x) = deps x + 1 := by conv => lhs; unfold dep
   rw [hd] at hu
   have hin : A.in1.units + deps x < cLine := by show A.units + 1 + deps x < cLine; omega
   rw [e]
   by_cases hsz : itsa.length = itsb.length
   ·have e3 : eqDs x y = (List.range itsa.toArray.size).all (pairE x y) := by rw [<- eqDs_all, List.size_toArray, n1]; simp [show x.length = y.length by omega]
    rw [e3]
    refine  (RcNeAt.lists ila ilb (by simpa using hsz) (by omega) fun j j1 j2 => ?_)
    have := eqAt_reps I x y A.in1 wsa wsb itsa itsb hra hrb rva rvb hin (by simpa using px) (by simpa using py) j (by simpa using j1) (by simpa using j2)
    simpa using this
   ·rw [eqDs_other (by omega)]
    exact  (RcNeAt.lists_lengths ila ilb (by simpa using hsz) (by omega))
 | .dct _ _ _, y, A, v, u, a, b, ra, rb, va, vb, hu, px, py => by simp at px
 | .ins _ _ _, y, A, v, u, a, b, ra, rb, va, vb, hu, px, py => by simp at px
 | .exn _ _ _, y, A, v, u, a, b, ra, rb, va, vb, hu, px, py => by simp at px
 | .fn _, y, A, v, u, a, b, ra, rb, va, vb, hu, px, py => by simp at px
end
end Pu
namespace Pu
open PySem PySem.Spec PyProof.Rows L2
section
variable {X : Cx} {B : List Addr} {a b e : Expr} {f g : Ex} {pos : Pos}
theorem RepP.rep {K : PySem.W.Frag} {A : List Addr} {H : Hp} {d : D} {v : V} (h : RepP K A H d v) : Rep K H d v := by
 rcases h with h | ⟨a, k, o, ds, vs, e1, e2, e3, ko, q⟩
 ·exact h.mono (hide_sub _ _)
 ·subst e1 e2
  exact ko.rep e3 (q.mono (hide_sub _ _))
def rEqD (K : PySem.W.Frag) (neg : Bool) : R2 := fun v u H Q => ∃ x y, Rep K H x v /\ Rep K H y u /\ (dep x <= 64 /\ plain x = true /\ plain y = true) /\ Q (.bl (if neg then !eqD x y else eqD x y)) H
theorem op_eqD (hu : X.A.units + 64 < cLine) : OpR X (compareOp .Eq) (rEqD X.K false) := by
 intro pins s σ H v u a b Q I ra rb h
 obtain ⟨x, y, rx, ry, hd, q⟩ := h
 exact rcAt_rep I x y X.A v u a b rx ry ra rb (by omega) hd.2.1 hd.2.2 X.prog X.w X.xe _ ⟨.bl _, H, I, rfl, q⟩
theorem op_neD (hu : X.A.units + 64 < cLine) : OpR X (compareOp .NotEq) (rEqD X.K true) := by
 intro pins s σ H v u a b Q I ra rb h
 obtain ⟨x, y, rx, ry, hd, q⟩ := h
 exact rcNe_rep I x y X.A v u a b rx ry ra rb (by omega) hd.2.1 hd.2.2 X.prog X.w X.xe _ ⟨.bl _, H, I, rfl, q⟩
theorem sem_eq {K : PySem.W.Frag} : Sem2 K (rEqD K false) dEq := by
 intro A H x y d v u Q w rx ry e q
 obtain ⟨c, e⟩ := guardR_of e
 cases e
 exact ⟨x, y, rx.rep, ry.rep, c, q _ H (Same.refl _) (rep_bl.mpr rfl)⟩
theorem sem_ne {K : PySem.W.Frag} : Sem2 K (rEqD K true) dNe := by
 intro A H x y d v u Q w rx ry e q
 obtain ⟨c, e⟩ := guardR_of e
 cases e
 exact ⟨x, y, rx.rep, ry.rep, c, q _ H (Same.refl _) (rep_bl.mpr rfl)⟩
def tyD : D -> String
 | .non => "NoneType"
 | .bl _ => "bool"
 | .int _ => "int"
 | .str _ => "str"
 | .tup _ => "tuple"
 | .lst _ => "list"
 | .dct _ _ _ => "dict"
 | .ins _ _ _ => ""
 | .exn _ _ _ => ""
 | .fn _ => ""
structure IsT (T : String) (p : D -> Bool) : Prop where
 boot : bootBuiltins T = some (.type T)
 ans : ∀ (K : PySem.W.Frag) (d : D), bltD d = true -> PySem.W.kitOne K (.type (tyD d)) (.type T) = some (p d)
theorem call_isT {T : String} {p : D -> Bool} (h : IsT T p) : CallR X (.builtin "isinstance") (fun xs H Q => ∃ v d, xs = [v, .ty T] /\ bltD d = true /\ Rep X.K H d v /\ Q (.bl (p d)) H) := by
 intro pins s σ H xs us Q I r q
 obtain ⟨v, d, rfl, hbl, rd, q⟩ := q
 obtain ⟨u, u2, rfl, ru, ru2⟩ := r.two
 have e2 : u2 = Value.type T := ru2
 subst e2
 have fin : ∀ tk, EP X pins σ Q (.bool (p d)) { s with toks := tk } := fun tk => ⟨.bl (p d), H, I.tok tk, rfl, q⟩
 have e := h.ans X.K d hbl
 cases d with
 | non => have z := rep_non.mp rd; subst z; have z : u = Value.none := ru; subst z; exact PySem.W.kia_one PySem.W.kitx_none I.kIn True.intro e (fun z => nomatch z) fin
 | bl x => have z := rep_bl.mp rd; subst z; have z : u = Value.bool x := ru; subst z; exact PySem.W.kia_one PySem.W.kitx_bool I.kIn True.intro e (fun z => nomatch z) fin
 | int x => have z := rep_int.mp rd; subst z; obtain ⟨t, z⟩ : ∃ t, u = Value.int x t := ru; subst z; exact PySem.W.kia_one PySem.W.kitx_int I.kIn True.intro e (fun z => nomatch z) fin
 | str x => have z := rep_str.mp rd; subst z; obtain ⟨t, z⟩ : ∃ t, u = Value.str ⟨x.toArray⟩ t := ru; subst z; exact PySem.W.kia_one PySem.W.kitx_str I.kIn True.intro e (fun z => nomatch z) fin
 | tup x =>
  obtain ⟨l, vs, z, hq, _⟩ := rep_tup_mp rd; subst z
  have z : u = Value.ref l := ru; subst z
  obtain ⟨its, _, ⟨o, h1, h2, _⟩, _⟩ := I.tuple hq
  exact PySem.W.kia_one PySem.W.kitx_tuple I.kIn ⟨o, h1, h2⟩ e (fun z => nomatch z) fin
 | lst x =>
  obtain ⟨l, vs, z, hq, _⟩ := rep_lst.mp rd; subst z
  have z : u = Value.ref l := ru; subst z
  obtain ⟨its, _, ⟨o, n, h1, h2, _⟩, _⟩ := I.list hq
  exact PySem.W.kia_one PySem.W.kitx_list I.kIn ⟨o, h1, h2⟩ e (fun z => nomatch z) fin
 | dct t ks x =>
  obtain ⟨l, vs, z, hq, _⟩ := rep_dct.mp rd; subst z
  have z : u = Value.ref l := ru; subst z
  have hd : ∃ o, s.heap.get? l = some o /\ o.ExactDict := by
   rcases hq with ⟨_, kvs, hq, _⟩ | ⟨_, kvs, hq, _⟩
   ·obtain ⟨_, _, vs', _, m⟩ : kvs.length <= sizeLine /\ (l == sysModules) = false /\ ∃ vs, KV kvs vs /\ s.heap.DictOf (mixKind X.prog X.w) l vs := I.hok l _ hq
    obtain ⟨o, es, n, h1, h2, _⟩ := m
    exact ⟨o, h1, h2⟩
   ·obtain ⟨_, _, xs, _, o, es, ep, h1, h2, _⟩ := I.hok l _ hq
    exact ⟨o, h1, h2⟩
  obtain ⟨o, h1, h2⟩ := hd
  exact PySem.W.kia_one PySem.W.kitx_dict I.kIn ⟨o, h1, h2.1⟩ e (fun z => nomatch z) fin
 | ins _ _ _ => exact nomatch hbl
 | exn _ _ _ => exact nomatch hbl
 | fn _ => exact nomatch hbl
theorem i_isinst {T : Str} {S : String} {p : D -> Bool} {p0 p1 : Pos} (hT : IsT S p) (hm : X.mg "isinstance" = none) (hmT : X.mg T = none) (ha : PE X a (tP X.K B f)) (hST : bootBuiltins T = some (.type S) := by first | rfl | exact hT.boot) (hg : Gl X "isinstance" := by rfl) (hgT : Gl X T := by rfl) (hnT : T ≠ "__name__" := by decide) (hdT : (T == ("__debug__" : Str)) = false := by decide)
  (hs : starEach [a, .Name T p1] X.env = (false, eval a X.env) :: starEach [.Name T p1] X.env := by rfl) (hs2 : starEach [.Name T p1] X.env = (false, eval (.Name T p1) X.env) :: starEach [] X.env := by rfl) :
  PE X (.Call (.Name "isinstance" p0) [a, .Name T p1] [] pos) (tI X.K B (eB p f)) := by
 have hTy : PE X (.Name T p1) (tC (.ty S)) := pe_bltn hgT hmT hST rfl hnT hdT
 refine pe_imp (pe_callB (call_isT hT) hg hm boot_isinstance (pa_cons ha (pa_cons hTy pa_nil hs2) hs) (he := hs)) ?_
 rintro σ H Q ⟨A, st, d, rs, hd, q⟩
 obtain ⟨x, hx, h2⟩ := R.ok_of hd
 obtain ⟨hbl, h2⟩ := guardR_of h2
 cases h2
 exact ⟨A, st, x, rs, hx, fun v H1 s1 r1 => ⟨v, x, rfl, hbl, r1.rep, q _ H1 s1 (rep_bl.mpr rfl)⟩⟩
theorem ty_str : IsT "str" isSt := ⟨rfl, fun K d hb => by cases d <;> first | (cases hb; done) | kernel_rfl⟩
theorem ty_bool : IsT "bool" isBl := ⟨rfl, fun K d hb => by cases d <;> first | (cases hb; done) | kernel_rfl⟩
theorem ty_int : IsT "int" isIn := ⟨rfl, fun K d hb => by cases d <;> first | (cases hb; done) | kernel_rfl⟩
theorem ty_tuple : IsT "tuple" isTu := ⟨rfl, fun K d hb => by cases d <;> first | (cases hb; done) | kernel_rfl⟩
theorem ty_list : IsT "list" isLs := ⟨rfl, fun K d hb => by cases d <;> first | (cases hb; done) | kernel_rfl⟩
theorem foldl_flat (z : List Nat) : ∀ (n : Nat) (acc : List Nat), (List.replicate n z.toArray).foldl (· ++ ·) acc.toArray = (acc ++ rep n z).toArray
 | 0, acc => by simp [rep]
 | n + 1, acc => by
  rw [List.replicate_succ, List.foldl_cons]
  have e : acc.toArray ++ z.toArray = (acc ++ z).toArray := by simp
  rw [e, foldl_flat z n (acc ++ z)]
  unfold rep
  rw [List.replicate_succ, List.flatten_cons, List.append_assoc]
theorem rep_len (z : List Nat) (n : Nat) : (rep n z).length = n * z.length := by
 unfold rep
 induction n with
 | zero => simp
 | succ n ih => rw [List.replicate_succ, List.flatten_cons, List.length_append, ih, Nat.succ_mul, Nat.add_comm]
theorem rep_nil' {α : Type} (n : Nat) : rep n ([] : List α) = [] := by
 unfold rep
 induction n with
 | zero => rfl
 | succ n ih => rw [List.replicate_succ, List.flatten_cons, ih]; rfl
def rMulS : R2 := fun x y H Q => ∃ (z : List Nat) (k : Int), x = .str ⟨z.toArray⟩ /\ y = .int k /\ z.length * k.toNat <= big /\ -4611686018427387904 <= k /\ k < 4611686018427387904 /\ Q (.str ⟨(rep k.toNat z).toArray⟩) H
theorem op_mulS : OpR X (binaryOp .Mult) rMulS := by
 intro pins s σ H x y v u Q I rx ry h
 obtain ⟨z, k, rfl, rfl, hz, h1, h2, q⟩ := h
 obtain ⟨t, rfl⟩ := rx
 obtain ⟨t', rfl⟩ := ry
 have fin : ∀ tk t2, EP X pins σ Q (.str ⟨(rep k.toNat z).toArray⟩ t2) { s with toks := tk } := fun tk t2 => ⟨.str ⟨(rep k.toNat z).toArray⟩, H, I.tok tk, ⟨t2, rfl⟩, q⟩
 refine PySem.P.mul_str ?_ (fun h0 hne => ?_) (fun h0 hne => ?_) ?_
 ·have e1 : ¬ k < -(2 ^ 63 : Int) := by omega
  have e2 : ¬ k ≥ 2 ^ 63 := by omega
  rw [decide_eq_false e1, decide_eq_false e2]; rfl
 ·rw [str_len]
  have hk : 0 < k := by omega
  have hm : (z.length : Int) * k <= 10000000 := by
   have : ((z.length * k.toNat : Nat) : Int) <= 10000000 := by rw [big_eq] at hz; omega
   rw [Int.natCast_mul, Int.toNat_of_nonneg (by omega)] at this
   exact this
  intro hgt
  have : (z.length : Int) <= (2 ^ 63 - 1) / k := by
   rw [Int.le_ediv_iff_mul_le hk]
   omega
  omega
 ·rw [str_len]
  unfold Builtin.Str.tooLong
  exact decide_eq_false (by have : sizeLine = 16777216 := by decide
                            have hbg := big_eq
                            omega)
 ·by_cases h0 : k < 1
  ·rw [if_pos h0]
   have e : rep k.toNat z = [] := by rw [show k.toNat = 0 by omega]; rfl
   have := fin (s.toks + 1) s.toks
   rw [e] at this
   exact ⟨by decide, this⟩
  ·rw [if_neg h0]
   by_cases h3 : (k == 1 || (⟨z.toArray⟩ : Str).length == 0) = true
   ·rw [if_pos h3]
    have e : rep k.toNat z = z := by
     simp only [Bool.or_eq_true, beq_iff_eq, str_len] at h3
     rcases h3 with h3 | h3
     ·subst h3
      show rep 1 z = z
      unfold rep
      simp
     ·rw [List.length_eq_zero_iff.mp h3, rep_nil']
    have := fin s.toks t
    rw [e] at this
    exact this
   ·rw [if_neg h3]
    have e : (List.replicate k.toNat (⟨z.toArray⟩ : Str).cps).foldl (· ++ ·) #[] = (rep k.toNat z).toArray := by
     have := foldl_flat z k.toNat []
     rw [List.nil_append] at this
     exact this
    have := fin (s.toks + 1) s.toks
    rw [e]
    refine ⟨?_, this⟩
    rw [str_len, rep_len, Nat.mul_comm]
    exact lim hz
end
end Pu
namespace Pu
open PySem PySem.Spec PyProof.Rows L2 PySem.SeqAt PySem.StrLaws
theorem subAt_list (x y : List Nat) (i : Nat) : Builtin.Str.subAt ⟨x.toArray⟩ ⟨y.toArray⟩ i = ((x.drop i).take y.length == y) := by
 rw [subAt_eq]
 simp [Str.length]
theorem occ_full (s sub : Str) (hi : Nat) : ∀ (l : List Nat) (st : Array Nat × Nat), 1 <= st.1.size -> (forIn l st (occBody s sub hi 1)).run.fst = st.1
 | [], st, h => rfl
 | a :: l, st, h => by
  rw [List.forIn_cons]
  unfold occBody
  rw [if_neg (fun z => by have := z.1.1.1; omega)]
  exact occ_full s sub hi l (st.1, st.2) h
theorem occ_find (s sub : Str) (hi : Nat) : ∀ (l : List Nat) (free : Nat), (∀ i ∈ l, free <= i) ->
  (forIn l ((#[] : Array Nat), free) (occBody s sub hi 1)).run.fst.toList = (l.find? fun i => decide (i + sub.length <= hi) && Builtin.Str.subAt s sub i).toList
 | [], free, _ => rfl
 | a :: l, free, hf => by
  rw [List.forIn_cons]
  have ha : free <= a := hf a List.mem_cons_self
  by_cases hc : a + sub.length <= hi /\ Builtin.Str.subAt s sub a = true
  ·have e : (decide (a + sub.length <= hi) && Builtin.Str.subAt s sub a) = true := by rw [hc.2, decide_eq_true hc.1]; rfl
   rw [List.find?_cons_of_pos (p := fun i => decide (i + sub.length <= hi) && Builtin.Str.subAt s sub i) e]
   have e2 : occBody s sub hi 1 a ((#[] : Array Nat), free) = pure (ForInStep.yield ((#[] : Array Nat).push a, a + sub.length)) := by
    unfold occBody
    exact if_pos ⟨⟨⟨by simp, ha⟩, hc.1⟩, hc.2⟩
   rw [e2]
   show (forIn l (((#[] : Array Nat).push a), a + sub.length) (occBody s sub hi 1)).run.fst.toList = _
   rw [occ_full s sub hi l _ (by simp)]
   rfl
  ·have e : ¬ (decide (a + sub.length <= hi) && Builtin.Str.subAt s sub a) = true := fun z => hc (by simpa using z)
   rw [List.find?_cons_of_neg (p := fun i => decide (i + sub.length <= hi) && Builtin.Str.subAt s sub i) e]
   have e2 : occBody s sub hi 1 a ((#[] : Array Nat), free) = pure (ForInStep.yield ((#[] : Array Nat), free)) := by
    unfold occBody
    exact if_neg fun h => hc ⟨h.1.2, h.2⟩
   rw [e2]
   exact occ_find s sub hi l free fun i hi' => hf i (List.mem_cons_of_mem _ hi')
theorem occ_findN (x y : List Nat) (lo : Nat) : Builtin.Str.occurrences ⟨x.toArray⟩ ⟨y.toArray⟩ lo (⟨x.toArray⟩ : Str).length 1 = (findN x y lo).toList := by
 rw [occ_eq, occ_find _ _ _ _ _ (fun i hi => by simp [List.mem_range'] at hi; omega)]
 unfold findN
 simp only [subAt_list, str_len]
section
variable {X : Cx} {B : List Addr} {a b e o : Expr} {f g : Ex} {pos : Pos}
theorem i_mt {name : Str} {id : String} {m : Mop} {r : Exs} {es : List Expr} {apos cpos : Pos} {q : V -> List V -> Hp -> VK -> Prop} (slot : Slot "str" name id) (hty : typeOf (.builtin id) = pure (.type "method_descriptor")) (hm : MtR X id q)
  (hk : ∀ x xs d, m x xs = .ok d -> ∃ s, x = .str s) (sem : ∀ (A : List Addr) (H : Hp) (x d : D) (xs : List D) (v : V) (vs : List V) (Q : VK), Own A H -> RepP X.K A H x v -> Reps X.K (hide A H) xs vs -> m x xs = .ok d -> (∀ w H', Same H H' -> Rep X.K (hide A H') d w -> Q w H') -> q v vs H Q)
  (ho : PE X o (tP X.K B f)) (ha : PA X (e :: es) (tA X.K B r))
  (hbase : attributeBase o name X.env (eval o X.env) = eval o X.env := by rfl)
  (hfew : ((backTo cpos (starEach (e :: es) X.env)).all (fun x => !x.1) && (backToKw cpos (keywordEach [] X.env)).all (fun x => x.1.isSome)
   && decide ((e :: es).length + ([] : List Keyword).length + (if ([] : List Keyword).isEmpty then 0 else 1) < 30)) = true := by rfl)
  (hline : (apos.endLine == cpos.line) = true := by rfl) (hs : starEach (e :: es) X.env = (false, eval e X.env) :: starEach es X.env := by rfl) (hplain : (backTo cpos (starEach es X.env)).any (·.1) = false := by rfl) :
  PE X (.Call (.Attribute o name apos) (e :: es) [] cpos) (tI X.K B (eMt m f r)) := by
 refine pe_imp (pe_bm PySem.F.plainAttrs_str slot hty hm ho ha hbase hfew hline hs hplain) ?_
 rintro σ H Q ⟨A, st, d, rs, hd, k⟩
 obtain ⟨x, hx, h2⟩ := R.ok_of hd
 obtain ⟨xs, hxs, h3⟩ := R.ok_of h2
 obtain ⟨s, rfl⟩ := hk x xs d h3
 refine ⟨A, st, _, rs, hx, fun v H1 s1 r1 => ⟨?_, A, st, xs, rs.mono s1, hxs, fun vs H2 s2 r2 => ?_⟩⟩
 ·rw [r1.str]; rfl
 ·exact sem (A ++ B) H2 _ d xs v vs Q (rs.own.mono (s1.trans s2)) (r1.mono s2) r2 h3 fun w H' s' r' => k w H' (s1.trans (s2.trans s')) r'
theorem reps1 {K : PySem.W.Frag} {H : Hp} {d : D} {vs : List V} (h : Reps K H [d] vs) : ∃ v, vs = [v] /\ Rep K H d v := by
 obtain ⟨v, r, rfl, h1, h2⟩ := reps_cons.mp h
 rw [reps_nil.mp h2]
 exact ⟨v, rfl, h1⟩
theorem mt_index : MtR X "str.index" (fun x vs H Q => ∃ (s y : List Nat) (i : Nat), x = .str ⟨s.toArray⟩ /\ vs = [.str ⟨y.toArray⟩] /\ findN s y 0 = some i /\ Q (.int i) H) := by
 intro pins s σ H x vs v us Q I rx rv h
 obtain ⟨z, y, i, rfl, rfl, hi, q⟩ := h
 obtain ⟨t, rfl⟩ := rx
 obtain ⟨u, rfl, t2, rfl⟩ := rv.one
 exact SC.index (i := i) (rest := []) (by rw [occ_findN, hi]; rfl) ⟨.int _, H, I.tok _, ⟨_, rfl⟩, q⟩
end
end Pu
namespace Pu
open PySem PySem.Spec PyProof.Rows L2 PySem.SeqAt
section
variable {X : Cx} {B : List Addr} {a b e o : Expr} {f g : Ex} {pos : Pos} {r : Exs} {es : List Expr} {apos cpos : Pos}
theorem i_index (ho : PE X o (tP X.K B f)) (ha : PA X (e :: es) (tA X.K B r)) (hbase : attributeBase o "index" X.env (eval o X.env) = eval o X.env := by rfl)
  (hfew : ((backTo cpos (starEach (e :: es) X.env)).all (fun x => !x.1) && (backToKw cpos (keywordEach [] X.env)).all (fun x => x.1.isSome)
   && decide ((e :: es).length + ([] : List Keyword).length + (if ([] : List Keyword).isEmpty then 0 else 1) < 30)) = true := by rfl)
  (hline : (apos.endLine == cpos.line) = true := by rfl) (hs : starEach (e :: es) X.env = (false, eval e X.env) :: starEach es X.env := by rfl) (hplain : (backTo cpos (starEach es X.env)).any (·.1) = false := by rfl) :
  PE X (.Call (.Attribute o "index" apos) (e :: es) [] cpos) (tI X.K B (eMt mIndex f r)) := by
 refine i_mt (m := mIndex) PySem.F.slot_str_index PySem.F.type_str_index mt_index (fun x xs d h => ?_) (fun A H x d xs v vs Q w rx rxs h k => ?_) ho ha hbase hfew hline hs hplain
 ·cases x <;> first | exact ⟨_, rfl⟩ | exact nomatch h
 ·unfold mIndex at h
  split at h
  ·obtain ⟨i, hi, h⟩ := R.ok_of h
   cases h
   obtain ⟨u, rfl, ru⟩ := reps1 rxs
   exact ⟨_, _, i, rx.str, by rw [rep_str.mp ru], ofO_of hi, k _ H (Same.refl _) (rep_int.mpr rfl)⟩
  ·cases h
theorem i_max2 {p0 : Pos} (hm : X.mg "max" = none) (hc : X.calm = true) (ha : PE X a (tP X.K B f)) (hb : PE X b (tP X.K B g)) (hg : Gl X "max" := by rfl) (hs : starEach [a, b] X.env = (false, eval a X.env) :: starEach [b] X.env := by rfl)
  (hs2 : starEach [b] X.env = (false, eval b X.env) :: starEach [] X.env := by rfl) (hpl : (backTo pos (starEach [b] X.env)).any (·.1) = false := by rfl) : PE X (.Call (.Name "max" p0) [a, b] [] pos) (tI X.K B (e2 dMax2 f g)) := by
 refine pe_imp (pe_callB (call_max2 hc) hg hm (by rfl) (pa_cons ha (pa_cons hb pa_nil hs2) hs) (he := hs) (hpl := hpl)) ?_
 rintro σ H Q ⟨A, st, d, rs, hd, q⟩
 obtain ⟨x, hx, h2⟩ := R.ok_of hd
 obtain ⟨y, hy, h3⟩ := R.ok_of h2
 refine ⟨A, st, x, rs, hx, fun v H1 s1 r1 => ⟨A, st, y, rs.mono s1, hy, fun u H2 s2 r2 => ?_⟩⟩
 unfold dMax2 at h3
 split at h3
 case h_2 => cases h3
 cases h3
 exact ⟨_, _, by rw [r1.int, r2.int], q _ H2 (s1.trans s2) (rep_int.mpr rfl)⟩
theorem i_min2 {p0 : Pos} (hm : X.mg "min" = none) (hc : X.calm = true) (ha : PE X a (tP X.K B f)) (hb : PE X b (tP X.K B g)) (hg : Gl X "min" := by rfl) (hs : starEach [a, b] X.env = (false, eval a X.env) :: starEach [b] X.env := by rfl)
  (hs2 : starEach [b] X.env = (false, eval b X.env) :: starEach [] X.env := by rfl) (hpl : (backTo pos (starEach [b] X.env)).any (·.1) = false := by rfl) : PE X (.Call (.Name "min" p0) [a, b] [] pos) (tI X.K B (e2 dMin2 f g)) := by
 refine pe_imp (pe_callB (call_min2 hc) hg hm (by rfl) (pa_cons ha (pa_cons hb pa_nil hs2) hs) (he := hs) (hpl := hpl)) ?_
 rintro σ H Q ⟨A, st, d, rs, hd, q⟩
 obtain ⟨x, hx, h2⟩ := R.ok_of hd
 obtain ⟨y, hy, h3⟩ := R.ok_of h2
 refine ⟨A, st, x, rs, hx, fun v H1 s1 r1 => ⟨A, st, y, rs.mono s1, hy, fun u H2 s2 r2 => ?_⟩⟩
 unfold dMin2 at h3
 split at h3
 case h_2 => cases h3
 cases h3
 exact ⟨_, _, by rw [r1.int, r2.int], q _ H2 (s1.trans s2) (rep_int.mpr rfl)⟩
theorem i_neg (ha : PE X a (tP X.K B f)) : PE X (.UnaryOp .USub a pos) (tI X.K B (e1 dNeg f)) := by
 refine pe_imp (pe_un un_neg ha) ?_
 rintro σ H Q ⟨A, st, d, rs, hd, q⟩
 obtain ⟨x, hx, h2⟩ := R.ok_of hd
 refine ⟨A, st, x, rs, hx, fun v H1 s1 r1 => ?_⟩
 cases x <;> first | (cases h2; done) | skip
 cases h2
 exact ⟨_, r1.int, q _ H1 s1 (rep_int.mpr rfl)⟩
open Classical in
noncomputable def eqOf (K : PySem.W.Frag) (H : Hp) (x : D) (u : Value) : Bool := if ∃ d z, Rep K H d z /\ RelV z u /\ plain d = true /\ eqD d x = true then true else false
theorem eqOf_is {pins : List (Addr × Obj)} {σ : LSt} {H : Hp} {s : Shared} (I : Inv X pins σ H s) {x d : D} {z : V} {u : Value} (r : Rep X.K H d z) (rz : RelV z u) (pd : plain d = true) : eqOf X.K H x u = eqD d x := by
 unfold eqOf
 split
 ·rename_i h
  obtain ⟨d', z', r', rz', pd', e⟩ := h
  have := RelV.inj rz rz'
  subst this
  rw [Rep.inj I pd pd' r r', e]
 ·rename_i h
  cases hb : eqD d x with
  | false => rfl
  | true => exact (h ⟨d, z, r, rz, pd, hb⟩).elim
theorem any_of {pins : List (Addr × Obj)} {σ : LSt} {H : Hp} {s : Shared} (I : Inv X pins σ H s) {x : D} : ∀ {ds : List D} {zs : List V} {us : List Value}, Reps X.K H ds zs -> Vals zs us -> plains ds = true -> us.any (eqOf X.K H x) = inD x ds
 | [], zs, us, r, v, _ => by
  have e := reps_nil.mp r; subst e; cases v; rfl
 | d :: ds, zs, us, r, v, p => by
  obtain ⟨z, r', e, h1, h2⟩ := reps_cons.mp r; subst e
  simp only [plains_cons, Bool.and_eq_true] at p
  cases v with
  | cons v vs =>
   rw [List.any_cons, eqOf_is I h1 v p.1, any_of I h2 vs p.2]
   unfold inD
   rw [List.any_cons]
theorem mem_of {pins : List (Addr × Obj)} {σ : LSt} {H : Hp} {s : Shared} (I : Inv X pins σ H s) {A : Around} {x : D} {zx : V} {ux : Value} (rx : Rep X.K H x zx) (vx : RelV zx ux) (px : plain x = true) : ∀ {ds : List D} {zs : List V} {us : List Value}, Reps X.K H ds zs -> Vals zs us -> plains ds = true -> A.units + deps ds < cLine -> ∀ u ∈ us, EqAt A s u ux (eqOf X.K H x u)
 | [], zs, us, r, v, _, _ => by
  have e := reps_nil.mp r; subst e; cases v; exact fun u hu => nomatch hu
 | d :: ds, zs, us, r, v, p, hd => by
  obtain ⟨z, r', e, h1, h2⟩ := reps_cons.mp r; subst e
  simp only [plains_cons, Bool.and_eq_true] at p
  rw [deps_cons] at hd
  cases v with
  | cons v vs =>
   intro u hu
   rcases List.mem_cons.mp hu with rfl | hu
   ·rw [eqOf_is I h1 v p.1]
    exact eqAt_rep I d x A z zx _ ux h1 rx v vx (by omega) p.1 px
   ·exact mem_of I rx vx px h2 vs p.2 (by omega) u hu
def rInD (K : PySem.W.Frag) (neg : Bool) : R2 := fun v u H Q => (∃ a o, u = .ref a /\ DGet H a v o /\ Q (.bl (if neg then !o.isSome else o.isSome)) H) \/ (∃ x ds zs p, u = .ref p /\ (SqL K H p zs \/ SqT K H p zs) /\ Rep K H x v /\ Reps K H ds zs /\ deps ds <= 60 /\ plain x = true /\ plains ds = true /\ Q (.bl (if neg then !inD x ds else inD x ds)) H) \/
 ∃ i j : List Nat, v = .str ⟨i.toArray⟩ /\ u = .str ⟨j.toArray⟩ /\ Q (.bl (if neg then !(findN j i 0).isSome else (findN j i 0).isSome)) H
theorem some_of (x y : List Nat) : (!(Builtin.Str.occurrences ⟨x.toArray⟩ ⟨y.toArray⟩ 0 (⟨x.toArray⟩ : Str).length 1).isEmpty) = (findN x y 0).isSome := by
 rw [occ_findN]
 cases findN x y 0 <;> rfl
theorem op_inD (hu : X.A.units + 64 < cLine) : OpR X (compareOp .In) (rInD X.K false) := by
 intro pins s σ H v u a b Q I ra rb h
 rcases h with ⟨p, o, rfl, g, q⟩ | ⟨x, ds, zs, p, rfl, hq, rx, rds, hd, px, pd, q⟩ | ⟨i, j, rfl, rfl, q⟩
 ·cases rb
  exact d_in (by omega) I g ra fun s' I' => ⟨.bl _, H, I', rfl, q⟩
 ·cases rb
  have hin : X.A.in1.units + deps ds < cLine := by show X.A.units + 1 + deps ds < cLine; omega
  rcases hq with hq | hq
  ·obtain ⟨its, r, pl, hz⟩ := I.list hq
   refine SeqAt.in_listAt (eqOf X.K H x) pl.isList (fun w hw => mem_of I rx ra px rds r pd hin w (by simpa using hw)) ⟨.bl _, H, I, rfl, ?_⟩
   rw [show its.toArray.any (eqOf X.K H x) = its.any (eqOf X.K H x) by simp, any_of I rds r pd]
   exact q
  ·obtain ⟨its, r, pl, hz⟩ := I.tuple hq
   refine SeqAt.in_tupleAt (eqOf X.K H x) pl (fun w hw => mem_of I rx ra px rds r pd hin w (by simpa using hw)) ⟨.bl _, H, I, rfl, ?_⟩
   rw [show its.toArray.any (eqOf X.K H x) = its.any (eqOf X.K H x) by simp, any_of I rds r pd]
   exact q
 ·refine op_in_str pins s σ H _ _ a b Q I ra rb ⟨_, _, rfl, rfl, ?_⟩
  rw [some_of]
  exact q
theorem op_notInD (hu : X.A.units + 64 < cLine) : OpR X (compareOp .NotIn) (rInD X.K true) := by
 intro pins s σ H v u a b Q I ra rb h
 rcases h with ⟨p, o, rfl, g, q⟩ | ⟨x, ds, zs, p, rfl, hq, rx, rds, hd, px, pd, q⟩ | ⟨i, j, rfl, rfl, q⟩
 ·cases rb
  exact d_notIn (by omega) I g ra fun s' I' => ⟨.bl _, H, I', rfl, q⟩
 ·cases rb
  have hin : X.A.in1.units + deps ds < cLine := by show X.A.units + 1 + deps ds < cLine; omega
  rcases hq with hq | hq
  ·obtain ⟨its, r, pl, hz⟩ := I.list hq
   refine SeqAt.notIn_listAt (eqOf X.K H x) pl.isList (fun w hw => mem_of I rx ra px rds r pd hin w (by simpa using hw)) ⟨.bl _, H, I, rfl, ?_⟩
   rw [show its.toArray.any (eqOf X.K H x) = its.any (eqOf X.K H x) by simp, any_of I rds r pd]
   exact q
  ·obtain ⟨its, r, pl, hz⟩ := I.tuple hq
   refine SeqAt.notIn_tupleAt (eqOf X.K H x) pl (fun w hw => mem_of I rx ra px rds r pd hin w (by simpa using hw)) ⟨.bl _, H, I, rfl, ?_⟩
   rw [show its.toArray.any (eqOf X.K H x) = its.any (eqOf X.K H x) by simp, any_of I rds r pd]
   exact q
 ·refine op_notin_str pins s σ H _ _ a b Q I ra rb ⟨_, _, rfl, rfl, ?_⟩
  rw [some_of]
  exact q
theorem sem_in {K : PySem.W.Frag} : Sem2 K (rInD K false) dIn := by
 intro A H x y d v u Q w rx ry e q
 unfold dIn at e
 split at e
 ·obtain ⟨c, e⟩ := guardR_of e
  cases e
  rename_i t ks ds
  have rxr : Rep K H x v := rx.rep
  obtain ⟨a, o, e1, g, g1, _⟩ := dget_of ry rxr c
  exact .inl ⟨a, o, e1, g, by rw [g1]; exact q _ H (Same.refl _) (rep_bl.mpr rfl)⟩
 ·obtain ⟨c, e⟩ := guardR_of e
  cases e
  obtain ⟨p, zs, h1, h2, h3⟩ := ry.lst
  exact .inr (.inl ⟨_, _, zs, p, h1, .inl h2, rx.rep, h3.mono (hide_sub _ _), c.1, c.2.1, c.2.2, q _ H (Same.refl _) (rep_bl.mpr rfl)⟩)
 ·obtain ⟨c, e⟩ := guardR_of e
  cases e
  obtain ⟨p, zs, h1, h2, h3⟩ := ry.tup
  exact .inr (.inl ⟨_, _, zs, p, h1, .inr h2, rx.rep, h3.mono (hide_sub _ _), c.1, c.2.1, c.2.2, q _ H (Same.refl _) (rep_bl.mpr rfl)⟩)
 ·cases e
  exact .inr (.inr ⟨_, _, rx.str, ry.str, q _ H (Same.refl _) (rep_bl.mpr rfl)⟩)
 ·cases e
theorem sem_notIn {K : PySem.W.Frag} : Sem2 K (rInD K true) dNotIn := by
 intro A H x y d v u Q w rx ry e q
 unfold dNotIn at e
 split at e
 ·obtain ⟨c, e⟩ := guardR_of e
  cases e
  rename_i t ks ds
  have rxr : Rep K H x v := rx.rep
  obtain ⟨a, o, e1, g, g1, _⟩ := dget_of ry rxr c
  exact .inl ⟨a, o, e1, g, by rw [g1]; exact q _ H (Same.refl _) (rep_bl.mpr rfl)⟩
 ·obtain ⟨c, e⟩ := guardR_of e
  cases e
  obtain ⟨p, zs, h1, h2, h3⟩ := ry.lst
  exact .inr (.inl ⟨_, _, zs, p, h1, .inl h2, rx.rep, h3.mono (hide_sub _ _), c.1, c.2.1, c.2.2, q _ H (Same.refl _) (rep_bl.mpr rfl)⟩)
 ·obtain ⟨c, e⟩ := guardR_of e
  cases e
  obtain ⟨p, zs, h1, h2, h3⟩ := ry.tup
  exact .inr (.inl ⟨_, _, zs, p, h1, .inr h2, rx.rep, h3.mono (hide_sub _ _), c.1, c.2.1, c.2.2, q _ H (Same.refl _) (rep_bl.mpr rfl)⟩)
 ·cases e
  exact .inr (.inr ⟨_, _, rx.str, ry.str, q _ H (Same.refl _) (rep_bl.mpr rfl)⟩)
 ·cases e
end
end Pu
namespace Pu
open PySem PySem.Spec PyProof.Rows L2
section
variable {X : Cx} {B : List Addr} {a b e : Expr} {f g : Ex} {pos : Pos}
theorem s_app (i : Nat) {x : Str} {p1 apos cpos : Pos} (he : PE X e (tI X.K B f)) (hN : X.N[i]? = some x := by rfl) (hv : Vis X.env.scope x := by first | exact Or.inl rfl | exact Or.inr (Or.inl rfl) | exact Or.inr (Or.inr rfl)) (hd : (x == ("__debug__" : Str)) = false := by decide)
  (hcd : (x == ("__classdict__" : Str)) = false := by decide) (hbase : attributeBase (.Name x p1) "append" X.env (eval (.Name x p1) X.env) = eval (.Name x p1) X.env := by rfl)
  (hfew : ((backTo cpos (starEach [e] X.env)).all (fun x => !x.1) && (backToKw cpos (keywordEach [] X.env)).all (fun x => x.1.isSome)
   && decide (([e] : List Expr).length + ([] : List Keyword).length + (if ([] : List Keyword).isEmpty then 0 else 1) < 30)) = true := by rfl)
  (hline : (apos.endLine == cpos.line) = true := by rfl) (hs : starEach [e] X.env = (false, eval e X.env) :: starEach [] X.env := by rfl)
  (hsw : swapsWith (.Call (.Attribute (.Name x p1) "append" apos) [e] [] cpos) none pos.line X.env = pure false := by rfl) :
  PS X (.Expr (.Call (.Attribute (.Name x p1) "append" apos) [e] [] cpos) pos) (tS X.K B (sApp i f)) := by
 refine ps_imp (ps_expr (pe_bm PySem.F.plainAttrs_list PySem.F.slot_list_append PySem.F.type_list_append mt_append (pe_var hN hv hd hcd) (pa_cons he pa_nil hs) hbase hfew hline hs rfl) hsw) ?_
 rintro Dn σ H ⟨A, st, r, rs, hr, p⟩
 obtain ⟨d, hd, h3⟩ := R.ok_of hr
 split at h3
 ·rename_i xs e1
  obtain ⟨c, h4⟩ := guardR_of h3
  cases h4
  obtain ⟨l, o, vs, e2, m, h1, ko, q, u⟩ := rs.lst i _ xs e1
  have eo : o = .lst vs := ko
  subst eo
  refine ⟨.ref l, e2, .inl ⟨rfl, vs, SqL.of h1⟩, A, st, d, rs, hd, fun v H' s rv => ?_⟩
  have ql := q.length
  refine ⟨l, vs, v, rfl, rfl, s _ _ h1, by rw [ql]; rw [big_eq] at c; exact Nat.lt_of_lt_of_le c (by decide), ?_⟩
  obtain ⟨w1, w2⟩ := (rs.mono s).write e1 e2 (k1 := .l) (ds := xs ++ [d]) (vs' := vs ++ [v]) rfl ((q.mono (Same.hide s)).append (.cons rv .nil))
  exact p A _ _ ((Le.of s).trans w2) w1
 ·cases h3
theorem s_dnewK (i : Nat) {x : Str} {pos' dp : Pos} (hN : X.N.Nodup) (hi : X.N[i]? = some x := by rfl) (hx : Loc X.env.scope x := by first | exact Or.inl rfl | exact Or.inr rfl) (hs : swapsWith (.Dict [] [] dp) (some (.Name x pos')) pos.line X.env = pure false := by rfl)
  (hf : X.fn x = true \/ X.env.scope.names.lookup x = some .local := by first | exact .inl rfl | exact .inr rfl | assumption) : PS X (.Assign [.Name x pos'] (.Dict [] [] dp) pos) (tS X.K B (sDNew i false)) := ps_imp (ps_set hN hi hx pe_dnewK hs hf) (by
 rintro Dn σ H ⟨A, st, r, rs, hr, p⟩
 cases hr
 exact fun a ha => p (a :: A) _ _ (le_new ha) (rs.setO (kk := .d false []) i ha (.inl ⟨rfl, [], rfl, rfl, rfl⟩) .nil))
def rSetD : V -> V -> V -> Hp -> (Hp -> Prop) -> Prop := fun o i v H Q => ∃ p H', o = .ref p /\ DPut H p i v H' /\ Q H'
theorem set_dict (hu : X.A.units + 64 < cLine) : PSet X rSetD := by
 intro pins s σ H o i v ov iv u Q I ro ri rv h
 obtain ⟨p, H', rfl, g, q⟩ := h
 cases ro
 exact d_setItem (by omega) I g ri rv fun s' I' => ⟨H', I', q⟩
theorem s_dput (hu : X.A.units + 64 < cLine) (i : Nat) {x : Str} {j : Expr} {p1 p2 : Pos} (hj : PE X j (tI X.K B g)) (he : PE X e (tI X.K B f)) (hN : X.N[i]? = some x := by rfl) (hv : Vis X.env.scope x := by first | exact Or.inl rfl | exact Or.inr (Or.inl rfl) | exact Or.inr (Or.inr rfl)) (hd : (x == ("__debug__" : Str)) = false := by decide)
  (hcd : (x == ("__classdict__" : Str)) = false := by decide)
  (ha : ∀ v, assign (.Subscript (.Name x p1) j p2) X.env v = (do
   let ov <- holding [v] (eval (.Name x p1) X.env)
   let iv <- holding [v, ov] (eval j X.env)
   standAt p2
   holding [v, ov, iv] (setItem ov iv v)
   release [v, ov, iv] []) := by intro _; rfl)
  (hs : swapsWithSole [.Subscript (.Name x p1) j p2] e pos.line X.env = pure false := by rfl) (hw : swappedStores [.Subscript (.Name x p1) j p2] e X.env = pure none := by rfl)
  (h1 : (assignEach [.Subscript (.Name x p1) j p2] X.env).map (·.2) = [assign (.Subscript (.Name x p1) j p2) X.env] := by rfl) :
  PS X (.Assign [.Subscript (.Name x p1) j p2] e pos) (tS X.K B (sDPut i g f)) := by
 refine ps_imp (ps_asg he (pg_sub (pe_var hN hv hd hcd) hj (set_dict hu) ha) hs hw h1) ?_
 rintro Dn σ H ⟨A, st, r, rs, hr, p⟩
 obtain ⟨d, hd, h3⟩ := R.ok_of hr
 obtain ⟨k, hk, h5⟩ := R.ok_of h3
 split at h5
 ·rename_i t ks ds e1
  obtain ⟨c, h6⟩ := guardR_of h5
  cases h6
  obtain ⟨l, o, vs, e2, m, h1, ko, q, u⟩ := rs.lst i _ _ e1
  refine ⟨A, st, d, rs, hd, fun v H' s rv => ⟨.ref l, e2, A, st, k, rs.mono s, hk, fun w H2 s2 rk => ?_⟩⟩
  have hl : H2 l = some o := (s.trans s2) _ _ h1
  have q2 := q.mono (Same.hide (s.trans s2))
  have rv2 := rv.mono (Same.hide s2)
  have rk2 : Rep X.K H2 k w := rk.mono (hide_sub _ _)
  have hlen : ds.length < sizeLine := by have := c.2; rw [big_eq] at this; exact Nat.lt_of_lt_of_le this (by decide)
  have ql := q.length
  rcases ko with ⟨rfl, kvs, rfl, rfl, rfl⟩ | ⟨rfl, kvs, rfl, rfl, rfl⟩
  ·obtain ⟨k', e3, e4⟩ := key_of_rep rk2 c.1
   subst e3 e4
   obtain ⟨z1, z2⟩ := putK_of eqK_key k' v d rv2 kvs ds q2
   refine ⟨l, _, rfl, DPut.k hl (by rw [List.length_map] at ql; omega), ?_⟩
   obtain ⟨w1, w2⟩ := (rs.mono (s.trans s2)).write e1 e2 (k1 := .d false (putKs (kvs.map fun p => keyD p.1) (keyD k'))) (.inl ⟨rfl, putK kvs k' v, rfl, z1, rfl⟩) z2
   exact p A _ _ ((Le.of (s.trans s2)).trans w2) w1
  ·obtain ⟨k', b, e3, e4, e5⟩ := tkey_of_rep rk2 c.1
   subst e3 e4
   obtain ⟨z1, z2⟩ := putK_of (E := fun l => D.tup (l.map keyD)) eqK_keys k' v d rv2 kvs ds q2
   refine ⟨l, _, rfl, DPut.t hl e5 (by rw [List.length_map] at ql; omega), ?_⟩
   obtain ⟨w1, w2⟩ := (rs.mono (s.trans s2)).write e1 e2 (k1 := .d true (putKs (kvs.map fun p => D.tup (p.1.map keyD)) (.tup (k'.map keyD)))) (.inr ⟨rfl, putK kvs k' v, rfl, z1, rfl⟩) z2
   exact p A _ _ ((Le.of (s.trans s2)).trans w2) w1
 ·cases h5
end
end Pu
namespace Pu
open PySem PySem.Spec PyProof.Rows L2
section
open PySem.SeqAt
open PySem.AutoSeq1 (wpAny_loadPart')
open PySem.MeetsSeq PySem.MeetsSeq2 PySem.MeetsSeq3
inductive LexV (A : Around) (s : Shared) : List Value -> List Value -> Bool -> Prop where
 | nn : LexV A s [] [] false
 | nc {w : Value} {ws : List Value} : LexV A s [] (w :: ws) true
 | cn {v : Value} {vs : List Value} : LexV A s (v :: vs) [] false
 | eq {v w : Value} {vs ws : List Value} {b : Bool} : EqAt A s v w true -> LexV A s vs ws b -> LexV A s (v :: vs) (w :: ws) b
 | lt {v w : Value} {vs ws : List Value} {b : Bool} : EqAt A s v w false -> (∀ (prog : Program) (wd : World) (E Q : Value -> Shared -> Prop), Q (.bool b) s -> wpAny (model prog wd) A (richCompare .Lt v w) Q E s) -> LexV A s (v :: vs) (w :: ws) b
end
section
variable {X : Cx}
end
end Pu
namespace Pu
open PySem PySem.Spec PyProof.Rows L2
structure ClsAt (K : PySem.W.Frag) (c : String) (C : Addr) : Prop where
 ns : PySem.W.nsIn K mainGlobals (Str.ofString c) = some (some (.ref C))
 cl : Cls K C
theorem ofString_inj {a b : String} (h : Str.ofString a = Str.ofString b) : a = b := by
 have h1 : (Str.ofString a).cps = (Str.ofString b).cps := by rw [h]
 rw [Str.ofString_eq_toList, Str.ofString_eq_toList] at h1
 have h2 : a.toList.map Char.toNat = b.toList.map Char.toNat := by
  have := congrArg Array.toList h1
  simpa using this
 have inj : ∀ (x y : List Char), x.map Char.toNat = y.map Char.toNat -> x = y := by
  intro x
  induction x with
  | nil => intro y h; cases y with | nil => rfl | cons _ _ => simp at h
  | cons a x ih =>
   intro y h
   cases y with
   | nil => simp at h
   | cons b y =>
    rw [List.map_cons, List.map_cons] at h
    injection h with h3 h4
    rw [ih y h4]
    congr 1
    exact Char.ext (UInt32.toNat_inj.mp h3)
 exact String.toList_inj.mp (inj _ _ h2)
section
variable {K : PySem.W.Frag} {H : Hp}
theorem putF_new {f : String} {v : V} : ∀ {ns : List String} {fs : List (Str × V)}, fs.map (·.1) = ns.map Str.ofString -> f ∉ ns -> putF (Str.ofString f) v fs = fs ++ [(Str.ofString f, v)]
 | [], fs, e, _ => by cases fs with | nil => rfl | cons _ _ => simp at e
 | n :: ns, [], e, _ => by simp at e
 | n :: ns, (g, w) :: fs, e, h => by
  rw [List.map_cons, List.map_cons] at e
  injection e with e1 e2
  have e1' : g = Str.ofString n := e1
  subst e1'
  unfold putF
  rw [if_neg (fun z => h (by rw [ofString_inj z]; exact List.mem_cons_self)), putF_new e2 fun z => h (List.mem_cons_of_mem _ z)]
  rfl
end
section
variable {X : Cx} {B : List Addr} {a b e o : Expr} {f g : Ex} {pos : Pos}
theorem RepP.ins {K : PySem.W.Frag} {A : List Addr} {H : Hp} {c : String} {ns : List String} {ds : List D} {v : V} (h : RepP K A H (.ins c ns ds) v) : ∃ p C dx fs, v = .ref p /\ H p = some (.ins C dx fs) /\ PySem.W.nsIn K mainGlobals (Str.ofString c) = some (some (.ref C)) /\ fs.map (·.1) = ns.map Str.ofString /\ Reps K (hide A H) ds (fs.map (·.2)) := by
 rcases h with h | ⟨p, kk, o, ds', vs, e, e2, h, ko, r⟩
 ·obtain ⟨p, C, dx, fs, vs, e, q1, q2, q3, q4, r⟩ := rep_ins.mp h
  subst q4
  exact ⟨p, C, dx, fs, e, hide_sub _ _ _ _ q1, q2, q3, r⟩
 ·cases kk <;> cases e
  obtain ⟨_, C, dx, fs, rfl, q2, q3, rfl⟩ := ko
  exact ⟨p, C, dx, fs, e2, h, q2, q3, r⟩
def spM (K : PySem.W.Frag) (c : String) (np : Nat) (p : List D -> R D) : Sp := fun vs H Q _ => ∃ x ws A C dx ds d, vs = .ref x :: ws /\ H x = some (.ins C dx []) /\ PySem.W.nsIn K mainGlobals (Str.ofString c) = some (some (.ref C)) /\ Own A H /\ x ∉ A /\ Reps K (hide (x :: A) H) ds ws /\ ds.length = np /\ p ds = .ok d /\
 ∀ H', Same (hide [x] H) H' -> Rep K (hide A H') d (.ref x) -> Q .non H'
structure MakeOk (P : Program) (w : World) (K : PySem.W.Frag) (mg : Str -> Option Value) (base : Heap) (c : String) (k np : Nat) (p : List D -> R D) : Prop where
 ex : ∃ (C fa : Addr) (fd : FuncData) (ps : List Str), ClsAt K c C /\ Mk K C fa /\ FnOk P w K mg base CX0 k fa fd ps (spM K c np p) /\ Binds K fd ps [] /\ mg (Str.ofString c) = some (.ref C)
 len : ∀ ds d, p ds = .ok d -> ds.length = np
theorem i_make {c : String} {k j np : Nat} {p : List D -> R D} {es : List Expr} {r : Exs} {p0 : Pos} (h : MakeOk X.prog X.w X.K X.mg X.base c k np p) (hr : Room j X.A) (hk : k + 1 <= j) (ha : PA X (e :: es) (tA X.K B r)) (hg : Gl X (Str.ofString c) := by rfl) (hdb : (Str.ofString c == ("__debug__" : Str)) = false := by decide)
  (he : starEach (e :: es) X.env = (false, eval e X.env) :: starEach es X.env := by rfl) (hpl : (backTo pos (starEach es X.env)).any (·.1) = false := by rfl) : PE X (.Call (.Name (Str.ofString c) p0) (e :: es) [] pos) (tI X.K B (eCall p r)) := by
 obtain ⟨C, fa, fd, ps, hc, M, F, bd, hm⟩ := h.ex
 refine pe_imp (pe_make M F (hr.mono hk) hg hm bd .nil pass0 ha hdb he hpl) ?_
 rintro σ H Q ⟨A, st, d, rs, hd, q⟩
 obtain ⟨xs, hx, h2⟩ := R.ok_of hd
 refine ⟨A, st, xs, rs, hx, fun vs H1 s1 r1 x dx hx0 hdx hne => ?_⟩
 have w1 := rs.own.mono s1
 have hxA : x ∉ A ++ B := w1.free hx0
 have e0 : ∀ b u, H1 b = some u -> upd (upd H1 dx (.own x)) x (.ins C dx []) b = some u := fun b u z => by
  rw [upd_ne (ne_of_none z hx0), upd_ne (ne_of_none z hdx)]; exact z
 refine ⟨x, vs ++ [], A ++ B, C, dx, xs, d, rfl, upd_same, hc.ns, fun b hb => ?_, hxA, ?_, h.len _ _ h2, h2, fun H' sm rd => ⟨rfl, q _ H' (fun b u z => ?_) rd⟩⟩
 ·obtain ⟨u, z⟩ := Option.isSome_iff_exists.mp (w1 b hb)
  rw [e0 b u z]; rfl
 ·rw [List.append_nil]
  refine r1.mono fun b u z => ?_
  have z1 := hide_sub _ _ _ _ z
  have hb : b ∉ A ++ B := fun y => by rw [hide_in y] at z; cases z
  rw [hide_out (fun y => (List.mem_cons.mp y).elim (ne_of_none z1 hx0) hb)]
  exact e0 b u z1
 ·have z1 := s1 _ _ z
  exact sm b u (by rw [hide_out (by simpa using ne_of_none z1 hx0)]; exact e0 b u z1)
theorem start_rsI {K : PySem.W.Frag} {A : List Addr} {H : Hp} {N : List Str} {ds : List D} {ws : List V} {x C dx : Addr} {c : String} (w : Own A H) (hxA : x ∉ A) (hx : H x = some (.ins C dx [])) (hns : PySem.W.nsIn K mainGlobals (Str.ofString c) = some (some (.ref C))) (r : Reps K (hide (x :: A) H) ds ws) :
  RS K A [x] H (some (Sl.o (.i x c []) []) :: (ds.map (fun d => some (Sl.v d)) ++ List.replicate (N.length - ds.length - 1) none)) (L2.start N (.ref x :: ws)) := by
 have hl := r.length
 have sh : L2.start N (.ref x :: ws) = some (.ref x) :: (ws.map some ++ List.replicate (N.length - ds.length - 1) none) := by
  unfold L2.start
  rw [List.map_cons, List.cons_append, List.length_cons, hl]
  congr 2
 rw [sh]
 have nov : ∀ (i : Nat) (s : Sl), (ds.map (fun d => some (Sl.v d)) ++ List.replicate (N.length - ds.length - 1) none)[i]? = some (some s) -> ∃ d, ds[i]? = some d /\ s = .v d := fun i s e => by
  by_cases hi : i < ds.length
  ·rw [List.getElem?_append_left (by simpa using hi), List.getElem?_map, List.getElem?_eq_getElem hi] at e
   simp at e
   exact ⟨ds[i], List.getElem?_eq_getElem hi, e.symm⟩
  ·rw [List.getElem?_append_right (by simpa using hi), List.getElem?_replicate] at e
   split at e <;> simp at e
 refine ⟨by simp [hl], fun b hb => ?_, fun b hb => by rw [List.mem_singleton.mp hb]; exact hxA, fun i d e => ?_, fun i k xs e => ?_⟩
 ·rcases List.mem_append.mp hb with hb | hb
  ·rw [List.mem_singleton.mp hb, hx]; rfl
  ·exact w b hb
 ·cases i with
  | zero => simp at e
  | succ i =>
   rw [List.getElem?_cons_succ] at e
   obtain ⟨d', e1, e2⟩ := nov i _ e
   cases e2
   obtain ⟨v, hv, rv⟩ := r.get e1
   refine ⟨v, ?_, rv⟩
   have hi : i < ws.length := (List.getElem?_eq_some_iff.mp hv).1
   rw [List.getElem?_cons_succ, List.getElem?_append_left (by simpa using hi), List.getElem?_map, hv]
   rfl
 ·cases i with
  | zero =>
   simp at e
   obtain ⟨rfl, rfl⟩ := e
   refine ⟨x, _, [], rfl, List.mem_singleton.mpr rfl, hx, ⟨rfl, C, dx, [], rfl, hns, rfl, rfl⟩, .nil, fun j k' ys ej _ => ?_⟩
   cases j with
   | zero => rfl
   | succ j =>
    rw [List.getElem?_cons_succ] at ej
    obtain ⟨_, _, e2⟩ := nov j _ ej
    cases e2
  | succ i =>
   rw [List.getElem?_cons_succ] at e
   obtain ⟨_, _, e2⟩ := nov i _ e
   cases e2
theorem fn_init {P : Program} {w : World} {K : PySem.W.Frag} {mg : Str -> Option Value} {base : Heap} {x qual : Str} {st : Stmt} {f : Addr} {fd : FuncData} {N ps : List Str} {k : Nat} (F : Fun K x qual st f fd) (S : FnScope N ps (defScope st)) (c : String) (np n : Nat) (bd : Bd) (hnp : ps.length = np + 1) (hn : N.length = n)
  (hb : ∀ (cdv : Value) (A : Around) (outer : List Env) (s : Shared) (H : Hp) (E : XK) (B : List Addr), Room k (A.deeper (envOfC qual (defScope st) s.heap.objs.size f cdv)) ->
   PSs (cxOf CX0 P w K mg base N qual (defScope st) f cdv A outer s H E).nox (defBody st) (tS K B bd)) : FnOk P w K mg base CX0 (k + 1) f fd ps (spM K c np (runI c np n bd)) := by
 refine F.ok S (fun vs H Q E h => ?_) (fun cdv A outer s H vs Q E hr h => ?_)
 ·obtain ⟨y, ws, A, C, dx, ds, d, rfl, _, _, _, _, r, hl, _⟩ := h
  rw [List.length_cons, r.length, hl, hnp]
 ·obtain ⟨y, ws, A', C, dx, ds, d, rfl, hy, hns, own, hyA, r, hl, hp, q⟩ := h
  refine ⟨tS K A' bd, hb cdv A outer s H E A' hr, ?_⟩
  obtain ⟨_, h2⟩ := guardR_of (runI_of hp y)
  obtain ⟨fl, hfl, h3⟩ := R.ok_of h2
  have rs := start_rsI (N := N) (c := c) own hyA hy hns r
  rw [hl, hn] at rs
  refine ⟨[y], _, fl, rs, hfl, ?_⟩
  cases fl with
  | nx s1 =>
   intro A1 σ1 H1 l rs1
   have h3' : (match (s1[0]? : Option (Option Sl)) with | some (some (.o (.i y' c' ns) xs)) => guardR (y' = y) (R.ok (D.ins c' ns xs)) | _ => .bad) = .ok d := h3
   split at h3'
   ·rename_i y' c' ns xs e1
    obtain ⟨rfl, h4⟩ := guardR_of h3'
    cases h4
    obtain ⟨a, o, vs, e2, m, h5, ko, r5, _⟩ := rs1.lst 0 _ _ e1
    have ea : a = y' := ko.1
    subst ea
    refine q H1 (Same.trans (show Same (hide [a] H) (hide A1 H1) from l) (hide_sub _ _)) ?_
    have := ko.rep (H := hide A' H1) (ds := xs) (by rw [hide_out (rs1.dis a m)]; exact h5) (r5.mono (hide_more fun b hb => List.mem_append_right _ hb))
    exact this
   ·cases h3'
  | rt d' => cases h3
  | bk s1 => cases h3
  | ct s1 => cases h3
theorem runI_len {c : String} {np n : Nat} {bd : Bd} (ds : List D) (d : D) (h : runI c np n bd ds = .ok d) : ds.length = np := (guardR_of (runI_of h 0)).1
theorem s_fldO (i : Nat) {x : Str} {c f' : String} {C : Addr} {p1 p2 : Pos} {value : Expr} (hc : ClsAt X.K c C) (hn : NoAttr X.K C (Str.ofString f')) (he : PE X value (tI X.K B f)) (hN : X.N[i]? = some x := by rfl) (hv : Vis X.env.scope x := by first | exact Or.inl rfl | exact Or.inr (Or.inl rfl) | exact Or.inr (Or.inr rfl)) (hd : (x == ("__debug__" : Str)) = false := by decide)
  (hcd : (x == ("__classdict__" : Str)) = false := by decide) (hs : swapsWith value (some (.Attribute (.Name x p1) (Str.ofString f') p2)) pos.line X.env = pure false := by rfl) :
  PS X (.Assign [.Attribute (.Name x p1) (Str.ofString f') p2] value pos) (tS X.K B (sFldC i c f' f)) := by
 refine ps_imp (ps_fld (pe_var hN hv hd hcd) he hs) ?_
 rintro Dn σ H ⟨A, st, r, rs, hr, p⟩
 obtain ⟨d, hd, h3⟩ := R.ok_of hr
 split at h3
 ·rename_i n c' ns xs e1
  obtain ⟨⟨ec, hf, hlen⟩, h4⟩ := guardR_of h3
  subst ec
  cases h4
  obtain ⟨l, o, vs, e2, m, h1, ko, q, u⟩ := rs.lst i _ _ e1
  obtain ⟨el, C', dx, fs, rfl, k1, k2, rfl⟩ := ko
  have : C' = C := by have z := k1.symm.trans hc.ns; injection z with z; injection z with z; injection z
  subst this
  refine ⟨A, st, d, rs, hd, fun y H1 s1 r1 => ⟨.ref l, e2, l, C', dx, fs, rfl, s1 _ _ h1, hc.cl, hn, ?_, ?_⟩⟩
  ·have := congrArg List.length k2
   rw [List.length_map, List.length_map] at this
   omega
  ·rw [putF_new k2 hf]
   obtain ⟨w1, w2⟩ := (rs.mono s1).write e1 e2 (k1 := .i n c' (ns ++ [f'])) (o' := .ins C' dx (fs ++ [(Str.ofString f', y)])) (ds := xs ++ [d]) (vs' := fs.map (·.2) ++ [y]) ⟨el, C', dx, _, rfl, k1, by rw [List.map_append, List.map_append, k2]; rfl, by rw [List.map_append]; rfl⟩ ((q.mono (Same.hide s1)).append (.cons r1 .nil))
   exact p A _ _ ((Le.of s1).trans w2) w1
 ·cases h3
theorem s_never {sm : Stmt} : PS X sm (tS X.K B sNever) := fun _ _ _ _ _ _ ⟨_, _, _, _, h, _⟩ => nomatch h
end
end Pu
namespace Pu
open PySem PySem.Spec PyProof.Rows L2
section
variable {X : Cx} {B : List Addr} {scope : Scope} {elt tg iter c : Expr} {pos : Pos} {t : Tg} {it : ItE} {f u : Ex}
theorem store_end {pins : List (Addr × Obj)} {σ τ : LSt} {H3 H5 : Hp} {s3 s5 : Shared} {fp : List Addr} {C p : Addr} {m5 : Str -> Option Value} {i : Nat} {x : Str} {px : Pos} {Qf : Value -> Shared -> Prop} (hN : X.N.Nodup) (hi : X.N[i]? = some x) (hx : Loc X.env.scope x)
  (hf : X.fn x = true \/ X.env.scope.names.lookup x = some .local) (hC : s3.heap.objs.size <= C) (I3 : Inv X pins σ H3 s3) (hfp : ∀ b ∈ fp, FpOk X pins H3 b) (I5 : Inv (compCx X scope C s3 H3 fp) [] τ H5 s5) (hn5 : s5.heap.Ns C m5)
  (hQ : ∀ s', Inv X pins (σ.set i (some (.ref p))) H5 s' -> Qf .none s') : compPost (model X.prog X.w) X.A X.xe (some (assign (.Name x px) X.env)) Qf (.ref p) C (.ok .next) s5 := by
 have I5' : Inv X pins σ H5 { s5 with heap := s5.heap } := inv_end I3 hfp hC I5 (.refl ..)
 have lt : ∀ b o, s3.heap.get? b = some o -> C ≠ b := fun b o e z => Nat.lt_irrefl _ (Nat.lt_of_lt_of_le (Heap.lt_size (z ▸ e)) hC)
 have hL : C ≠ X.env.locals := fun z => Nat.lt_irrefl _ (Nat.lt_of_lt_of_le (z ▸ I3.lt) hC)
 have hc : ∀ y c, X.env.cells.lookup y = some c -> c ≠ C := fun y c e => by
  obtain ⟨v, o, ho, _⟩ := I3.cell y c e
  exact (lt c o ho).symm
 have hp : ∀ q ∈ X.pn ++ pins, q.1 ≠ C := fun q hq => (lt q.1 q.2 (I3.pin q hq).1).symm
 show wpAny _ X.A (assign (.Name x px) X.env (.ref p)) _ _ _
 refine wpAny_assign_Name (store_ok2 (v := .ref p) I5' hN hi hx rfl (fun s6 I6 ⟨a, hs, ha⟩ => ?_) hf)
 have hCa : C ≠ a := by
  rcases ha with z | z
  ·rw [z]; exact hL
  ·exact (hc x a z).symm
 refine ⟨m5, hn5.sameBut hs hCa, fun h' hs' => hQ _ ?_⟩
 exact I6.turned (t' := s6.toks) (fun b o hb e => (hs'.2 b hb).trans e) (show H5 C = none from I5.free) hL (.inr (Nat.le_trans I3.sz hC)) hc hp
theorem s_setC (i : Nat) {x : Str} {px spos : Pos} (is : List Nat) (hsub : TgSub is t) (S : CScope X scope is) (hi : L2.PI X tg iter (tIt X.K B it)) (hg : ∀ (B : List Addr) (C : Addr) (s₀ : Shared) (H₀ : Hp) (fp : List Addr), PG (compCx X scope C s₀ H₀ fp) tg (tG X.K B t))
  (he : ∀ (B : List Addr) (C : Addr) (s₀ : Shared) (H₀ : Hp) (fp : List Addr), PE (compCx X scope C s₀ H₀ fp) elt (tI X.K B f)) (hc : X.calm = true) (hN : X.N.Nodup) (hi' : X.N[i]? = some x := by rfl) (hx : Loc X.env.scope x := by first | exact Or.inl rfl | exact Or.inr rfl)
  (hsw : swapsWith (.ListComp elt [⟨tg, iter, [], 0⟩] scope pos) (some (.Name x px)) spos.line X.env = pure true := by rfl)
  (hf : X.fn x = true \/ X.env.scope.names.lookup x = some .local := by first | exact .inl rfl | exact .inr rfl | assumption) (hs : ∀ x, foldedSetIterable iter X.env x = pure x := by intro _; rfl) :
  PS X (.Assign [.Name x px] (.ListComp elt [⟨tg, iter, [], 0⟩] scope pos) spos) (tS X.K B (sSet i (eComp is t it eTrue f))) := by
 intro pins s σ H Dn I h
 obtain ⟨A, st, r, rs, hr, q⟩ := h
 obtain ⟨d, hd, h3⟩ := R.ok_of hr
 cases h3
 obtain ⟨xs, hx', h2⟩ := R.ok_of hd
 obtain ⟨hl, h3⟩ := guardR_of h2
 obtain ⟨ys, hy, h4⟩ := R.ok_of h3
 cases h4
 rw [exec_Assign_Name_used _ _ _ _ hsw]
 refine wpAny_bind (wpAny_standAt (wpAny_bind ?_))
 show wpAny _ X.A (do let _ <- comprehension (.ListComp elt [⟨tg, iter, [], 0⟩] scope pos) scope X.env _ (newList []) false (eval iter X.env) (some (assign (.Name x px) X.env))) _ _ s
 refine wpAny_bind (wpAny_mono (Q := fun _ s' => SP X pins Dn .next s') ?_ (fun _ s' hq => wpAny_pure (wpAny_pure hq)) fun _ _ e => e)
 refine comp_core (use := some (assign (.Name x px) X.env)) (Qf := fun _ s' => SP X pins Dn .next s') (Q := fun v H' => Dn.nx (σ.set i (some v)) H') (tt := tAlways) (te := tIx X.K f) (rest := fun env it p => eval elt env >>= fun x => call (.builtin "list.append") [p, x] >>= fun _ => again (.compLoop (.ListComp elt [⟨tg, iter, [], 0⟩] scope pos) 0 it p env)) S hc hi (fun C s₀ H₀ fp => pg_x fun B => hg B C s₀ H₀ fp) (fun _ _ _ => quiet_comp)
  (fun C s₀ H₀ fp it p s Q h => den0 (Y := compCx X scope C s₀ H₀ fp) h) (fun C s₀ H₀ fp it p τ H s pins vs N Q I h q => rest0 (Y := compCx X scope C s₀ H₀ fp) rfl (pe_x fun B => he B C s₀ H₀ fp) τ H s pins vs N Q I h (fun Q Q' m h => tIx_mono Q Q' m h) q) hs I
  (lc_of hsub (fun τ H Q ⟨B, A, st, k, rs, hk, q⟩ => ?_) rs hx' hl hy fun p vs H1 H' s1 hp s2 hv r => comp_e (Q := fun v H' => Dn.nx (σ.set i (some v)) H') rs (fun v H' sm rv => q A _ H' (Le.of sm) ((rs.mono sm).set i rv)) s1 hp s2 hv r) fun C p H5 s5 m5 s3 H3 fp τ hC I3 hfp I5 hn5 q5 => store_end hN hi' hx hf hC I3 hfp I5 hn5 fun s' I' => ⟨_, _, I', q5⟩
 cases hk
 exact q H (Same.refl _)
end
end Pu
namespace Pu
open PySem PySem.Spec PyProof.Rows L2
structure FunD (K : PySem.W.Frag) (x qual : Str) (st : Stmt) (dV : Value) (f : Addr) (fd : FuncData) : Prop where
 ex : ∃ (oc : Value) (od : Option Addr) (kV doc pm : Value) (an : Option Addr) (cdv ct : Value) (osl : Array (Option Value)),
  fd = PySem.W.fnOf x qual (defArgs st) (defBody st) (defScope st) dV kV doc pm an cdv ct /\ K.lookup f = some ⟨oc, od, .func fd, osl⟩ /\ PySem.W.codeIn K cdv qual = true
 kp : PySem.W.keepIn K (.ref f) = true
section
variable {P : Program} {w : World} {K : PySem.W.Frag} {mg : Str -> Option Value} {base : Heap} {x qual : Str} {st : Stmt} {dV : Value} {f : Addr} {fd : FuncData} {N ps : List Str} {k : Nat}
theorem funD_mk {oc : Value} {od an : Option Addr} {osl : Array (Option Value)} {kV doc pm cdv ct : Value} (l : K.lookup f = some ⟨oc, od, .func (PySem.W.fnOf x qual (defArgs st) (defBody st) (defScope st) dV kV doc pm an cdv ct), osl⟩)
  (c : PySem.W.codeIn K cdv qual = true) (k : PySem.W.keepIn K (.ref f) = true) : FunD K x qual st dV f (PySem.W.fnOf x qual (defArgs st) (defBody st) (defScope st) dV kV doc pm an cdv ct) := ⟨⟨oc, od, kV, doc, pm, an, cdv, ct, osl, rfl, l, c⟩, k⟩
theorem FunD.binds0 (F : FunD K x qual st .none f fd)
  (h : ∀ (kV doc pm : Value) (an : Option Addr) (cdv ct : Value) (us : List Value), us.length = ps.length -> bindArgs (PySem.W.fnOf x qual (defArgs st) (defBody st) (defScope st) .none kV doc pm an cdv ct) ⟨us, []⟩ = pure (ps.zip us)) : Binds K fd ps [] := by
 obtain ⟨oc, od, kV, doc, pm, an, cdv, ct, osl, rfl, lk, hcd⟩ := F.ex
 exact .all (h kV doc pm an cdv ct)
theorem FunD.binds {T : Addr} {o : Obj} {items : Array Value} {n m : Nat} {ds : List Value} (F : FunD K x qual st (.ref T) f fd) (hT : K.lookup T = some o) (hd : o.data = .seq items n) (hm : m + ds.length = ps.length)
  (h : ∀ (kV doc pm : Value) (an : Option Addr) (cdv ct : Value) (us : List Value), us.length = m -> ∃ k : Option (Array Value) -> Sem (List (Str × Value)), bindArgs (PySem.W.fnOf x qual (defArgs st) (defBody st) (defScope st) (.ref T) kV doc pm an cdv ct) ⟨us, []⟩ = seqItems? (.ref T) >>= k /\ k (some items) = pure (ps.zip (us ++ ds))) : Binds K fd ps ds := by
 obtain ⟨oc, od, kV, doc, pm, an, cdv, ct, osl, rfl, lk, hcd⟩ := F.ex
 intro s us KX hl
 obtain ⟨k, h1, h2⟩ := h kV doc pm an cdv ct us (by rw [List.length_append] at hl; omega)
 exact .of_defaults rfl (KX _ _ hT) hd h1 h2
theorem FunD.okX {sp : Sp} (F : FunD K x qual st dV f fd) (S : FnScope N ps (defScope st)) (len : ∀ vs H Q E, sp vs H Q E -> vs.length = ps.length)
  (hbody : ∀ (cdv : Value) (A : Around) (outer : List Env) (s : Shared) (H : Hp) (vs : List V) (Q : VK) (E : XK), Room k (A.deeper (envOfC qual (defScope st) s.heap.objs.size f cdv)) -> sp vs H Q E ->
   ∃ t, PSs (cxOf CX0 P w K mg base N qual (defScope st) f cdv A outer s H E).nox (defBody st) t /\ t { nx := fun _ H' => Q .non H', rt := Q } (L2.start N vs) H) : FnOk P w K mg base CX0 (k + 1) f fd ps sp := by
 obtain ⟨oc, od, kV, doc, pm, an, cdv, ct, osl, rfl, lk, hcd⟩ := F.ex
 refine fn_of lk hcd S len fun A outer s H vs Q E hr hsp => ?_
 obtain ⟨t, h, q⟩ := hbody cdv A outer s H vs Q E hr hsp
 exact ⟨t, h.nox, q⟩
theorem fn_iD (F : FunD K x qual st dV f fd) (S : FnScope N ps (defScope st)) (np n : Nat) (bd : Bd) (hnp : ps.length = np) (hn : N.length = n)
  (hb : ∀ (cdv : Value) (A : Around) (outer : List Env) (s : Shared) (H : Hp) (E : XK) (B : List Addr), Room k (A.deeper (envOfC qual (defScope st) s.heap.objs.size f cdv)) ->
   PSs (cxOf CX0 P w K mg base N qual (defScope st) f cdv A outer s H E).nox (defBody st) (tS K B bd)) : FnOk P w K mg base CX0 (k + 1) f fd ps (spI K np (runD np n bd)) := by
 refine F.okX S (fun vs H Q E h => ?_) (fun cdv A outer s H vs Q E hr h => ?_)
 ·obtain ⟨A, ds, d, own, r, hl, _⟩ := h
  rw [r.length, hl, hnp]
 ·obtain ⟨B, ds, d, own, r, hl, hp, q⟩ := h
  refine ⟨tS K B bd, hb cdv A outer s H E B hr, ?_⟩
  obtain ⟨_, h2⟩ := guardR_of hp
  obtain ⟨fl, hfl, h3⟩ := R.ok_of h2
  have rs := start_rs (N := N) own r
  rw [hl, hn] at rs
  refine ⟨[], _, fl, rs, hfl, ?_⟩
  have fin : ∀ {A' : List Addr} {H' : Hp}, Le [] H A' H' -> Same H H' := fun {A' H'} l => by
   unfold Le at l
   rw [hide_nil] at l
   exact l.trans (hide_sub _ _)
  cases fl with
  | nx s1 =>
   cases h3
   exact fun A' σ' H' l rs' => q _ H' (fin l) (rep_non.mpr rfl)
  | rt d' =>
   cases h3
   exact fun A' v H' l rv => q v H' (fin l) (rv.mono (hide_more fun a ha => List.mem_append_right _ ha))
  | bk s1 => exact nomatch h3
  | ct s1 => exact nomatch h3
end
end Pu
namespace Pu
open PySem PySem.Spec PyProof.Rows L2 PySem.SeqAt
section
variable {X : Cx} {B : List Addr} {a b e o : Expr} {f g : Ex} {pos : Pos} {r : Exs} {es : List Expr} {apos cpos : Pos}
theorem call_list1 : CallR X (.type "list") (fun vs H Q => ∃ l xs, vs = [.ref l] /\ (SqL X.K H l xs \/ SqT X.K H l xs) /\ ∀ n, H n = none -> Q (.ref n) (upd H n (.lst xs))) := by
 intro pins s σ H vs us Q I r h
 obtain ⟨l, xs, rfl, hl, q⟩ := h
 obtain ⟨u, rfl, ru⟩ := r.one
 obtain rfl : u = Value.ref l := ru
 rcases hl with hl | hl
 ·obtain ⟨its, rv, ⟨ob, n, e, hc, _, hd⟩, hz⟩ := I.list hl
  refine call_list_seq l (T := "list") (.inl rfl) e hc hd (fun h' c' k hn => ?_) (by rw [rv.length] at hz; simpa using hz)
  exact ⟨.ref s.heap.objs.size, _, I.laid (o := .lst xs) (t' := s.toks) k (Nat.le_refl _) ⟨hz, its, c', rv, hn⟩, rfl, q _ (I.hok.fresh (Nat.le_refl _))⟩
 ·obtain ⟨its, rv, ⟨ob, e, hc, n, hd⟩, hz⟩ := I.tuple hl
  refine call_list_seq l (T := "tuple") (.inr rfl) e hc hd (fun h' c' k hn => ?_) (by rw [rv.length] at hz; simpa using hz)
  exact ⟨.ref s.heap.objs.size, _, I.laid (o := .lst xs) (t' := s.toks) k (Nat.le_refl _) ⟨hz, its, c', rv, hn⟩, rfl, q _ (I.hok.fresh (Nat.le_refl _))⟩
theorem i_list {p0 : Pos} (hm : X.mg "list" = none) (ha : PE X a (tP X.K B f)) (hg : Gl X "list" := by rfl) (hs : starEach [a] X.env = (false, eval a X.env) :: starEach [] X.env := by rfl) : PE X (.Call (.Name "list" p0) [a] [] pos) (tI X.K B (e1 dList f)) := by
 refine pe_imp (pe_callTy call_list1 hg hm (by rfl) (pa_cons ha pa_nil hs) (he := hs)) ?_
 rintro σ H Q ⟨A, st, d, rs, hd, q⟩
 obtain ⟨x, hx, h2⟩ := R.ok_of hd
 refine ⟨A, st, x, rs, hx, fun v H1 s1 r1 => ?_⟩
 cases x <;> first | (cases h2; done) | skip
 ·cases h2
  obtain ⟨l, vs, e, h3, r3⟩ := r1.tup
  exact ⟨l, vs, by rw [e], .inr h3, fun n hn => q _ _ (s1.trans (same_upd hn)) (rep_new_lst (rs.own.mono s1) hn r3)⟩
 ·cases h2
  obtain ⟨l, vs, e, h3, r3⟩ := r1.lst
  exact ⟨l, vs, by rw [e], .inl h3, fun n hn => q _ _ (s1.trans (same_upd hn)) (rep_new_lst (rs.own.mono s1) hn r3)⟩
theorem vals_bl : ∀ {l : List Bool} {us : List Value}, Vals (l.map V.bl) us -> us = l.map Value.bool
 | [], _, .nil => rfl
 | b :: l, _, .cons r t => by
  rw [vals_bl t]
  cases r
  rfl
theorem call_all1 (hc : X.calm = true) : CallR X (.builtin "all") (fun vs H Q => ∃ (l : Addr) (bs : List Bool), vs = [.ref l] /\ SqL X.K H l (bs.map V.bl) /\ Q (.bl (bs.all id)) H) := by
 intro pins s σ H vs us Q I r h
 obtain ⟨l, bs, rfl, hl, q⟩ := h
 obtain ⟨u, rfl, ru⟩ := r.one
 obtain rfl : u = Value.ref l := ru
 obtain ⟨its, rv, ⟨ob, n, e, hcl, _, hd⟩, hz⟩ := I.list hl
 have ei := vals_bl rv
 have isl : s.heap.IsList l its.toArray := ⟨ob, e, hcl, n, hd⟩
 have hlt : l < s.heap.objs.size := Heap.lt_size e
 refine call_all_walk (wpAny_pyIter_list isl ⟨s.heap.objs.size, _, _, _, _, _, fun i => bs[i]?.getD false, rfl, Walks.list (A := X.A.in1) (I.ok.hd hc) _ l (Nat.ne_of_lt hlt) its.toArray, ⟨⟨_, Heap.get?_push_size _ rfl, rfl, rfl⟩, isl.push _⟩, ?_, fun h' tk k => ?_⟩)
 ·intro i v s' Q' E' hv hq
  rw [ei] at hv
  simp only [List.getElem?_toArray, List.getElem?_map, Option.map_eq_some_iff] at hv
  obtain ⟨b, hb, rfl⟩ := hv
  have hq' : Q' (bs[i]?.getD false) s' := hq
  rw [hb] at hq'
  exact wpAny_pure hq'
 ·refine ⟨.bl (bs.all id), H, I.kept (fun b u z => k b u (fun hb => ?_) (Heap.get?_push_of_some _ z)), ?_, q⟩
  ·have := List.mem_singleton.mp hb
   exact Nat.lt_irrefl _ (this ▸ Heap.lt_size z)
  ·show Value.bool _ = Value.bool _
   congr 1
   rw [Bool.eq_iff_iff, List.all_eq_true, List.all_eq_true]
   have hsz : its.toArray.size = bs.length := by rw [ei]; simp
   rw [hsz]
   constructor
   ·intro h x hx
    obtain ⟨i, hi, rfl⟩ := List.mem_iff_getElem.mp hx
    have := h i (List.mem_range.mpr hi)
    rw [List.getElem?_eq_getElem hi] at this
    exact this
   ·intro h i hi
    have hi' := List.mem_range.mp hi
    rw [List.getElem?_eq_getElem hi']
    exact h _ (List.getElem_mem hi')
theorem reps_bl {K : PySem.W.Frag} {H : Hp} : ∀ {l : List Bool} {vs : List V}, Reps K H (l.map D.bl) vs -> vs = l.map V.bl
 | [], vs, h => reps_nil.mp h
 | b :: l, vs, h => by
  obtain ⟨v, r, rfl, h1, h2⟩ := reps_cons.mp h
  rw [reps_bl h2, rep_bl.mp h1]; rfl
theorem i_all {p0 : Pos} (hm : X.mg "all" = none) (hc : X.calm = true) (ha : PE X a (tP X.K B f)) (hg : Gl X "all" := by rfl) (hs : starEach [a] X.env = (false, eval a X.env) :: starEach [] X.env := by rfl) : PE X (.Call (.Name "all" p0) [a] [] pos) (tI X.K B (e1 dAll f)) := by
 refine pe_imp (pe_callB (call_all1 hc) hg hm (by rfl) (pa_cons ha pa_nil hs) (he := hs)) ?_
 rintro σ H Q ⟨A, st, d, rs, hd, q⟩
 obtain ⟨x, hx, h2⟩ := R.ok_of hd
 refine ⟨A, st, x, rs, hx, fun v H1 s1 r1 => ?_⟩
 cases x <;> first | (cases h2; done) | skip
 obtain ⟨bs, h3, h4⟩ := R.ok_of h2
 cases h4
 obtain ⟨l, vs, e, h5, r5⟩ := r1.lst
 rw [bls_of h3] at r5
 rw [reps_bl r5] at h5
 exact ⟨l, bs, by rw [e], h5, q _ H1 s1 (rep_bl.mpr rfl)⟩
end
end Pu
namespace Pu
open PySem PySem.Spec PyProof.Rows L2
def cutH : List Addr -> Heap -> Heap
 | [], h => h
 | a :: l, h => (cutH l h).update a fun _ => { cls := .none, data := .freed }
theorem get_freed (h : Heap) (a : Addr) : (h.update a fun _ => { cls := .none, data := .freed }).get? a = none := by
 cases h with
 | mk objs =>
  simp only [Heap.update, Heap.get?, Array.getElem?_modify, if_true]
  cases objs[a]? <;> rfl
theorem cut_in {b : Addr} {h : Heap} : ∀ {l : List Addr}, b ∈ l -> (cutH l h).get? b = none
 | a :: l, hb => by
  by_cases e : b = a
  ·rw [e]; exact get_freed _ _
  ·unfold cutH
   rw [Heap.get?_update_ne _ _ _ _ e]
   exact cut_in ((List.mem_cons.mp hb).resolve_left e)
theorem cut_out {b : Addr} {h : Heap} : ∀ {l : List Addr}, b ∉ l -> (cutH l h).get? b = h.get? b
 | [], _ => rfl
 | a :: l, hb => by
  unfold cutH
  rw [Heap.get?_update_ne _ _ _ _ fun e => hb (by rw [e]; exact List.mem_cons_self)]
  exact cut_out fun z => hb (List.mem_cons_of_mem _ z)
theorem cut_sub (l : List Addr) (h : Heap) : (cutH l h).StaysIn h := fun b o e => by
 by_cases hb : b ∈ l
 ·rw [cut_in hb] at e; cases e
 ·rwa [cut_out hb] at e
theorem funs_cut {h b0 base : Heap} : ∀ {l : List Env}, h.FunFrames b0 l -> (∀ L ∈ frs l, base.get? L = none) -> h.FunFrames base l
 | [], _, _ => trivial
 | env :: l, ⟨k, ⟨L, o, e1, _, e3, e4⟩, r⟩, hb => by
  have hL : L ∈ frs (env :: l) := by unfold frs; rw [List.filterMap_cons_some e1]; exact List.mem_cons_self
  exact ⟨k, ⟨L, o, e1, hb L hL, e3, e4⟩, funs_cut r fun M hM => hb M (by unfold frs; rw [List.filterMap_cons_some e1]; exact List.mem_cons_of_mem _ hM)⟩
structure Fly (C : Addr) (h0 : Heap) (H : Hp) (e : Addr) (h : Heap) : Prop where
 n0 : h0.get? e = none
 nH : H e = none
 ex : ∃ oe vs a0, h.get? e = some oe /\ oe.cls = .ref C /\ oe.data = .fields vs /\ vs[0]? = some a0 /\
  (vs[1]? = some .none \/ ∃ T oT ts, vs[1]? = some (.ref T) /\ T ≠ e /\ h.get? T = some oT /\ oT.data = .fields ts /\ ts[3]? = some .none /\ h0.get? T = none /\ H T = none)
structure FlyT (C : Addr) (h0 : Heap) (H : Hp) (e : Addr) (h : Heap) : Prop where
 n0 : h0.get? e = none
 nH : H e = none
 ex : ∃ oe vs a0 T oT ts, h.get? e = some oe /\ oe.cls = .ref C /\ oe.data = .fields vs /\ vs[0]? = some a0 /\ vs[1]? = some (.ref T) /\ T ≠ e /\ h.get? T = some oT /\ oT.data = .fields ts /\ ts[3]? = some .none /\ h0.get? T = none /\ H T = none
theorem FlyT.fly {C e : Addr} {h0 h : Heap} {H : Hp} (F : FlyT C h0 H e h) : Fly C h0 H e h := by
 obtain ⟨n0, nH, oe, vs, a0, T, oT, ts, he, hc, hd, hz, r⟩ := F
 exact ⟨n0, nH, oe, vs, a0, he, hc, hd, hz, .inr ⟨T, oT, ts, r⟩⟩
def Moves (h0 : Heap) (H : Hp) (fs : List Addr) (h h' : Heap) : Prop :=
 ∀ b o, h.get? b = some o -> ((∃ o0, h0.get? b = some o0) \/ ∃ u, H b = some u) -> (b ∉ fs -> h'.get? b = some o) /\ ∃ sl, h'.get? b = some { o with slots := sl }
section
variable {M : Model} {A : Around} {E : Value -> Shared -> Prop} {s : Shared} {C e L : Addr} {h0 b0 : Heap} {H : Hp} {env : Env} {outer : List Env} {Q : Unit -> Shared -> Prop}
theorem traced_fly {h h' : Heap} {l : List Addr} {fl : List Env} {a0 : Value} (hth : ∀ b o, h0.get? b = some o -> ∃ o', h.get? b = some o') (hH : ∀ b u, H b = some u -> ∃ o, h.get? b = some o) (n0 : h0.get? e = none) (nH : H e = none)
  (hl : ∀ b ∈ l, b = e \/ (h0.get? b = none /\ H b = none) \/ b ∈ frs fl) (f : h'.FunFrames (cutH l h) fl) (t : h'.TracedW (cutH l h) e (.ref C) a0) : FlyT C h0 H e h' := by
 obtain ⟨oe, vs, T, oT, ts, he, ⟨hc, hz⟩, hd, h1, hT0, hTe, hT, hdT, h3⟩ := t
 have : h0.get? T = none /\ H T = none := by
  by_cases hb : T ∈ l
  ·rcases hl T hb with z | z | z
   ·exact (hTe z).elim
   ·exact z
   ·obtain ⟨_, o, ho, hnf⟩ := f.mem z
    rw [hT] at ho
    cases ho
    exact (hnf ts hdT).elim
  ·rw [cut_out hb] at hT0
   refine ⟨?_, ?_⟩
   ·cases q : h0.get? T with
    | none => rfl
    | some o => obtain ⟨o', z⟩ := hth T o q; rw [hT0] at z; cases z
   ·cases q : H T with
    | none => rfl
    | some u => obtain ⟨o', z⟩ := hH T u q; rw [hT0] at z; cases z
 exact ⟨n0, nH, oe, vs, a0, T, oT, ts, he, hc, hd, hz, h1, hTe, hT, hdT, h3, this⟩
theorem moves_of {h h' : Heap} {l : List Addr} {fl : List Env} {bb : Heap} (hl : ∀ b ∈ l, (h0.get? b = none /\ H b = none) \/ b ∈ frs fl) (f : h.FunFrames bb fl) (k1 : (cutH l h).StaysIn h')
  (k4 : ∀ b o, h.get? b = some o -> (∀ vs, o.data ≠ .fields vs) -> ∃ sl, h'.get? b = some { o with slots := sl }) : Moves h0 H (frs fl) h h' := fun b o e hb => by
 have hk : b ∉ frs fl -> h'.get? b = some o := fun hn => k1 b o (by
  rw [cut_out fun z => ?_]; exact e
  rcases hl b z with ⟨q1, q2⟩ | q
  ·rcases hb with ⟨o0, z⟩ | ⟨u, z⟩
   ·rw [q1] at z; cases z
   ·rw [q2] at z; cases z
  ·exact hn q)
 refine ⟨hk, ?_⟩
 by_cases hn : b ∈ frs fl
 ·obtain ⟨_, o', ho, hnf⟩ := f.mem hn
  rw [e] at ho
  cases ho
  exact k4 b o e hnf
 ·exact ⟨o.slots, hk hn⟩
theorem leave_fly (hfr : A.frames = some (env :: outer)) (hl : s.heap.FunFrames b0 (env :: outer)) (hf : env.frame = some L) (hth : ∀ b o, h0.get? b = some o -> ∃ o', s.heap.get? b = some o') (hH : ∀ b u, H b = some u -> ∃ o, s.heap.get? b = some o)
  (F : Fly C h0 H e s.heap) (hQ : ∀ h', Fly C h0 H e h' -> Moves h0 H (frs (env :: outer)) s.heap h' -> Q () { s with heap := h' }) : wpAny M A (leaving env (.ref e)) Q E s := by
 obtain ⟨n0, nH, oe, vs, a0, he, hc, hd, hz, ht⟩ := F
 rcases ht with ht | ⟨T, oT, ts, h1, hTe, hT, hdT, h3, nT, nHT⟩
 ·have hcut : ∀ L ∈ frs (env :: outer), (cutH (e :: frs (env :: outer)) s.heap).get? L = none := fun L hL => cut_in (List.mem_cons_of_mem _ hL)
  refine wpAny_leaving_firstW (base := cutH (e :: frs (env :: outer)) s.heap) hfr (funs_cut hl hcut) hf he (cut_sub _ _) (cut_in List.mem_cons_self) hd ht hz fun h' ⟨k1, k2, k3, k4⟩ => ?_
  rw [hc] at k3
  refine hQ h' (traced_fly (h := s.heap) hth hH n0 nH (fun b hb => ?_) k2 k3).fly (moves_of (fun b hb => ?_) hl k1 k4)
  ·exact (List.mem_cons.mp hb).elim .inl fun z => .inr (.inr z)
  ·exact (List.mem_cons.mp hb).elim (fun z => .inl (by rw [z]; exact ⟨n0, nH⟩)) .inr
 ·have hcut : ∀ L ∈ frs (env :: outer), (cutH (e :: T :: frs (env :: outer)) s.heap).get? L = none := fun L hL => cut_in (List.mem_cons_of_mem _ (List.mem_cons_of_mem _ hL))
  refine wpAny_leaving_nextW (base := cutH (e :: T :: frs (env :: outer)) s.heap) (cls := .ref C) (a0 := a0) hfr (funs_cut hl hcut) hf ⟨oe, vs, T, oT, ts, he, ⟨hc, hz⟩, hd, h1, cut_in (List.mem_cons_of_mem _ List.mem_cons_self), hTe, hT, hdT, h3⟩ (cut_sub _ _) (cut_in List.mem_cons_self) fun h' ⟨k1, k2, k3, k4⟩ => ?_
  refine hQ h' (traced_fly (h := s.heap) hth hH n0 nH (fun b hb => ?_) k2 k3).fly (moves_of (fun b hb => ?_) hl k1 k4)
  ·rcases List.mem_cons.mp hb with z | hb
   ·exact .inl z
   ·exact (List.mem_cons.mp hb).elim (fun z => .inr (.inl (by rw [z]; exact ⟨nT, nHT⟩))) fun z => .inr (.inr z)
  ·rcases List.mem_cons.mp hb with z | hb
   ·exact .inl (by rw [z]; exact ⟨n0, nH⟩)
   ·exact (List.mem_cons.mp hb).elim (fun z => .inl (by rw [z]; exact ⟨nT, nHT⟩)) .inr
theorem note_fly (hfr : A.frames = some (env :: outer)) (hl : s.heap.FunFrames b0 (env :: outer)) (hf : env.frame = some L) (hth : ∀ b o, h0.get? b = some o -> ∃ o', s.heap.get? b = some o') (hH : ∀ b u, H b = some u -> ∃ o, s.heap.get? b = some o)
  (F : Fly C h0 H e s.heap) (hQ : ∀ h', FlyT C h0 H e h' -> Moves h0 H (frs (env :: outer)) s.heap h' -> Q () { s with heap := h' }) : wpAny M A (noteFrame (.ref e) env) (fun _ s2 => wpAny M A (setFlight (.ref e) none) Q E s2) E s := by
 obtain ⟨n0, nH, oe, vs, a0, he, hc, hd, hz, ht⟩ := F
 have fin : ∀ (l : List Addr), (∀ b ∈ l, b = e \/ (h0.get? b = none /\ H b = none) \/ b ∈ frs (env :: outer)) -> ∀ h', Heap.NotedW (cutH l s.heap) (env :: outer) e (.ref C) a0 (rawInt L) s.heap h' -> wpAny M A (setFlight (.ref e) none) Q E { s with heap := h' } := by
  intro l hll h' ⟨k1, k2, k3, k4⟩
  refine wpAny_setFlight_noneW (s := { s with heap := h' }) k1 k2 k3 fun h2 m1 m2 m3 m4 => hQ h2 (traced_fly (h := s.heap) hth hH n0 nH hll m2 m3) (moves_of (fun b hb => ?_) hl m1 fun b o hb hnf => ?_)
  ·rcases hll b hb with z | z | z
   ·exact .inl (by rw [z]; exact ⟨n0, nH⟩)
   ·exact .inl z
   ·exact .inr z
  ·obtain ⟨sl, z⟩ := k4 b o hb hnf
   exact ⟨sl, m4 b _ z hnf⟩
 rcases ht with ht | ⟨T, oT, ts, h1, hTe, hT, hdT, h3, nT, nHT⟩
 ·have hcut : ∀ L ∈ frs (env :: outer), (cutH (e :: frs (env :: outer)) s.heap).get? L = none := fun L hL => cut_in (List.mem_cons_of_mem _ hL)
  unfold noteFrame
  simp only [hf]
  refine wpAny_bind (wpAny_field he hd ht ?_)
  rw [if_neg (by decide)]
  refine wpAny_entryW (base := cutH (e :: frs (env :: outer)) s.heap) hfr (funs_cut hl hcut) hf he (cut_sub _ _) (cut_in List.mem_cons_self) hd (Array.getElem?_eq_some_iff.mp ht).1 hz fun h' N => ?_
  rw [hc] at N
  exact fin _ (fun b hb => (List.mem_cons.mp hb).elim .inl fun z => .inr (.inr z)) h' N
 ·have hcut : ∀ L ∈ frs (env :: outer), (cutH (e :: T :: frs (env :: outer)) s.heap).get? L = none := fun L hL => cut_in (List.mem_cons_of_mem _ (List.mem_cons_of_mem _ hL))
  refine wpAny_noteFrame_onW (base := cutH (e :: T :: frs (env :: outer)) s.heap) (cls := .ref C) (a0 := a0) hfr (funs_cut hl hcut) hf ⟨oe, vs, T, oT, ts, he, ⟨hc, hz⟩, hd, h1, cut_in (List.mem_cons_of_mem _ List.mem_cons_self), hTe, hT, hdT, h3⟩ (cut_sub _ _) (cut_in List.mem_cons_self) fun h' N => ?_
  refine fin _ (fun b hb => ?_) h' N
  rcases List.mem_cons.mp hb with z | hb
  ·exact .inl z
  ·exact (List.mem_cons.mp hb).elim (fun z => .inr (.inl (by rw [z]; exact ⟨nT, nHT⟩))) fun z => .inr (.inr z)
theorem set_fly (hth : ∀ b o, h0.get? b = some o -> ∃ o', s.heap.get? b = some o') (hH : ∀ b u, H b = some u -> ∃ o, s.heap.get? b = some o) (F : FlyT C h0 H e s.heap)
  (hQ : ∀ h', FlyT C h0 H e h' -> Moves h0 H [] s.heap h' -> Q () { s with heap := h' }) : wpAny M A (setFlight (.ref e) none) Q E s := by
 obtain ⟨n0, nH, oe, vs, a0, T, oT, ts, he, hc, hd, hz, h1, hTe, hT, hdT, h3, nT, nHT⟩ := F
 refine wpAny_setFlight_noneW (base := cutH [e, T] s.heap) (l := []) (cls := .ref C) (a0 := a0) (fl := .none) (cut_sub _ _) trivial ⟨oe, vs, T, oT, ts, he, ⟨hc, hz⟩, hd, h1, cut_in (by simp), hTe, hT, hdT, h3⟩ fun h2 m1 m2 m3 m4 => hQ h2 (traced_fly (h := s.heap) (fl := []) hth hH n0 nH (fun b hb => ?_) m2 m3) (moves_of (fl := []) (bb := s.heap) (fun b hb => ?_) trivial m1 fun b o hb hnf => ⟨o.slots, m4 b o hb hnf⟩)
 ·rcases List.mem_cons.mp hb with z | z
  ·exact .inl z
  ·exact .inr (.inl (by rw [List.mem_singleton.mp z]; exact ⟨nT, nHT⟩))
 ·rcases List.mem_cons.mp hb with z | z
  ·exact .inl (by rw [z]; exact ⟨n0, nH⟩)
  ·exact .inl (by rw [List.mem_singleton.mp z]; exact ⟨nT, nHT⟩)
end
end Pu
namespace Pu
open PySem PySem.Spec PyProof.Rows L2
theorem objOk_there {P : Program} {w : World} {H : Hp} {h : Heap} {a : Addr} {o : HO} (x : ObjOk P w H h a o) : ∃ ob, h.get? a = some ob := by
 cases o with
 | lst xs => obtain ⟨_, _, _, _, e⟩ := x; exact ⟨_, e⟩
 | tup xs => obtain ⟨_, _, _, ob, e, _⟩ := x; exact ⟨_, e⟩
 | dK kvs => obtain ⟨_, _, _, _, o, _, _, e, _⟩ := x; exact ⟨_, e⟩
 | dT kvs => obtain ⟨_, _, _, _, o, _, _, e, _⟩ := x; exact ⟨_, e⟩
 | set S n => obtain ⟨o, _, _, _, e, _⟩ := x; exact ⟨_, e⟩
 | ins C dx fs => obtain ⟨_, _, _, e, _⟩ := x; exact ⟨_, e⟩
 | own y => obtain ⟨_, e⟩ := x; exact ⟨_, e⟩
 | xd fs => obtain ⟨_, ⟨_, _, _, e, _⟩, _⟩ := x; exact ⟨_, e⟩
 | rng lo hi => obtain ⟨_, _, _, e⟩ := x; exact ⟨_, e⟩
 | frz ob u => obtain ⟨e, _⟩ := x; exact ⟨_, e⟩
 | tbl ps => exact ⟨_, (show h.get? a = some _ from x)⟩
 | met f y => exact ⟨_, (show h.get? a = some _ from x)⟩
 | ext φ => obtain ⟨_, ⟨_, e⟩, _⟩ := x; exact ⟨_, e⟩
theorem hok_there {P : Program} {w : World} {H : Hp} {h : Heap} (x : HOk P w H h) : ∀ b u, H b = some u -> ∃ o, h.get? b = some o := fun b u e => objOk_there (x b u e)
theorem moves_hok {P : Program} {w : World} {H : Hp} {h0 h h' : Heap} {fs : List Addr} (x : HOk P w H h) (m : Moves h0 H fs h h') (hf : ∀ b ∈ fs, H b = none) : HOk P w H h' := fun b u e => by
 refine (x b u e).stay (fun c v hc q => ?_) (fun _ q => q) fun _ _ q => q
 have ht : ∃ u, H c = some u := by
  rcases hc with z | z
  ·exact ⟨u, by rw [z]; exact e⟩
  ·exact ⟨_, z⟩
 obtain ⟨u', hu⟩ := ht
 exact (m c v q (.inr ⟨u', hu⟩)).1 fun hb => by rw [hf c hb] at hu; cases hu
theorem Fly.back {C e : Addr} {h0 h1 h : Heap} {H : Hp} (F : Fly C h1 H e h) (k : ∀ b o, h0.get? b = some o -> ∃ o', h1.get? b = some o') : Fly C h0 H e h := by
 have z : ∀ b, h1.get? b = none -> h0.get? b = none := fun b hb => by
  cases q : h0.get? b with
  | none => rfl
  | some o => obtain ⟨o', q'⟩ := k b o q; rw [hb] at q'; cases q'
 obtain ⟨n0, nH, oe, vs, a0, he, hc, hd, hz, ht⟩ := F
 refine ⟨z _ n0, nH, oe, vs, a0, he, hc, hd, hz, ?_⟩
 rcases ht with ht | ⟨T, oT, ts, h1', hTe, hT, hdT, h3, nT, nHT⟩
 ·exact .inl ht
 ·exact .inr ⟨T, oT, ts, h1', hTe, hT, hdT, h3, z _ nT, nHT⟩
def CX1 (P : Program) (w : World) : CXT := fun outer H s E e s' => ∃ ea C H', e = .ref ea /\ s'.os = s.os /\ AllBare s'.gens /\ Un (frs outer) [] H H' s.heap s'.heap /\ HOk P w H' s'.heap /\ Fly C s.heap H' ea s'.heap /\ E (.ref C) none H'
def Lets (X : Cx) (W : Addr -> L2.St -> Hp -> Prop) : Prop := ∀ (pins : List (Addr × Obj)) (σ : L2.St) (H : Hp) (s : Shared) (ea C : Addr) (H' : Hp) (s' : Shared), Inv X pins σ H s -> s'.os = s.os -> AllBare s'.gens -> Un (frs X.stack) [] H H' s.heap s'.heap ->
 HOk X.prog X.w H' s'.heap -> Fly C s.heap H' ea s'.heap -> W C σ H' -> X.xe (.ref ea) s'
theorem lets_def {P : Program} {w : World} {K : PySem.W.Frag} {mg : Str -> Option Value} {base : Heap} {N : List Str} {qual : Str} {scope : Scope} {f : Addr} {cd : Value} {A : Around} {outer : List Env} {s0 : Shared} {H0 : Hp} {E : XK} :
  Lets (cxOf (CX1 P w) P w K mg base N qual scope f cd A outer s0 H0 E) (fun C _ H' => E (.ref C) none H') := by
 intro pins σ H s ea C H' s' I hos hb un hok F hE
 have J : Inv _ pins σ H' s' := I.call' (ch := []) hos un hok hb fun _ z => nomatch z
 have th0 : ∀ b o, s0.heap.get? b = some o -> ∃ o', s.heap.get? b = some o' := fun b o e => I.base.there b o e (by intro z; cases z)
 have th1 : ∀ b o, s0.heap.get? b = some o -> ∃ o', s'.heap.get? b = some o' := fun b o e => J.base.there b o e (by intro z; cases z)
 refine leave_fly (h0 := s0.heap) (L := s0.heap.objs.size) J.ok.frames J.stack rfl th1 (hok_there hok) (F.back th0) fun h' F' m => ?_
 refine ⟨ea, C, H', rfl, J.os, hb, ?_, moves_hok hok m J.stkFree, F', hE⟩
 have nl : ∀ b o, s0.heap.get? b = some o -> b ≠ s0.heap.objs.size := fun b o e => Nat.ne_of_lt (Heap.lt_size e)
 have nf : ∀ b o, s0.heap.get? b = some o -> b ∉ frs outer -> b ∉ frs (envOfC qual scope s0.heap.objs.size f cd :: outer) := fun b o e hn z => by
  rcases List.mem_cons.mp (show b ∈ s0.heap.objs.size :: frs outer from z) with z | z
  ·exact nl b o e z
  ·exact hn z
 refine ⟨fun b o e n hb hx => ?_, fun b o e n hb hx => ?_, fun b o e n hx => J.base.free b o e n (by intro z; cases z), fun b o e hx => ?_, J.base.tups, J.base.frzs, J.base.tbls⟩
 ·exact (m b o (J.base.keep b o e n hb (by intro z; cases z)) (.inl ⟨o, e⟩)).1 (nf b o e hb)
 ·obtain ⟨sl, e1⟩ := J.base.slot b o e n hb (by intro z; cases z)
  obtain ⟨sl2, e2⟩ := (m b _ e1 (.inl ⟨o, e⟩)).2
  exact ⟨sl2, e2⟩
 ·obtain ⟨o', e1⟩ := th1 b o e
  obtain ⟨sl2, e2⟩ := (m b _ e1 (.inl ⟨o, e⟩)).2
  exact ⟨_, e2⟩
theorem made_fly {h h' : Heap} {H : Hp} {e C : Addr} {vs : List Value} {P : Program} {w : World} (x : Heap.MadeExcOf h h' e (.ref C) vs) (hok : HOk P w H h) : Fly C h H e h' := by
 obtain ⟨t, he, ht, _⟩ := x.there
 refine ⟨x.new, ?_, _, _, _, he, rfl, rfl, rfl, .inl rfl⟩
 cases q : H e with
 | none => rfl
 | some u => obtain ⟨o, z⟩ := hok_there hok e u q; rw [x.new] at z; cases z
section
variable {X : Cx} {e : Expr} {es : List Expr} {t : TA} {W : Addr -> L2.St -> Hp -> Prop}
theorem ps_raise {c : String} {C : Addr} {tl : List Value} {np cpos pos : Pos} (hL : Lets X W) (hc : ExcAt X.K c C tl) (hm : X.mg (Str.ofString c) = some (.ref C)) (hcalm : X.calm = true) (ha : PA X (e :: es) t) (hg : Gl X (Str.ofString c) := by rfl) (hdb : (Str.ofString c == ("__debug__" : Str)) = false := by decide)
  (he : starEach (e :: es) X.env = (false, eval e X.env) :: starEach es X.env := by rfl) (hpl : (backTo cpos (starEach es X.env)).any (·.1) = false := by rfl) (hlen : (e :: es).length <= 100 := by decide) :
  PS X (.Raise (some (.Call (.Name (Str.ofString c) np) (e :: es) [] cpos)) none pos) (fun _ σ H => t σ H fun vs H' => vs.length <= 100 /\ W C σ H') := by
 intro pins s σ H Dn I h
 obtain ⟨B, newId, initId, bmB, FB, hob⟩ := hc.ob
 obtain ⟨N, nm, q, bs, hdct, sn, sub, ab, col, dd, k0, k1, k2, k3, k5, mN, hC, hN, hni, T⟩ := hob X.base I.ok.mod.kin
 refine wpAny_Raise_call_subT (C := C) (nm := nm) (q := q) (N := N) (bs := bs) (bm := tl) (hdct := hdct) (sn := sn) (sub := sub) (ab := ab) (col := col) (dd := dd) (k0 := k0) (k1 := k1) (k2 := k2) (k3 := k3) (k5 := k5)
  FB (mN := mN) (T.hasType FB.hasBase) (I.ok.hd hcalm) (by rw [he]; show (false || (backTo cpos (starEach es X.env)).any (·.1)) = false; rw [hpl]; rfl) hni (ld_glob I hg hm ⟨rfl, ?_⟩ hdb)
 have hh := ha cpos pins s σ H _ I h
 rw [he] at hh ⊢
 refine Calls.evalArgs_plain (thn hh fun us s2 ⟨vs, H2, I2, r2, hv, hw⟩ => ⟨rfl, ?_, I2.bk _ _ hC, hN.keeps I2.bk, T.keeps I2.bk, fun h' ea hx => ?_⟩)
 ·show us.length <= sizeLine
  rw [<- r2.length]
  exact Nat.le_trans hv (by decide)
 ·exact hL pins σ H2 s2 ea C H2 { s2 with heap := h' } I2 rfl I2.bare (Un.kept hx.keeps) (I2.hok.kept hx.keeps) (made_fly hx I2.hok) hw
end
end Pu
namespace Pu
open PySem PySem.Spec PyProof.Rows L2
theorem un_moves {fs gs : List Addr} {H0 H : Hp} {h0 h h' : Heap} (u : Un fs [] H0 H h0 h) (m : Moves h0 H gs h h') (hg : ∀ b ∈ gs, b ∈ fs) : Un fs [] H0 H h0 h' := by
 have nx : ∀ b : Addr, b ∉ ([] : List Addr) := fun b z => by cases z
 refine ⟨fun b o e n hb hx => ?_, fun b o e n hb hx => ?_, fun b o e n hx => u.free b o e n hx, fun b o e hx => ?_, u.tups, u.frzs, u.tbls⟩
 ·exact (m b o (u.keep b o e n hb hx) (.inl ⟨o, e⟩)).1 fun z => hb (hg b z)
 ·obtain ⟨sl, e1⟩ := u.slot b o e n hb hx
  obtain ⟨sl2, e2⟩ := (m b _ e1 (.inl ⟨o, e⟩)).2
  exact ⟨sl2, e2⟩
 ·obtain ⟨o', e1⟩ := u.there b o e hx
  obtain ⟨sl2, e2⟩ := (m b _ e1 (.inl ⟨o, e⟩)).2
  exact ⟨_, e2⟩
structure FS (X : Cx) (pins : List (Addr × Obj)) (σ : L2.St) (H : Hp) (ea C : Addr) (s : Shared) : Prop where
 ex : ∃ Hc sc, Inv X pins σ Hc sc /\ s.os = sc.os /\ AllBare s.gens /\ Un (frs X.stack) [] Hc H sc.heap s.heap /\ HOk X.prog X.w H s.heap /\ FlyT C sc.heap H ea s.heap
section
variable {X : Cx} {pins : List (Addr × Obj)} {σ : L2.St} {H : Hp} {ea C : Addr} {s : Shared}
theorem FS.inv (F : FS X pins σ H ea C s) : Inv X pins σ H s := by
 obtain ⟨Hc, sc, I, os, bare, un, hok, f⟩ := F.ex
 exact I.call' (ch := []) os un hok bare fun _ z => nomatch z
theorem FS.there (F : FS X pins σ H ea C s) : ∃ oe, s.heap.get? ea = some oe /\ oe.cls = .ref C := by
 obtain ⟨Hc, sc, I, os, bare, un, hok, f⟩ := F.ex
 obtain ⟨_, _, oe, _, _, _, _, _, he, hc, _⟩ := f
 exact ⟨oe, he, hc⟩
abbrev held (X : Cx) (ea : Addr) : Cx := { X with A := X.A.mark (some (.ref ea)), calm := false, xe := fun _ _ => False }
theorem ok_held (ok : X.Ok) (ea : Addr) : (held X ea).Ok :=
 ⟨ok.mod, ok.kind, ok.glob, ok.blt, ok.above, ok.inj, ok.has, ok.cab, (fun z => nomatch z), ok.frames, ok.stk, ok.exf, ok.bs, ok.bsz, ok.noex, ok.exfs, ok.funs, ok.frf⟩
theorem inv_held (I : Inv X pins σ H s) (ea : Addr) : Inv (held X ea) pins σ H s := ⟨ok_held I.ok ea, I.os, I.bare, I.base, I.loc, I.cell, I.free, I.freeC, I.pin, I.hok, I.len⟩
theorem inv_unheld (ok : X.Ok) (I : Inv (held X ea) pins σ H s) : Inv X pins σ H s := ⟨ok, I.os, I.bare, I.base, I.loc, I.cell, I.free, I.freeC, I.pin, I.hok, I.len⟩
theorem sp_unheld {D : Ends} {f : Flow} {s' : Shared} (ok : X.Ok) (h : SP (held X ea) pins D f s') : SP X pins D f s' := by
 cases f with
 | next => obtain ⟨σ', H', I, q⟩ := h; exact ⟨σ', H', inv_unheld ok I, q⟩
 | brk => obtain ⟨σ', H', I, q⟩ := h; exact ⟨σ', H', inv_unheld ok I, q⟩
 | cont => obtain ⟨σ', H', I, q⟩ := h; exact ⟨σ', H', inv_unheld ok I, q⟩
 | ret u => obtain ⟨v, σ', H', I, r, q⟩ := h; exact ⟨v, σ', H', inv_unheld ok I, r, q⟩
theorem FS.set {M : Model} {A : Around} {E : Value -> Shared -> Prop} {Q : Unit -> Shared -> Prop} (F : FS X pins σ H ea C s) (h : ∀ s', FS X pins σ H ea C s' -> Q () s') : wpAny M A (setFlight (.ref ea) none) Q E s := by
 obtain ⟨Hc, sc, I, os, bare, un, hok, f⟩ := F.ex
 refine set_fly (fun b o e => un.there b o e (by intro z; cases z)) (hok_there hok) f fun h' f' m => h _ ⟨Hc, sc, I, os, bare, un_moves un m (by intro b z; cases z), moves_hok hok m (by intro b z; cases z), f'⟩
end
section
variable {M : Model} {A : Around} {E : Value -> Shared -> Prop} {nm q : Str} {C N : Addr} {bs bm : List Value} {hdct : Bool} {sn : List Str} {sub : List Value} {ab : Bool} {col : Option Bool} {dd : Option Addr} {k0 k1 k2 k3 k5 : Option Value} {newId : String}
variable {nm' q' : Str} {D' N' : Addr} {bs' bm' : List Value} {hdct' : Bool} {sn' : List Str} {sub' : List Value} {ab' : Bool} {col' : Option Bool} {dd' : Option Addr} {j0 j1 j2 j3 j5 : Option Value} {newId' : String}
theorem excMatches_own {h : Heap} {g : Array GenState} {d : Drawn} {t : Nat} {os : OsState} {e : Addr} {oe : Obj} {Q : Bool -> Shared -> Prop}
  (hC : h.get? C = some (excClassObj nm q C N bs bm hdct sn sub ab col dd k0 k1 k2 k3 k5 newId)) (hD : h.get? D' = some (excClassObj nm' q' D' N' bs' bm' hdct' sn' sub' ab' col' dd' j0 j1 j2 j3 j5 newId')) (he : h.get? e = some oe) (hcls : oe.cls = .ref C) (hbase : bm'.contains (.type "BaseException") = true)
  (hq : Q ((Value.ref C :: bm).contains (.ref D')) ⟨h, g, d, t, os⟩) : wpAny M A (excMatches (.ref e) (.ref D')) Q E ⟨h, g, d, t, os⟩ := by
 have hcB : (Value.ref D' :: bm').contains (.type "BaseException") = true := by rw [List.contains_cons, hbase, Bool.or_true]
 have f := tc_notTuple
 unfold excMatches
 cases hb : (Value.ref C :: bm).contains (.ref D') <;> rw [hb] at hq <;>
  repeat (first | (with_reducible refine wpAny_loadPart_at he ?_; rw [hcls]) | with_reducible refine wpAny_loadPart_at hD ?_ | (with_reducible refine wpAny_isSubtype_exc hD ?_; rw [hcB]) | (with_reducible refine wpAny_isSubtype_exc hC ?_; rw [hb]) | wp_step)
 ·exact hq
 ·exact hq
end
def PH (X : Cx) (hs : List ExceptHandler) (t : Addr -> TS) : Prop := ∀ (pins : List (Addr × Obj)) (s : Shared) (σ : L2.St) (H : Hp) (Dn : Ends) (ea C : Addr), FS X pins σ H ea C s -> t C Dn σ H -> wpAny (model X.prog X.w) X.A (handleBy (.ref ea) X.env hs) (SP X pins Dn) X.xe s
section
variable {X : Cx}
theorem ph_cons {d : String} {D' : Addr} {bm' : List Value} {np pos : Pos} {b₀ : Stmt} {suite : List Stmt} {rest : List ExceptHandler} {ts : TS} {tr : Addr -> TS} (hD : ExcAt X.K d D' bm') (hm : X.mg (Str.ofString d) = some (.ref D')) (hs : ∀ ea, PSs (held X ea) (b₀ :: suite) ts) (hr : PH X rest tr)
  (hg : Gl X (Str.ofString d) := by rfl) (hdb : (Str.ofString d == ("__debug__" : Str)) = false := by decide) :
  PH X (.ExceptHandler (some (.Name (Str.ofString d) np)) none (b₀ :: suite) pos :: rest) (fun C Dn σ H => ∃ c bm, ExcAt X.K c C bm /\ if (Value.ref C :: bm).contains (.ref D') = true then ts Dn σ H else tr C Dn σ H) := by
 intro pins s σ H Dn ea C F ⟨c, bm, hC, h⟩
 have I := F.inv
 obtain ⟨oe, he, hcls⟩ := F.there
 obtain ⟨B, newId, initId, bmB, FB, hob⟩ := hC.ob
 obtain ⟨B', newId', initId', bmB', FB', hob'⟩ := hD.ob
 obtain ⟨N, nm, q, bs, hdct, sn, sub, ab, col, dd, k0, k1, k2, k3, k5, mN, oC, _⟩ := hob s.heap I.kIn
 obtain ⟨N', nm', q', bs', hdct', sn', sub', ab', col', dd', j0, j1, j2, j3, j5, mN', oD, _, _, T'⟩ := hob' s.heap I.kIn
 refine wpAny_handleBy_cons (codeAny_handlers_test (ld_glob (inv_held I ea) hg hm ?_ hdb)) (by intro q; cases q)
 obtain ⟨hp, g, dr, tk, os⟩ := s
 refine excMatches_own oC oD he hcls (T'.hasType FB'.hasBase) ?_
 split at h
 ·rename_i hb
  rw [hb]
  refine codeAny_handlers_suite (F.set fun s' F' => wpAny_mono (hs ea pins s' σ H Dn (inv_held F'.inv ea) h) (fun f s2 z => sp_unheld I.ok z) fun _ _ z => z.elim)
 ·rename_i hb
  rw [Bool.not_eq_true] at hb
  rw [hb]
  exact hr pins _ σ H Dn ea C F h
def onExc (X : Cx) (hs : List ExceptHandler) (pins : List (Addr × Obj)) (Dn : Ends) (e : Value) (s1 : Shared) : Prop :=
 wpAny (model X.prog X.w) X.A (noteFrame e X.env) (fun _ s2 => wpAny (model X.prog X.w) X.A (setFlight e none) (fun _ s3 => wpAny (model X.prog X.w) X.A (handleBy e X.env hs) (SP X pins Dn) X.xe s3) X.xe s2) X.xe s1
abbrev tryX (X : Cx) (pn : List (Addr × Obj)) (E : Value -> Shared -> Prop) : Cx := { X with pn := pn, xe := E }
theorem ok_tryX {pn : List (Addr × Obj)} {E : Value -> Shared -> Prop} (ok : X.Ok) : (tryX X pn E).Ok :=
 ⟨ok.mod, ok.kind, ok.glob, ok.blt, ok.above, ok.inj, ok.has, ok.cab, ok.hd, ok.frames, ok.stk, ok.exf, ok.bs, ok.bsz, ok.noex, ok.exfs, ok.funs, ok.frf⟩
theorem inv_tryX {pins : List (Addr × Obj)} {E : Value -> Shared -> Prop} {σ : L2.St} {H : Hp} {s : Shared} (I : Inv X pins σ H s) : Inv (tryX X (X.pn ++ pins) E) [] σ H s :=
 ⟨ok_tryX I.ok, I.os, I.bare, I.base, I.loc, I.cell, I.free, I.freeC, fun p hp => I.pin p (by rw [List.append_nil] at hp; exact hp), I.hok, I.len⟩
theorem inv_untryX {pins pins' : List (Addr × Obj)} {E : Value -> Shared -> Prop} {σ : L2.St} {H : Hp} {s : Shared} (ok : X.Ok) (I : Inv (tryX X (X.pn ++ pins) E) pins' σ H s) : Inv X pins σ H s :=
 ⟨ok, I.os, I.bare, I.base, I.loc, I.cell, I.free, I.freeC, fun p hp => I.pin p (List.mem_append_left _ hp), I.hok, I.len⟩
theorem sp_untryX {pins : List (Addr × Obj)} {E : Value -> Shared -> Prop} {D : Ends} {f : Flow} {s' : Shared} (ok : X.Ok) (h : SP (tryX X (X.pn ++ pins) E) [] D f s') : SP X pins D f s' := by
 cases f with
 | next => obtain ⟨σ', H', I, q⟩ := h; exact ⟨σ', H', inv_untryX ok I, q⟩
 | brk => obtain ⟨σ', H', I, q⟩ := h; exact ⟨σ', H', inv_untryX ok I, q⟩
 | cont => obtain ⟨σ', H', I, q⟩ := h; exact ⟨σ', H', inv_untryX ok I, q⟩
 | ret u => obtain ⟨v, σ', H', I, r, q⟩ := h; exact ⟨v, σ', H', inv_untryX ok I, r, q⟩
theorem ps_try {body : List Stmt} {h₀ : ExceptHandler} {hs : List ExceptHandler} {pos : Pos} {tb : (Addr -> L2.St -> Hp -> Prop) -> TS} {th : Addr -> TS} (hst : X.stack = X.env :: X.outer /\ X.env.frame = some X.env.locals)
  (hb : ∀ (pn : List (Addr × Obj)) (E : Value -> Shared -> Prop) (W : Addr -> L2.St -> Hp -> Prop), Lets (tryX X pn E) W -> PSs (tryX X pn E) body (tb W)) (hh : PH X (h₀ :: hs) th) :
  PS X (.Try body (h₀ :: hs) [] [] pos) (fun Dn σ H => tb (fun C σ' H' => th C Dn σ' H') Dn σ H) := by
 intro pins s σ H Dn I h
 refine wpAny_Try_except ?_
 have hL : Lets (tryX X (X.pn ++ pins) (onExc X (h₀ :: hs) pins Dn)) (fun C σ' H' => th C Dn σ' H') := by
  intro pins' σ' Hc sc ea C H' s' J hos hbare un hok F hW
  have J' := inv_untryX (pins := pins) I.ok J
  have K' : Inv X pins σ' H' s' := J'.call' (ch := []) hos un hok hbare fun _ z => nomatch z
  have fr := K'.ok.frames
  have sk := K'.stack
  rw [hst.1] at fr sk
  refine note_fly fr sk hst.2 (fun b o e => un.there b o e (by intro z; cases z)) (hok_there hok) F fun h' F' m => ?_
  have un' : Un (frs X.stack) [] Hc H' sc.heap h' := un_moves un m (by rw [hst.1]; exact fun _ z => z)
  exact hh pins _ σ' H' Dn ea C ⟨Hc, sc, J', hos, hbare, un', moves_hok hok m (by rw [<- hst.1]; exact K'.stkFree), F'⟩ hW
 refine wpAny_mono (hb _ _ _ hL [] s σ H Dn (inv_tryX I) h) (fun f s1 z => ?_) fun e s1 z => z
 have z' := sp_untryX I.ok z
 cases f with
 | next => exact wpAny_pure z'
 | brk => exact z'
 | cont => exact z'
 | ret u => exact z'
end
end Pu
namespace Pu
open PySem PySem.Spec PyProof.Rows L2
abbrev XW := D -> L2.St -> Hp -> Prop
def Exc (K : PySem.W.Frag) (B A : List Addr) (H : Hp) (sm : Bool) (st : PSt) (x : D) (W : XW) : Prop := ∀ A' st' σ' H', Le A H A' H' -> RS K B A' H' st' σ' -> (sm = true -> st' = st) -> W x σ' H'
theorem Exc.mono {K : PySem.W.Frag} {B A A1 : List Addr} {H H1 : Hp} {sm : Bool} {st : PSt} {x : D} {W : XW} (l : Le A H A1 H1) (h : Exc K B A H sm st x W) : Exc K B A1 H1 sm st x W := fun A' st' σ' H' l' => h A' st' σ' H' (l.trans l')
theorem Exc.any {K : PySem.W.Frag} {B A : List Addr} {H : Hp} {sm : Bool} {st st2 : PSt} {x : D} {W : XW} (h : Exc K B A H false st2 x W) : Exc K B A H sm st x W := fun A' st' σ' H' l r _ => h A' st' σ' H' l r fun z => nomatch z
def Out (K : PySem.W.Frag) (B A : List Addr) (H : Hp) (sm : Bool) (st : PSt) (W : XW) (Dn : Ends) (r : R Fl) : Prop := match r with
 | .ok r => Post K B A H r Dn
 | .exc x => Exc K B A H sm st x W
 | .bad => False
theorem Out.mono {K : PySem.W.Frag} {B A A1 : List Addr} {H H1 : Hp} {sm : Bool} {st : PSt} {W : XW} {Dn : Ends} {r : R Fl} (l : Le A H A1 H1) (h : Out K B A H sm st W Dn r) : Out K B A1 H1 sm st W Dn r := by
 cases r with
 | ok r => exact Post.mono l h
 | exc x => exact Exc.mono l h
 | bad => exact h
theorem Out.any {K : PySem.W.Frag} {B A : List Addr} {H : Hp} {sm : Bool} {st st2 : PSt} {W : XW} {Dn : Ends} {r : R Fl} (h : Out K B A H false st2 W Dn r) : Out K B A H sm st W Dn r := by
 cases r with
 | ok r => exact h
 | exc x => exact Exc.any h
 | bad => exact h
def tSX (K : PySem.W.Frag) (B : List Addr) (sm : Bool) (W : XW) (b : Bd) : TS := fun Dn σ H => ∃ A st, RS K B A H st σ /\ Out K B A H sm st W Dn (b st)
def tIX (K : PySem.W.Frag) (B : List Addr) (W : XW) (f : Ex) : TE := fun σ H Q => ∃ A st, RS K B A H st σ /\ (match f st with
 | .ok d => ∀ v H', Same H H' -> Rep K (hide (A ++ B) H') d v -> Q v H'
 | .exc x => ∀ H', Same H H' -> W x σ H'
 | .bad => False)
def LetsD (X : Cx) (W : XW) : Prop := Lets X fun C σ H' => ∃ c bm, ExcAt X.K c C bm /\ W (.exn c [] []) σ H'
section
variable {X : Cx} {B : List Addr} {a b e o : Expr} {f g : Ex} {pos : Pos} {sm : Stmt} {rest : List Stmt} {bd bd' : Bd} {W : XW} {s1 s2 : Bool}
theorem x_any (h : PS X sm (tSX X.K B s1 W bd)) : PS X sm (tSX X.K B false W bd) := ps_imp h fun Dn σ H ⟨A, st, rs, q⟩ => ⟨A, st, rs, q.any⟩
theorem x_lift (h : PS X sm (tS X.K B bd)) : PS X sm (tSX X.K B s1 W (sNX bd)) := ps_imp h (by
 rintro Dn σ H ⟨A, st, rs, q⟩
 unfold sNX at q
 cases hb : bd st with
 | ok r => rw [hb] at q; exact ⟨A, st, r, rs, hb, q⟩
 | exc x => rw [hb] at q; exact q.elim
 | bad => rw [hb] at q; exact q.elim)
theorem x_nil : PSs X [] (tSX X.K B s1 W sNext) := pss_imp pss_nil (by
 rintro Dn σ H ⟨A, st, rs, q⟩
 exact q A σ H Le.refl rs)
theorem x_one (h1 : PS X sm (tSX X.K B s1 W bd)) : PSs X [sm] (tSX X.K B s1 W bd) := pss_one h1
theorem x_cons (h1 : PS X sm (tSX X.K B s1 W bd)) (h2 : PSs X rest (tSX X.K B s2 W bd')) : PSs X (sm :: rest) (tSX X.K B false W (sSeq bd bd')) := by
 refine pss_imp (pss_cons h1 h2) ?_
 rintro Dn σ H ⟨A, st, rs, q⟩
 refine ⟨A, st, rs, ?_⟩
 unfold sSeq onNx at q
 cases hb : bd st with
 | ok r =>
  rw [hb] at q
  cases r with
  | nx s1 => exact fun A' σ' H' l rs' => ⟨A', s1, rs', (q.mono l).any⟩
  | rt d => exact q
  | bk s1 => exact q
  | ct s1 => exact q
 | exc x => rw [hb] at q; exact Exc.any q
 | bad => rw [hb] at q; exact q
theorem x_if {c : Expr} {t : Ex} {x y : List Stmt} (hc : PT X c (tT X.K B t)) (ha : PSs X x (tSX X.K B s1 W bd)) (hb : PSs X y (tSX X.K B s1 W bd')) : PS X (.If c x y pos) (tSX X.K B s1 W (sIf (eNX t) bd bd')) := ps_imp (ps_if hc ha hb) (by
 rintro Dn σ H ⟨A, st, rs, q⟩
 unfold sIf eNX at q
 cases ht : t st with
 | exc x => rw [ht] at q; exact q.elim
 | bad => rw [ht] at q; exact q.elim
 | ok d =>
  rw [ht] at q
  cases d <;> first | exact q.elim | skip
  rename_i k
  refine ⟨A, st, k, rs, ht, fun H1 s1 => ?_⟩
  cases k with
  | true => exact ⟨A, st, rs.mono s1, Out.mono (Le.of s1) q⟩
  | false => exact ⟨A, st, rs.mono s1, Out.mono (Le.of s1) q⟩)
theorem x_exp (h : PE X e (tIX X.K B W f)) (hs : swapsWith e none pos.line X.env = pure false := by rfl) : PS X (.Expr e pos) (tSX X.K B true W (sExp f)) := ps_imp (ps_expr h hs) (by
 rintro Dn σ H ⟨A, st, rs, q⟩
 refine ⟨A, st, rs, ?_⟩
 unfold sExp at q
 cases hf : f st with
 | ok d => rw [hf] at q; exact fun v H' s _ => q A σ H' (Le.of s) (rs.mono s)
 | exc x => rw [hf] at q; exact fun H' s => q A st σ H' (Le.of s) (rs.mono s) fun _ => rfl
 | bad => rw [hf] at q; exact q)
theorem x_ret (h : PE X e (tIX X.K B W f)) : PS X (.Return (some e) pos) (tSX X.K B true W (sRet f)) := ps_imp (ps_ret h) (by
 rintro Dn σ H ⟨A, st, rs, q⟩
 refine ⟨A, st, rs, ?_⟩
 unfold sRet at q
 cases hf : f st with
 | ok d => rw [hf] at q; exact fun v H' s r => q A v H' (Le.of s) r
 | exc x => rw [hf] at q; exact fun H' s => q A st σ H' (Le.of s) (rs.mono s) fun _ => rfl
 | bad => rw [hf] at q; exact q)
theorem x_raise {c : String} {C : Addr} {tl : List Value} {es : List Expr} {r : Exs} {np cpos : Pos} (hL : LetsD X W) (hc : ExcAt X.K c C tl) (hm : X.mg (Str.ofString c) = some (.ref C)) (hcalm : X.calm = true) (ha : PA X (e :: es) (tA X.K B r)) (hg : Gl X (Str.ofString c) := by rfl) (hdb : (Str.ofString c == ("__debug__" : Str)) = false := by decide)
  (he : starEach (e :: es) X.env = (false, eval e X.env) :: starEach es X.env := by rfl) (hpl : (backTo cpos (starEach es X.env)).any (·.1) = false := by rfl) (hlen : (e :: es).length <= 100 := by decide) :
  PS X (.Raise (some (.Call (.Name (Str.ofString c) np) (e :: es) [] cpos)) none pos) (tSX X.K B true W (sRaise c r)) := by
 refine ps_imp (ps_raise hL hc hm hcalm ha hg hdb he hpl hlen) ?_
 rintro Dn σ H ⟨A, st, rs, q⟩
 unfold sRaise at q
 cases hr : r st with
 | exc x => rw [hr] at q; exact q.elim
 | bad => rw [hr] at q; exact q.elim
 | ok ds =>
  rw [hr] at q
  by_cases hl : ds.length <= 100
  ·refine ⟨A, st, ds, rs, hr, fun vs H1 s1 r1 => ⟨by rw [r1.length]; exact hl, c, tl, hc, ?_⟩⟩
   have q' : Out X.K B A H true st W Dn (guardR (ds.length <= 100) (.exc (.exn c [] []))) := q
   rw [guardR_pos hl] at q'
   exact q' A st σ H1 (Le.of s1) (rs.mono s1) fun _ => rfl
  ·have q' : Out X.K B A H true st W Dn (guardR (ds.length <= 100) (.exc (.exn c [] []))) := q
   rw [show guardR (ds.length <= 100) (R.exc (α := Fl) (.exn c [] [])) = .bad from if_neg hl] at q'
   exact q'.elim
end
end Pu
namespace Pu
open PySem PySem.Spec PyProof.Rows L2
def spE (K : PySem.W.Frag) (np : Nat) (p : List D -> R D) : Sp := fun vs H Q E => ∃ A ds, Own A H /\ Reps K (hide A H) ds vs /\ ds.length = np /\ (match p ds with
 | .ok d => ∀ v H', Same H H' -> Rep K (hide A H') d v -> Q v H'
 | .exc x => ∀ C c bm H', x = .exn c [] [] -> ExcAt K c C bm -> Same H H' -> E (.ref C) none H'
 | .bad => False)
theorem fn_x {P : Program} {w : World} {K : PySem.W.Frag} {mg : Str -> Option Value} {base : Heap} {x qual : Str} {st : Stmt} {f : Addr} {fd : FuncData} {N ps : List Str} {k : Nat} {sm : Bool} {dV : Value} (F : FunD K x qual st dV f fd) (S : FnScope N ps (defScope st)) (np n : Nat) (bd : Bd) (hnp : ps.length = np) (hn : N.length = n)
  (hb : ∀ (cdv : Value) (A : Around) (outer : List Env) (s : Shared) (H : Hp) (E : XK) (B : List Addr) (W : XW), Room k (A.deeper (envOfC qual (defScope st) s.heap.objs.size f cdv)) ->
   LetsD (cxOf (CX1 P w) P w K mg base N qual (defScope st) f cdv A outer s H E) W -> PSs (cxOf (CX1 P w) P w K mg base N qual (defScope st) f cdv A outer s H E) (defBody st) (tSX K B sm W bd)) : FnOk P w K mg base (CX1 P w) (k + 1) f fd ps (spE K np (runD np n bd)) := by
 obtain ⟨oc, od, kV, doc, pm, an, cdv, ct, osl, rfl, lk, hcd⟩ := F.ex
 refine fn_of lk hcd S (fun vs H Q E h => ?_) fun A outer s H vs Q E hr h => ?_
 ·obtain ⟨A, ds, own, r, hl, _⟩ := h
  rw [r.length, hl, hnp]
 ·obtain ⟨B, ds, own, r, hl, q⟩ := h
  let W : XW := fun x _ H' => ∀ C c bm, x = .exn c [] [] -> ExcAt K c C bm -> E (.ref C) none H'
  refine ⟨tSX K B sm W bd, hb cdv A outer s H E B W hr ?_, ?_⟩
  ·intro pins σ H1 s1 ea C H' s' I h1 h2 h3 h4 h5 ⟨c, bm, hc, hw⟩
   exact lets_def pins σ H1 s1 ea C H' s' I h1 h2 h3 h4 h5 (hw C c bm rfl hc)
  ·have rs := start_rs (N := N) own r
   rw [hl, hn] at rs
   refine ⟨[], _, rs, ?_⟩
   have fin : ∀ {A' : List Addr} {H' : Hp}, Le [] H A' H' -> Same H H' := fun {A' H'} l => by
    unfold Le at l
    rw [hide_nil] at l
    exact l.trans (hide_sub _ _)
   unfold runD at q
   rw [guardR_pos hl] at q
   cases hfl : bd (ds.map (fun d => some (Sl.v d)) ++ List.replicate (n - np) none) with
   | ok fl =>
    rw [hfl] at q
    cases fl with
    | nx s1 => exact fun A' σ' H' l rs' => q _ H' (fin l) (rep_non.mpr rfl)
    | rt d' => exact fun A' v H' l rv => q v H' (fin l) (rv.mono (hide_more fun a ha => List.mem_append_right _ ha))
    | bk s1 => exact q.elim
    | ct s1 => exact q.elim
   | exc x =>
    rw [hfl] at q
    exact fun A' st' σ' H' l rs' _ C c bm e hc => q C c bm H' e hc (fin l)
   | bad => rw [hfl] at q; exact q
theorem calm_of {P : Program} {w : World} {K : PySem.W.Frag} {mg : Str -> Option Value} {base : Heap} {k np : Nat} {f : Addr} {fd : FuncData} {ps : List Str} {p : List D -> R D} (F : FnOk P w K mg base (CX1 P w) k f fd ps (spE K np p)) : FnOk P w K mg base CX0 k f fd ps (spI K np (pNX p)) := by
 have up : ∀ vs H Q E, spI K np (pNX p) vs H Q E -> spE K np p vs H Q E0 := by
  rintro vs H Q E ⟨A, ds, d, own, r, hl, hp, q⟩
  refine ⟨A, ds, own, r, hl, ?_⟩
  rw [R.nox_ok hp]
  exact q
 refine ⟨fun vs H Q E h => F.len vs H Q E0 (up vs H Q E h), fun A outer s H args us vs Q E hr e0 hb hv h => ?_⟩
 refine codeAny_mono (F.run A outer s H args us vs Q E0 hr e0 hb hv (up vs H Q E h)) fun r s' z => ?_
 cases r with
 | error e => obtain ⟨_, _, _, _, _, _, _, _, _, hE⟩ := z; exact hE.elim
 | ok fl => cases fl <;> exact z
structure DefOkX (P : Program) (w : World) (K : PySem.W.Frag) (mg : Str -> Option Value) (base : Heap) (x : Str) (k np : Nat) (p : List D -> R D) : Prop where
 ex : ∃ (fa : Addr) (fd : FuncData) (ps : List Str), FnOk P w K mg base (CX1 P w) k fa fd ps (spE K np p) /\ mg x = some (.ref fa) /\ PySem.W.keepIn K (.ref fa) = true /\ Binds K fd ps []
 len : ∀ ds, p ds ≠ .bad -> ds.length = np
theorem runD_len' {np n : Nat} {bd : Bd} (ds : List D) (h : runD np n bd ds ≠ .bad) : ds.length = np := by
 by_cases hl : ds.length = np
 ·exact hl
 ·exact (h (if_neg hl)).elim
theorem DefOkX.of {P : Program} {w : World} {K : PySem.W.Frag} {mg : Str -> Option Value} {base : Heap} {x : Str} {k np n : Nat} {bd : Bd} {fa : Addr} {fd : FuncData} {ps : List Str} (h : FnOk P w K mg base (CX1 P w) k fa fd ps (spE K np (runD np n bd))) (m : mg x = some (.ref fa))
  (kp : PySem.W.keepIn K (.ref fa) = true) (b : Binds K fd ps []) : DefOkX P w K mg base x k np (runD np n bd) := ⟨⟨fa, fd, ps, h, m, kp, b⟩, runD_len'⟩
theorem DefOkX.calm {P : Program} {w : World} {K : PySem.W.Frag} {mg : Str -> Option Value} {base : Heap} {x : Str} {k np : Nat} {p : List D -> R D} (h : DefOkX P w K mg base x k np p) : DefOk P w K mg base x k np (pNX p) := by
 obtain ⟨fa, fd, ps, F, m, kp, b⟩ := h.ex
 refine ⟨⟨fa, fd, ps, calm_of F, m, kp, b⟩, fun ds d e => h.len ds fun z => ?_⟩
 rw [R.nox_ok e] at z
 cases z
section
variable {X : Cx} {B : List Addr} {a b e o : Expr} {f g : Ex} {pos : Pos} {W : XW}
theorem run_fnX {CX : CXT} {k : Nat} {fa : Addr} {fd : FuncData} {ps : List Str} {sp : Sp} {dvs : List V} {ds : List Value} {E : XK} {pins : List (Addr × Obj)} {σ : L2.St} {H : Hp} {s : Shared} {Q : VK} {us : List Value} {vs : List V} (F : FnOk X.prog X.w X.K X.mg X.base CX k fa fd ps sp) (hr : Room k X.A) (hb : Binds X.K fd ps ds) (hd : Vals dvs ds)
  (I : Inv X pins σ H s) (r : Vals vs us) (hx : ∀ e s', CX X.stack H s E e s' -> X.xe e s') (h : sp (vs ++ dvs) H Q E) : wpAny (model X.prog X.w) X.A (call (.ref fa) us) (EP X pins σ Q) X.xe s := by
 have r2 : Vals (vs ++ dvs) (us ++ ds) := r.append hd
 have hl : (us ++ ds).length = ps.length := by rw [<- r2.length]; exact F.len _ _ _ _ h
 refine wpAny_call (codeAny_mono (F.run X.A X.stack s H ⟨us, []⟩ (us ++ ds) (vs ++ dvs) Q E hr I.env0 (hb s us I.kIn hl) r2 h) fun r s' hq => ?_)
 cases r with
 | error e => exact hx e s' hq
 | ok fl =>
  cases fl with
  | ret u => exact I.after hq
  | next => exact False.elim hq
  | brk => exact False.elim hq
  | cont => exact False.elim hq
def EW (X : Cx) (W : XW) (σ : L2.St) : XK := fun cv _ H' => ∃ C c bm, cv = .ref C /\ ExcAt X.K c C bm /\ W (.exn c [] []) σ H'
theorem ew_x {pins : List (Addr × Obj)} {σ : L2.St} {H : Hp} {s : Shared} (hL : LetsD X W) (I : Inv X pins σ H s) (e : Value) (s' : Shared) (h : CX1 X.prog X.w X.stack H s (EW X W σ) e s') : X.xe e s' := by
 obtain ⟨ea, C, H', rfl, os, bare, un, hok, F, C', c, bm, e1, hc, hw⟩ := h
 cases e1
 exact hL pins σ H s ea C H' s' I os bare un hok F ⟨c, bm, hc, hw⟩
theorem i_callX {x : Str} {k j np : Nat} {p : List D -> R D} {es : List Expr} {r : Exs} {p0 : Pos} (h : DefOkX X.prog X.w X.K X.mg X.base x k np p) (hL : LetsD X W) (hr : Room j X.A) (hk : k <= j) (ha : PA X (e :: es) (tA X.K B r)) (hg : Gl X x := by rfl) (hdb : (x == ("__debug__" : Str)) = false := by decide)
  (he : starEach (e :: es) X.env = (false, eval e X.env) :: starEach es X.env := by rfl) (hpl : (backTo pos (starEach es X.env)).any (·.1) = false := by rfl) : PE X (.Call (.Name x p0) (e :: es) [] pos) (tIX X.K B W (eCallX p r)) := by
 obtain ⟨fa, fd, ps, F, m, kp, bd⟩ := h.ex
 intro pins s σ H Q I ⟨A, st, rs, q⟩
 unfold eCallX at q
 cases hr' : r st with
 | exc x => rw [hr'] at q; exact q.elim
 | bad => rw [hr'] at q; exact q.elim
 | ok xs =>
  rw [hr'] at q
  refine wpAny_Call_Name_kw (ld_glob I hg m ?_ hdb)
  refine PySem.W.callWith_K (h₀ := X.base) I.ok.mod.kin kp (thn (ha pos pins s σ H (fun vs H1 => Same H H1 /\ Reps X.K (hide (A ++ B) H1) xs vs) I ⟨A, st, xs, rs, hr', fun vs H1 s1 r1 => ⟨s1, r1⟩⟩) fun us s1 ⟨vs, H1, I1, rv, sm, rp⟩ => ⟨I1.kIn, ?_⟩) he hpl
  refine run_fnX (dvs := []) (E := EW X W σ) F (hr.mono hk) bd .nil I1 rv (ew_x hL I1) ?_
  rw [List.append_nil]
  have q' : (match p xs with
   | .ok d => ∀ v H', Same H H' -> Rep X.K (hide (A ++ B) H') d v -> Q v H'
   | .exc x => ∀ H', Same H H' -> W x σ H'
   | .bad => False) := q
  refine ⟨A ++ B, xs, rs.own.mono sm, rp, h.len xs fun z => ?_, ?_⟩
  ·rw [z] at q'; exact q'
  ·cases hp : p xs with
   | ok d => rw [hp] at q'; exact fun v H' s' r' => q' v H' (sm.trans s') r'
   | exc x => rw [hp] at q'; exact fun C c bm H' e1 hc s' => ⟨C, c, bm, rfl, hc, by rw [<- e1]; exact q' H' (sm.trans s')⟩
   | bad => rw [hp] at q'; exact q'
def IsA (K : PySem.W.Frag) (D' : Addr) (b : Bool) (c : String) : Prop := ∀ C bm, ExcAt K c C bm -> (Value.ref C :: bm).contains (.ref D') = b
def PHD (X : Cx) (B : List Addr) (hs : List ExceptHandler) (hl : List (List String × List String × (String -> Bd))) : Prop :=
 PH X hs fun C Dn σ H => ∃ c bm A st r, ExcAt X.K c C bm /\ RS X.K B A H st σ /\ hRun hl c st = .ok r /\ Post X.K B A H r Dn
theorem phd_nil : PHD X B [] [] := fun _ _ _ _ _ _ _ _ ⟨_, _, _, _, _, _, _, h, _⟩ => nomatch h
theorem phd_cons {d : String} {D' : Addr} {bm' : List Value} {np hpos : Pos} {b₀ : Stmt} {suite : List Stmt} {rest : List ExceptHandler} {yes no : List String} {bh : Bd} {hl : List (List String × List String × (String -> Bd))} (hD : ExcAt X.K d D' bm') (hm : X.mg (Str.ofString d) = some (.ref D')) (hy : ∀ c ∈ yes, IsA X.K D' true c) (hn : ∀ c ∈ no, IsA X.K D' false c)
  (hs : ∀ ea, PSs (held X ea) (b₀ :: suite) (tS X.K B bh)) (hr : PHD X B rest hl) (hg : Gl X (Str.ofString d) := by rfl) (hdb : (Str.ofString d == ("__debug__" : Str)) = false := by decide) :
  PHD X B (.ExceptHandler (some (.Name (Str.ofString d) np)) none (b₀ :: suite) hpos :: rest) ((yes, no, hNo bh) :: hl) := by
 intro pins s σ H Dn ea C F ⟨c, bm, A, st, r, hC, rs, h, q⟩
 refine ph_cons (np := np) (pos := hpos) hD hm hs hr hg hdb pins s σ H Dn ea C F ⟨c, bm, hC, ?_⟩
 have h' : (if c ∈ yes then (bh st).nox else if c ∈ no then hRun hl c st else .bad) = .ok r := h
 by_cases h1 : c ∈ yes
 ·rw [if_pos h1] at h'
  rw [if_pos (hy c h1 C bm hC)]
  exact ⟨A, st, r, rs, R.nox_ok h', q⟩
 ·rw [if_neg h1] at h'
  by_cases h2 : c ∈ no
  ·rw [if_pos h2] at h'
   rw [if_neg (by rw [hn c h2 C bm hC]; decide)]
   exact ⟨c, bm, A, st, r, hC, rs, h', q⟩
  ·rw [if_neg h2] at h'
   cases h'
theorem s_try {body : List Stmt} {h₀ : ExceptHandler} {hs : List ExceptHandler} {b : Bd} {hl : List (List String × List String × (String -> Bd))} (hb : ∀ (pn : List (Addr × Obj)) (E : Value -> Shared -> Prop) (W : XW), LetsD (tryX X pn E) W -> PSs (tryX X pn E) body (tSX X.K B true W b)) (hh : PHD X B (h₀ :: hs) hl)
  (hst : X.stack = X.env :: X.outer /\ X.env.frame = some X.env.locals := by exact ⟨rfl, rfl⟩) : PS X (.Try body (h₀ :: hs) [] [] pos) (tS X.K B (sTry b hl)) := by
 refine ps_imp (ps_try (tb := fun W' => tSX X.K B true (fun x σ' H' => ∀ C c bm, x = .exn c [] [] -> ExcAt X.K c C bm -> W' C σ' H') b) hst (fun pn E W' hL => hb pn E _ ?_) hh) ?_
 ·intro pins σ H s ea C H' s' I h1 h2 h3 h4 h5 ⟨c, bm, hc, hw⟩
  exact hL pins σ H s ea C H' s' I h1 h2 h3 h4 h5 (hw C c bm rfl hc)
 ·rintro Dn σ H ⟨A, st, r, rs, hr, p⟩
  refine ⟨A, st, rs, ?_⟩
  unfold sTry at hr
  cases hb : b st with
  | ok r' => rw [hb] at hr; cases hr; exact p
  | bad => rw [hb] at hr; cases hr
  | exc x =>
   rw [hb] at hr
   intro A' st' σ' H' l rs' e C c bm ex hc
   subst ex
   have := e rfl
   subst this
   exact ⟨c, bm, A', st', r, hc, rs', hr, p.mono l⟩
end
end Pu
namespace Pu
open PySem PySem.Spec PyProof.Rows L2
section
variable {X : Cx} {B : List Addr} {a b : Expr} {f g : Ex} {pos : Pos} {W : XW}
end
end Pu
namespace Pu
open PySem PySem.Spec PyProof.Rows L2 PySem.Calls Builtin Builtin.ObjectAttr Builtin.Getset_descriptor
section
variable {prog : Program} {w : World} {A : Around} {E : Value -> Shared -> Prop} {s : Shared} {K : PySem.W.Frag} {x C : Addr}
end
section
variable {X : Cx} {B : List Addr} {a : Expr} {es : List Expr} {f : Ex} {pos : Pos}
end
section
variable {X : Cx} {B : List Addr} {pins : List (Addr × Obj)} {σ : L2.St} {H : Hp} {s : Shared} {ea C : Addr}
end
end Pu
namespace Pu
open PySem PySem.Spec PyProof.Rows L2
section
variable {K : PySem.W.Frag} {h : Heap} {c : String} {C D' : Addr} {bmB : List Value} {B newId initId : String}
theorem excAt_mk (F : ExcBaseFacts B newId initId bmB) (a : PySem.W.nsIn K mainGlobals (Str.ofString c) = some (some (.ref C))) (q : PySem.W.excIn K C bmB newId = true) (g1 : PySem.W.findIn K (.ref C) "__getattribute__" = some (some (.builtin "BaseException.__getattribute__"))) (g6 : PySem.W.findIn K (.ref C) "__getattr__" = some none) (g7 : PySem.W.mroIn K C (.type "BaseException") = some true) (g2 : PySem.W.findIn K (.ref C) "__class__" = some (some (.builtin "object.__class__")))
  (g3 : PySem.W.specialIn K (.builtin "object.__class__") "__get__" = some (some (.builtin "getset_descriptor.__get__"))) (g4 : PySem.W.takesIn K (.builtin "object.__class__") = some true) (g5 : PySem.W.mroIn K C (.type "object") = some true) : ∃ bm, ExcAt K c C bm := by
 have cl : (PySem.W.clsIn K C).isSome = true := by
  unfold PySem.W.mroIn at g5
  cases e : PySem.W.clsIn K C with
  | none => rw [e] at g5; cases g5
  | some cd => rfl
 have ic : ExcCl K C := ⟨g1, g6, g7, cl, g2, g3, g4, g5⟩
 unfold PySem.W.excIn at q
 split at q
 ·rename_i dd cd sl ho
  split at q
  ·rename_i C' bm k0 k1 k2 k3 n k5 hm hsl
   simp only [Bool.not_eq_true', beq_iff_eq, Bool.and_eq_true] at q
   obtain ⟨⟨⟨⟨⟨e1, e2⟩, e3⟩, e4⟩, e5⟩, e6⟩ := q
   refine ⟨bm, a, ⟨B, newId, initId, bmB, F, fun h kin => ?_⟩, ic⟩
   obtain ⟨nm, bs, mro, ns, qn, hd, sn, sub, ab, col, del⟩ := cd
   dsimp only at hm e3 e5 e6
   have hsl' : sl = #[k0, k1, k2, k3, some (.builtin n), k5] := by rw [<- Array.toArray_toList (xs := sl), hsl]
   subst hsl'
   subst e1 e2 e3 hm
   exact ⟨ns, nm, qn, bs, hd, sn, sub, ab, col, dd, k0, k1, k2, k3, k5, h.nsMap ns, kin _ _ ho, .of_isNs (PySem.W.isNs_of_in kin e5), PySem.W.nsMap_none_of_in kin e5 e6, PySem.W.tail_of_in kin e4⟩
  ·cases q
 ·cases q
theorem ns_one {x : Str} {a b : Addr} (e : PySem.W.nsIn K mainGlobals x = some (some (.ref a))) (e' : PySem.W.nsIn K mainGlobals x = some (some (.ref b))) : a = b := by
 have z := e.symm.trans e'
 injection z with z
 injection z with z
 injection z
theorem isA_mk {b : Bool} (kin : K.In h) (a : PySem.W.nsIn K mainGlobals (Str.ofString c) = some (some (.ref C))) (m : PySem.W.mroIn K C (.ref D') = some b) : IsA K D' b c := fun C1 bm hE => by
 have := ns_one hE.ns a
 subst this
 obtain ⟨_, _, _, _, _, hob⟩ := hE.ob
 obtain ⟨N, nm, q, bs, hdct, sn, sub, ab, col, dd, k0, k1, k2, k3, k5, mN, oC, _⟩ := hob h kin
 unfold PySem.W.mroIn at m
 cases e : PySem.W.clsIn K C1 with
 | none => rw [e] at m; cases m
 | some cd =>
  rw [e, Option.bind_some] at m
  unfold PySem.W.clsIn at e
  split at e
  ·rename_i ho
   cases e
   have z := (kin _ _ ho).symm.trans oC
   have z1 : cd.mro = .ref C1 :: bm := by
    injection z with z
    unfold excClassObj at z
    injection z with _ _ z _
    injection z with z
    rw [z]
   split at m
   ·cases m
   ·injection m with m
    rw [z1] at m
    exact m
  ·cases e
end
section
variable {P : Program} {w : World} {K : PySem.W.Frag} {mg : Str -> Option Value} {base : Heap} {f : Addr} {fd : FuncData} {ps : List Str} {k : Nat}
theorem MakeOk.of {c : String} {C : Addr} {np n : Nat} {bd : Bd} (hc : ClsAt K c C) (hm : Mk K C f) (F : FnOk P w K mg base CX0 k f fd ps (spM K c np (runI c np n bd))) (b : Binds K fd ps []) (m : mg (Str.ofString c) = some (.ref C)) : MakeOk P w K mg base c k np (runI c np n bd) :=
 ⟨⟨C, f, fd, ps, hc, hm, F, b, m⟩, runI_len⟩
end
section
variable {α : Type} {P : List α -> Prop}
theorem of_len0 (h : P []) (us : List α) (hl : us.length = 0) : P us := by rw [List.length_eq_zero_iff.mp hl]; exact h
theorem of_lenS {n : Nat} (h : ∀ a us, us.length = n -> P (a :: us)) (us : List α) (hl : us.length = n + 1) : P us := by
 cases us with
 | nil => cases hl
 | cons a us => exact h a us (Nat.succ.inj hl)
theorem of_len1 (h : ∀ a, P [a]) (us : List α) (hl : us.length = 1) : P us := of_lenS (fun a => of_len0 (h a)) us hl
theorem of_len2 (h : ∀ a b, P [a, b]) (us : List α) (hl : us.length = 2) : P us := of_lenS (fun a => of_len1 (P := fun us => P (a :: us)) (h a)) us hl
theorem of_len3 (h : ∀ a b c, P [a, b, c]) (us : List α) (hl : us.length = 3) : P us := of_lenS (fun a => of_len2 (P := fun us => P (a :: us)) (h a)) us hl
theorem of_len4 (h : ∀ a b c d, P [a, b, c, d]) (us : List α) (hl : us.length = 4) : P us := of_lenS (fun a => of_len3 (P := fun us => P (a :: us)) (h a)) us hl
end
end Pu
namespace Pu
open PySem PySem.Spec PyProof.Rows L2
section
variable {X : Cx} {B : List Addr} {a b e o : Expr} {es : List Expr} {f g : Ex} {r : Exs} {pos cpos apos : Pos}
end
end Pu
namespace Pu
open PySem PySem.Spec PyProof.Rows L2
def Inn (K : PySem.W.Frag) (G H : Hp) : List (List D) -> List Addr -> Prop
 | [], ps => ps = []
 | xs :: xss, ps => ∃ p r vs, ps = p :: r /\ H p = some (.lst vs) /\ Reps K G xs vs /\ Inn K G H xss r
theorem Inn.len {K : PySem.W.Frag} {G H : Hp} : ∀ {xss : List (List D)} {ps : List Addr}, Inn K G H xss ps -> ps.length = xss.length
 | [], ps, h => by rw [show ps = [] from h]; rfl
 | xs :: xss, ps, h => by
  obtain ⟨p, r, vs, rfl, _, _, h2⟩ := h
  rw [List.length_cons, List.length_cons, Inn.len h2]
theorem Inn.get {K : PySem.W.Frag} {G H : Hp} : ∀ {xss : List (List D)} {ps : List Addr} {k : Nat} {xs : List D}, Inn K G H xss ps -> xss[k]? = some xs -> ∃ p vs, ps[k]? = some p /\ H p = some (.lst vs) /\ Reps K G xs vs
 | [], _, _, _, _, e => by simp at e
 | x :: xss, ps, 0, xs, h, e => by
  obtain ⟨p, r, vs, rfl, h1, h2, _⟩ := h
  simp at e; subst e
  exact ⟨p, vs, rfl, h1, h2⟩
 | x :: xss, ps, k + 1, xs, h, e => by
  obtain ⟨p, r, vs, rfl, _, _, h3⟩ := h
  obtain ⟨p', vs', e1, e2⟩ := Inn.get (k := k) h3 (by simpa using e)
  exact ⟨p', vs', by simpa using e1, e2⟩
theorem Inn.mono {K : PySem.W.Frag} {G G' H H' : Hp} (g : Same G G') : ∀ {xss : List (List D)} {ps : List Addr}, (∀ p ∈ ps, ∀ o, H p = some o -> H' p = some o) -> Inn K G H xss ps -> Inn K G' H' xss ps
 | [], _, _, h => h
 | x :: xss, ps, k, h => by
  obtain ⟨p, r, vs, rfl, h1, h2, h3⟩ := h
  exact ⟨p, r, vs, rfl, k p List.mem_cons_self _ h1, h2.mono g, Inn.mono g (fun q hq => k q (List.mem_cons_of_mem _ hq)) h3⟩
theorem Inn.put {K : PySem.W.Frag} {G H : Hp} {ys : List D} {ws : List V} (hr : Reps K G ys ws) {p : Addr} : ∀ {xss : List (List D)} {ps : List Addr} {k : Nat}, ps.Nodup -> ps[k]? = some p -> Inn K G H xss ps -> Inn K G (upd H p (.lst ws)) (xss.set k ys) ps
 | [], ps, k, _, e, h => by rw [show ps = [] from h] at e; simp at e
 | x :: xss, ps, 0, nd, e, h => by
  obtain ⟨q, r, vs, rfl, h1, h2, h3⟩ := h
  simp at e; subst e
  exact ⟨q, r, ws, rfl, upd_same, hr, h3.mono (Same.refl _) fun z hz o e => by rw [upd_ne (fun w : z = q => (List.nodup_cons.mp nd).1 (w ▸ hz))]; exact e⟩
 | x :: xss, ps, k + 1, nd, e, h => by
  obtain ⟨q, r, vs, rfl, h1, h2, h3⟩ := h
  have e' : r[k]? = some p := by simpa using e
  have hp : p ∈ r := List.mem_of_getElem? e'
  exact ⟨q, r, vs, rfl, by rw [upd_ne (fun w : q = p => (List.nodup_cons.mp nd).1 (by rw [w]; exact hp))]; exact h1, h2, Inn.put hr (List.nodup_cons.mp nd).2 e' h3⟩
def LeN (Z A : List Addr) (H : Hp) (A' : List Addr) (H' : Hp) : Prop := Same (hide (Z ++ A) H) (hide (Z ++ A') H')
theorem LeN.trans {Z A A1 A2 : List Addr} {H H1 H2 : Hp} (a : LeN Z A H A1 H1) (b : LeN Z A1 H1 A2 H2) : LeN Z A H A2 H2 := Same.trans a b
theorem LeN.refl {Z A : List Addr} {H : Hp} : LeN Z A H A H := Same.refl _
theorem LeN.of {Z A A' : List Addr} {H H' : Hp} (l : Le A H A' H') : LeN Z A H A' H' := fun b o e => by
 have e1 := hide_sub _ _ _ _ e
 have hb : b ∉ Z ++ A := fun z => by rw [hide_in z] at e; cases e
 have e2 : hide A H b = some o := by rw [hide_out fun z => hb (List.mem_append_right _ z)]; exact e1
 have e3 := l b o e2
 have e4 := hide_sub _ _ _ _ e3
 have hb' : b ∉ A' := fun z => by rw [hide_in z] at e3; cases e3
 rw [hide_out fun z => (List.mem_append.mp z).elim (fun z => hb (List.mem_append_left _ z)) hb']
 exact e4
theorem hide_eq {A A' : List Addr} {H : Hp} (h : ∀ a, a ∈ A ↔ a ∈ A') : hide A H = hide A' H := by
 funext b
 by_cases hb : b ∈ A
 ·rw [hide_in hb, hide_in ((h b).mp hb)]
 ·rw [hide_out hb, hide_out fun z => hb ((h b).mpr z)]
theorem RS.shift {K : PySem.W.Frag} {B A Z : List Addr} {H : Hp} {st : PSt} {σ : LSt} (r : RS K (Z ++ B) A H st σ) (zb : ∀ z ∈ Z, z ∉ B) : RS K B (Z ++ A) H st σ := by
 have m : ∀ a, a ∈ A ++ (Z ++ B) ↔ a ∈ (Z ++ A) ++ B := fun a => by
  simp only [List.mem_append]
  constructor
  ·rintro (h | h | h)
   ·exact .inl (.inr h)
   ·exact .inl (.inl h)
   ·exact .inr h
  ·rintro ((h | h) | h)
   ·exact .inr (.inl h)
   ·exact .inl h
   ·exact .inr (.inr h)
 have e := hide_eq (H := H) m
 refine ⟨r.len, fun a ha => r.own a ((m a).mpr ha), fun a ha hb => (List.mem_append.mp ha).elim (fun z => zb a z hb) (fun z => r.dis a z (List.mem_append_right _ hb)), fun i d h => ?_, fun i k xs h => ?_⟩
 ·obtain ⟨v, e1, q⟩ := r.val i d h
  exact ⟨v, e1, by rw [<- e]; exact q⟩
 ·obtain ⟨a, o, vs, e1, e2, e3, e4, e5, e6⟩ := r.lst i k xs h
  exact ⟨a, o, vs, e1, List.mem_append_right _ e2, e3, e4, by rw [<- e]; exact e5, e6⟩
theorem RS.less {K : PySem.W.Frag} {B A Z : List Addr} {H : Hp} {st : PSt} {σ : LSt} (r : RS K (Z ++ B) A H st σ) : RS K B A H st σ := by
 have m : ∀ a ∈ A ++ B, a ∈ A ++ (Z ++ B) := fun a h => (List.mem_append.mp h).elim (List.mem_append_left _) fun z => List.mem_append_right _ (List.mem_append_right _ z)
 refine ⟨r.len, fun a ha => r.own a (m a ha), fun a ha hb => r.dis a ha (List.mem_append_right _ hb), fun i d h => ?_, fun i k xs h => ?_⟩
 ·obtain ⟨v, e1, q⟩ := r.val i d h
  exact ⟨v, e1, q.mono (hide_more m)⟩
 ·obtain ⟨a, o, vs, e1, e2, e3, e4, e5, e6⟩ := r.lst i k xs h
  exact ⟨a, o, vs, e1, e2, e3, e4, e5.mono (hide_more m), e6⟩
theorem RS.putB {K : PySem.W.Frag} {B A : List Addr} {H : Hp} {st : PSt} {σ : LSt} {p : Addr} {u : HO} (r : RS K B A H st σ) (hp : p ∈ B) : RS K B A (upd H p u) st σ := by
 have hh : hide (A ++ B) (upd H p u) = hide (A ++ B) H := hide_upd (List.mem_append_right _ hp)
 refine ⟨r.len, fun b hb => ?_, r.dis, fun j d e => by rw [hh]; exact r.val j d e, fun j kk xs e => ?_⟩
 ·by_cases e : b = p
  ·subst e; rw [upd_same]; rfl
  ·rw [upd_ne e]; exact r.own b hb
 ·obtain ⟨a, o, vs', e1, m, h1, ko, q, u⟩ := r.lst j kk xs e
  refine ⟨a, o, vs', e1, m, ?_, ko, by rw [hh]; exact q, u⟩
  have : a ≠ p := fun z => r.dis a m (z ▸ hp)
  rw [upd_ne this]; exact h1
section
variable {X : Cx} {B : List Addr} {a b e o : Expr} {f g : Ex} {pos : Pos} {sm : Stmt} {rest : List Stmt} {i : Nat} {na nb : NB} {bd : Bd}
theorem set_ne {α : Type} {l : List α} {i j : Nat} {x : α} (h : i ≠ j) : (l.set j x)[i]? = l[i]? := List.getElem?_set_ne (Ne.symm h)
end
end Pu
namespace Pu
open PySem PySem.Spec PyProof.Rows L2
def spF (K : PySem.W.Frag) (np : Nat) (p : List D -> R D) : Sp := fun vs H Q _ => ∃ A ds xs, Own A H /\ Reps K (hide A H) ds vs /\ ds.length = np /\ p ds = .ok (.lst xs) /\ ∀ a ws H', Same H H' -> H a = none -> H' a = some (.lst ws) -> Reps K (hide (a :: A) H') xs ws -> Q (.ref a) H'
section
variable {X : Cx} {B : List Addr} {e o : Expr} {f g : Ex} {pos : Pos} {sm : Stmt} {rest : List Stmt} {bd bd' : Bd} {i : Nat}
end
section
variable {P : Program} {w : World} {K : PySem.W.Frag} {mg : Str -> Option Value} {base : Heap} {x qual : Str} {st : Stmt} {dV : Value} {f : Addr} {fd : FuncData} {N ps : List Str} {k : Nat}
theorem spF_plain {p : List D -> R D} (hp : ∀ ds d, p ds = .ok d -> ∃ xs, d = .lst xs) {np : Nat} (F : FnOk P w K mg base CX0 k f fd ps (spF K np p)) : FnOk P w K mg base CX0 k f fd ps (spI K np p) := by
 have up : ∀ vs H Q E, spI K np p vs H Q E -> spF K np p vs H Q E := by
  rintro vs H Q E ⟨A, ds, d, own, r, hl, he, q⟩
  obtain ⟨xs, rfl⟩ := hp ds d he
  refine ⟨A, ds, xs, own, r, hl, he, fun a ws H' sm ha hv rv => q _ H' sm (rep_lst.mpr ⟨a, ws, rfl, SqL.of (by rw [hide_out (own.free ha)]; exact hv), rv.mono (hide_more fun b hb => List.mem_cons_of_mem _ hb)⟩)⟩
 exact ⟨fun vs H Q E h => F.len vs H Q E (up vs H Q E h), fun A outer s H args us vs Q E hr e0 hb hv h => F.run A outer s H args us vs Q E hr e0 hb hv (up vs H Q E h)⟩
end
section
variable {X : Cx} {B : List Addr} {e o : Expr} {f g : Ex} {pos : Pos}
end
end Pu
namespace Pu
open PySem PySem.Spec PyProof.Rows L2
section
variable {X : Cx} {B : List Addr} {a : Expr} {f : Ex} {pos : Pos}
end
end Pu
namespace Pu
open PySem PySem.Spec PyProof.Rows L2
theorem same_none {H H' : Hp} (s : Same H H') {a : Addr} (h : H' a = none) : H a = none := by
 cases e : H a with
 | none => rfl
 | some o => rw [s a o e] at h; cases h
section
variable {X : Cx} {B : List Addr} {e e1 e2 o : Expr} {f g : Ex} {pos : Pos} {sm : Stmt} {rest : List Stmt} {bd bd' : Bd} {W : XW} {s1 : Bool}
end
section
variable {P : Program} {w : World} {K : PySem.W.Frag} {mg : Str -> Option Value} {base : Heap} {x qual : Str} {st : Stmt} {dV : Value} {fa : Addr} {fd : FuncData} {N ps : List Str} {k np n : Nat} {bd : Bd} {f : Ex} {p : List D -> R D}
end
section
variable {X : Cx} {B : List Addr} {e e1 e2 o : Expr} {f g : Ex} {pos : Pos}
end
section
variable {X : Cx} {B : List Addr} {e o : Expr} {f g : Ex} {pos : Pos}
end
end Pu
namespace Pu
open PySem PySem.Spec PyProof.Rows L2
section
variable {X : Cx} {B : List Addr} {a b e : Expr} {f g : Ex} {pos : Pos}
def rClear : V -> List V -> Hp -> VK -> Prop := fun x vs H Q => ∃ l xs, x = .ref l /\ vs = [] /\ H l = some (.lst xs) /\ Q .non (upd H l (.lst []))
theorem mt_clear : MtM X "list.clear" rClear := by
 intro pins s σ H x vs v us Q I rx rv h
 obtain ⟨l, xs, rfl, rfl, hH, q⟩ := h
 cases rx
 have hus := rv.zero
 subst hus
 obtain ⟨z, its, n, r, hl, e⟩ := I.lstM hH
 refine call_meets PySem.F.slot_list_clear ⟨_, e, rfl⟩ PySem.F.entry_list_clear (PySem.F.args_list_clear_1 _) (PySem.AutoSeq1.list_clear_list_0 l its.toArray n (by rw [List.size_toArray]; omega)) ⟨e, ?_⟩
 exact ⟨.non, _, I.lset (its' := []) hH e (by simp) .nil (by simp), rfl, q⟩
end
end Pu
namespace Pu
open PySem PySem.Spec PyProof.Rows L2
def noH : Hp := fun _ => none
theorem same_no {H : Hp} : Same noH H := fun _ _ h => nomatch h
theorem rep_atom {K : PySem.W.Frag} {H : Hp} {d : D} {v : V} (h : atom d = true) (r : Rep K H d v) : Rep K noH d v := by
 cases d <;> first | (cases h; done) | skip
 ·exact rep_non.mpr (rep_non.mp r)
 ·exact rep_bl.mpr (rep_bl.mp r)
 ·exact rep_int.mpr (rep_int.mp r)
 ·exact rep_str.mpr (rep_str.mp r)
def tC (K : PySem.W.Frag) (B : List Addr) (f : Ex) : TE := fun σ H Q => ∃ A st d xs, RS K B A H st σ /\ f st = .ok d /\ dCopy2 d = .ok (.lst xs) /\ ∀ P ps H', Same H H' -> (∀ p ∈ P :: ps, H p = none) -> (P :: ps).Nodup -> H' P = some (.lst (ps.map V.ref)) -> Inn K noH H' (xs.map unL) ps -> Q (.ref P) H'
theorem Inn.snoc {K : PySem.W.Frag} {G H : Hp} {ys : List D} {n : Addr} {ws : List V} (hn : H n = some (.lst ws)) (hr : Reps K G ys ws) : ∀ {xss : List (List D)} {ps : List Addr}, Inn K G H xss ps -> Inn K G H (xss ++ [ys]) (ps ++ [n])
 | [], ps, h => by rw [show ps = [] from h]; exact ⟨n, [], ws, rfl, hn, hr, rfl⟩
 | x :: xss, ps, h => by
  obtain ⟨p, r, vs, rfl, h1, h2, h3⟩ := h
  exact ⟨p, r ++ [n], vs, rfl, h1, h2, Inn.snoc hn hr h3⟩
section
variable {X : Cx} {B : List Addr} {scope : Scope} {iter : Expr} {pos pl p0 p1 p2 : Pos} {f : Ex} {r : Str} {j : Nat}
end
end Pu
namespace Pu
open PySem PySem.Spec PyProof.Rows L2
section
variable {X : Cx} {pos p0 p1 : Pos} {r : Str}
end
end Pu
namespace Pu
open PySem PySem.Spec PyProof.Rows L2
section
variable {X : Cx} {a b e o : Expr} {f g : Ex} {pos : Pos} {sm : Stmt} {rest : List Stmt} {bd bd' : Bd} {W : XW} {H0 : Hp} {x : Addr}
end
section
variable {X : Cx} {B : List Addr} {a b e o : Expr} {f g : Ex} {pos : Pos} {W : XW}
end
end Pu
namespace Pu
open PySem PySem.Spec PyProof.Rows L2
section
variable {K : PySem.W.Frag} {B A Z : List Addr} {H H' : Hp} {st : PSt} {σ : LSt}
theorem same_grow (s : Same H H') (hz : ∀ z ∈ Z, H z = none) : Same (hide (A ++ B) H) (hide (A ++ (Z ++ B)) H') := fun b o e => by
 have e1 := hide_sub _ _ _ _ e
 have hb : b ∉ A ++ B := fun z => by rw [hide_in z] at e; cases e
 have hb2 : b ∉ A ++ (Z ++ B) := fun z => by
  rcases List.mem_append.mp z with z | z
  ·exact hb (List.mem_append_left _ z)
  ·rcases List.mem_append.mp z with z | z
   ·rw [hz b z] at e1; cases e1
   ·exact hb (List.mem_append_right _ z)
 rw [hide_out hb2]
 exact s _ _ e1
theorem RS.growS (r : RS K B A H st σ) (s : Same H H') (hz : ∀ z ∈ Z, H z = none) (hz' : ∀ z ∈ Z, (H' z).isSome = true) : RS K (Z ++ B) A H' st σ where
 len := r.len
 own := fun a ha => by
  rcases List.mem_append.mp ha with h | h
  ·exact (r.own.mono s) a (List.mem_append_left _ h)
  ·exact (List.mem_append.mp h).elim (hz' a) fun h => (r.own.mono s) a (List.mem_append_right _ h)
 dis := fun a ha hb => by
  rcases List.mem_append.mp hb with h | h
  ·have := r.own a (List.mem_append_left _ ha)
   rw [hz a h] at this; cases this
  ·exact r.dis a ha h
 val := fun i d e => let ⟨v, e1, q⟩ := r.val i d e; ⟨v, e1, q.mono (same_grow s hz)⟩
 lst := fun i k xs e => let ⟨a, o, vs, e1, m, h, ko, q, u⟩ := r.lst i k xs e; ⟨a, o, vs, e1, m, s _ _ h, ko, q.mono (same_grow s hz), u⟩
theorem RS.forget (r : RS K B A H st σ) (i : Nat) (v : Option V) : RS K B A H (st.set i none) (σ.set i v) := by
 have ne : ∀ (j : Nat) (x : Sl), (st.set i none)[j]? = some (some x) -> j ≠ i /\ st[j]? = some (some x) := fun j x e => by
  rw [List.getElem?_set] at e
  by_cases h : i = j
  ·rw [if_pos h] at e; split at e <;> cases e
  ·rw [if_neg h] at e; exact ⟨Ne.symm h, e⟩
 refine ⟨by rw [List.length_set, List.length_set, r.len], r.own, r.dis, fun j d e => ?_, fun j k xs e => ?_⟩
 ·obtain ⟨h1, h2⟩ := ne j _ e
  rw [List.getElem?_set_ne (Ne.symm h1)]
  exact r.val j d h2
 ·obtain ⟨h1, h2⟩ := ne j _ e
  rw [List.getElem?_set_ne (Ne.symm h1)]
  obtain ⟨l, o, vs, e1, e2, e3, e4, e5, e6⟩ := r.lst j k xs h2
  refine ⟨l, o, vs, e1, e2, e3, e4, e5, fun j' k' ys e7 e8 => ?_⟩
  obtain ⟨h3, h4⟩ := ne j' _ e7
  rw [List.getElem?_set_ne (Ne.symm h3)] at e8
  exact e6 j' k' ys h4 e8
theorem set_id {α : Type} {l : List α} {i : Nat} {x : α} (h : l[i]? = some x) : l.set i x = l := by
 apply List.ext_getElem?
 intro k
 rw [List.getElem?_set]
 by_cases hk : i = k
 ·subst hk; rw [if_pos rfl, if_pos (List.getElem?_eq_some_iff.mp h).1]; exact h.symm
 ·rw [if_neg hk]
end
section
variable {X : Cx} {B : List Addr} {a b e o : Expr} {f g : Ex} {pos : Pos} {sm : Stmt} {rest : List Stmt} {i : Nat} {na nb : NB} {bd : Bd}
end
section
variable {X : Cx} {B : List Addr} {scope : Scope} {iter : Expr} {pos pl p0 p1 p2 : Pos} {f : Ex} {r : Str} {rest : List Stmt} {i : Nat} {nb : NB}
end
end Pu
namespace Pu
open PySem PySem.Spec PyProof.Rows L2
open Builtin
section
variable {prog : Program} {w : World} {A : Around} {E : Value -> Shared -> Prop} {s : Shared}
variable {z TI TO i1 i2 l : Addr} {fp : List Addr} {n k1 k2 : Nat} {P : Nat -> Value -> Prop} {St : Nat -> Heap -> Prop} {ys : Array Value} {y a b : Value}
structure ZApart (z TI TO i1 i2 l : Addr) (fp : List Addr) : Prop where
 TIz : TI ≠ z
 TOz : TO ≠ z
 i1z : i1 ≠ z
 i2z : i2 ≠ z
 TITO : TI ≠ TO
 TIi1 : TI ≠ i1
 TIi2 : TI ≠ i2
 TOi1 : TO ≠ i1
 TOi2 : TO ≠ i2
 i12 : i1 ≠ i2
 lz : l ≠ z
 lTO : l ≠ TO
 li1 : l ≠ i1
 li2 : l ≠ i2
 zf : z ∉ fp
 Tf : TO ∉ fp
 i2f : i2 ∉ fp
theorem zapart_new {n l : Nat} (h : l < n) : ZApart (n + 4) (n + 2) (n + 3) n (n + 1) l [n] := by
 constructor
 ·show n + 2 ≠ n + 4; omega
 ·show n + 3 ≠ n + 4; omega
 ·show n ≠ n + 4; omega
 ·show n + 1 ≠ n + 4; omega
 ·show n + 2 ≠ n + 3; omega
 ·show n + 2 ≠ n; omega
 ·show n + 2 ≠ n + 1; omega
 ·show n + 3 ≠ n; omega
 ·show n + 3 ≠ n + 1; omega
 ·show n ≠ n + 1; omega
 ·show l ≠ n + 4; omega
 ·show l ≠ n + 3; omega
 ·show l ≠ n; omega
 ·show l ≠ n + 1; omega
 ·intro z
  have : n + 4 = n := List.mem_singleton.mp z
  omega
 ·intro z
  have : n + 3 = n := List.mem_singleton.mp z
  omega
 ·intro z
  have : n + 1 = n := List.mem_singleton.mp z
  omega
theorem zip_item (D1 : Draws prog w A i1 fp n P St) (D : ZApart z TI TO i1 i2 l fp)
  (hz : IsZip s.heap z TI TO .none) (hTI : IsPair s.heap TI (.ref i1) (.ref i2)) (hTO : IsPair s.heap TO a b)
  (h1 : St k1 s.heap) (hk1 : k1 < n) (h2 : s.heap.IsListIter i2 l k2) (hl : s.heap.IsList l ys) (hy : ys[k2]? = some y) {Q : Value -> Shared -> Prop}
  (hQ : ∀ h' tk x, P k1 x -> IsZip h' z TI TO (rawInt s.heap.objs.size) -> IsPair h' TO x y -> St (k1 + 1) h' -> h'.IsListIter i2 l (k2 + 1) -> IsPair h' s.heap.objs.size x y -> h'.objs.size = s.heap.objs.size + 1 ->
   (∀ c o, c ≠ z -> c ≠ TO -> c ≠ i1 -> c ≠ i2 -> s.heap.get? c = some o -> h'.get? c = some o) -> Q (.ref s.heap.objs.size) { s with heap := h', toks := tk }) :
  wpAny (model prog w) A (Builtin.«zip.__next__» ⟨[.ref z], []⟩) (fun fin s' => ∃ v, fin = .done (.ret v) /\ Q v s') E s := by
 show wpAny _ _ (field (.ref z) 2 >>= _) _ _ _
 refine wpAny_bind (wpAny_field hz rfl (x := .bool false) rfl ?_)
 show wpAny _ _ (field (.ref z) 3 >>= _) _ _ _
 refine wpAny_bind (wpAny_field hz rfl (x := .ref TI) rfl ?_)
 refine wpAny_bind (wpAny_seqItems hTI rfl ?_)
 show wpAny _ _ (Builtin.SmallTypes.ownedTupleIsFree (.ref z) >>= _) _ _ _
 refine wpAny_bind ?_
 unfold Builtin.SmallTypes.ownedTupleIsFree
 refine wpAny_bind (wpAny_field hz rfl (x := .none) rfl (wpAny_pure ?_))
 simp only [if_true]
 refine wpAny_bind (wpAny_rule ?_)
 refine wpAny_bind (wpAny_field hz rfl (x := .ref TO) rfl ?_)
 refine wpAny_bind (wpAny_setField_rec hz (by simp) fun h₁ hz₁ hs₁ => ?_)
 replace hz₁ : IsZip h₁ z TI TO .ellipsis := hz₁
 refine wpAny_bind ?_
 simp only [List.zipIdx_cons, List.zipIdx_nil, List.forIn_cons, List.forIn_nil]
 refine wpAny_bind (wpAny_bind (wpAny_onRaise ?_))
 show wpAny _ _ (Builtin.SmallTypes.nextOf (.ref i1) >>= _) _ _ _
 refine wpAny_bind (D1.item k1 { s with heap := h₁ } _ _ hk1 (D1.frame k1 s.heap h₁ h1 fun b hb o e => hs₁.extBut _ _ (fun x => D.zf (x ▸ hb)) e) fun x h₂ tk hP h1₂ hs₂ => wpAny_pure ?_)
 have hs₂ : Heap.SameBut i1 h₁ h₂ := hs₂
 have hTO₂ : IsPair h₂ TO a b := hs₂.extBut _ _ D.TOi1 (hs₁.extBut _ _ D.TOz hTO)
 refine wpAny_bind (wpAny_seqItems hTO₂ rfl ?_)
 refine wpAny_bind (wpAny_updateSeq_pair hTO₂ fun h₃ hTO₃ hs₃ => ?_)
 replace hTO₃ : IsPair h₃ TO x b := hTO₃
 refine wpAny_bind (wpAny_letGo (wpAny_pure ?_))
 refine wpAny_bind (wpAny_bind (wpAny_onRaise ?_))
 show wpAny _ _ (Builtin.SmallTypes.nextOf (.ref i2) >>= _) _ _ _
 refine wpAny_bind (wpAny_nextOf_list_item (((h2.extBut hs₁.extBut D.i2z).extBut hs₂.extBut D.i12.symm).extBut hs₃.extBut D.TOi2.symm)
  (((hl.extBut hs₁.extBut D.lz).extBut hs₂.extBut D.li1).extBut hs₃.extBut D.lTO) hy fun h₄ h2₄ hs₄ => wpAny_pure ?_)
 have hTO₄ : IsPair h₄ TO x b := hs₄.extBut _ _ D.TOi2 hTO₃
 refine wpAny_bind (wpAny_seqItems hTO₄ rfl ?_)
 refine wpAny_bind (wpAny_updateSeq_pair hTO₄ fun h₅ hTO₅ hs₅ => ?_)
 replace hTO₅ : IsPair h₅ TO x y := hTO₅
 refine wpAny_bind (wpAny_letGo (wpAny_pure (wpAny_pure ?_)))
 refine wpAny_bind (wpAny_seqItems hTO₅ rfl ?_)
 refine wpAny_bind (wpAny_newTuple ?_)
 have hs₃' : Heap.SameBut TO h₂ h₃ := hs₃
 have hs₄' : Heap.SameBut i2 h₃ h₄ := hs₄
 have hs₅' : Heap.SameBut TO h₄ h₅ := hs₅
 have hsz : h₅.objs.size = s.heap.objs.size := by rw [hs₅'.1, hs₄'.1, hs₃'.1, hs₂.1, hs₁.1]
 have hz₅ : IsZip h₅ z TI TO .ellipsis := hs₅'.extBut _ _ D.TOz.symm (hs₄'.extBut _ _ D.i2z.symm (hs₃'.extBut _ _ D.TOz.symm (hs₂.extBut _ _ D.i1z.symm hz₁)))
 have hk₅ : ∀ c o, c ≠ z -> c ≠ TO -> c ≠ i1 -> c ≠ i2 -> s.heap.get? c = some o -> h₅.get? c = some o := fun c o c1 c2 c3 c4 e =>
  hs₅'.extBut _ _ c2 (hs₄'.extBut _ _ c4 (hs₃'.extBut _ _ c2 (hs₂.extBut _ _ c3 (hs₁.extBut _ _ c1 e))))
 have h1₅ : St (k1 + 1) h₅ := D1.frame _ h₂ h₅ h1₂ fun b hb o e => hs₅'.extBut _ _ (fun x => D.Tf (x ▸ hb)) (hs₄'.extBut _ _ (fun x => D.i2f (x ▸ hb)) (hs₃'.extBut _ _ (fun x => D.Tf (x ▸ hb)) e))
 have h2₅ : h₅.IsListIter i2 l (k2 + 1) := h2₄.extBut hs₅'.extBut D.TOi2.symm
 have hzlt : z < h₅.objs.size := Heap.lt_size hz₅
 show wpAny _ _ (Builtin.SmallTypes.ownedTupleHandOut (.ref z) (.ref h₅.objs.size) >>= _) _ _ _
 refine wpAny_bind ?_
 unfold Builtin.SmallTypes.ownedTupleHandOut
 have hz₆ : IsZip (h₅.push { cls := .type "tuple", data := .seq #[x, y] }) z TI TO .ellipsis := Heap.get?_push_of_some _ hz₅
 refine wpAny_bind (wpAny_setField_rec hz₆ (by simp) fun h₇ hz₇ hs₇ => ?_)
 replace hz₇ : IsZip h₇ z TI TO (rawInt h₅.objs.size) := hz₇
 refine wpAny_setField_rec hz₇ (by simp) fun h₈ hz₈ hs₈ => ?_
 replace hz₈ : IsZip h₈ z TI TO (rawInt h₅.objs.size) := hz₈
 have up : ∀ c o, c ≠ z -> h₅.get? c = some o -> h₈.get? c = some o := fun c o c1 e => hs₈.extBut _ _ c1 (hs₇.extBut _ _ c1 (Heap.get?_push_of_some _ e))
 have hT₈ : IsPair h₈ h₅.objs.size x y := hs₈.extBut _ _ (Nat.ne_of_gt hzlt) (hs₇.extBut _ _ (Nat.ne_of_gt hzlt) (Heap.get?_push_size _ rfl))
 have hz8 : h₈.objs.size = h₅.objs.size + 1 := by rw [hs₈.1, hs₇.1, Heap.size_push]
 rw [hsz] at hz₈ hT₈ hz8
 refine wpAny_pure ⟨_, rfl, ?_⟩
 show Q (.ref h₅.objs.size) _
 rw [hsz]
 exact hQ h₈ _ x hP hz₈ (up _ _ D.TOz hTO₅) (D1.frame _ h₅ h₈ h1₅ fun b hb o e => up b o (fun x => D.zf (x ▸ hb)) e) (h2₅.at fun o e => up _ o D.i2z e) hT₈ hz8 fun c o c1 c2 c3 c4 e => up c o c1 (hk₅ c o c1 c2 c3 c4 e)
theorem zip_end (D1 : Draws prog w A i1 fp n P St) (hh : A.handled = none) (D : ZApart z TI TO i1 i2 l fp)
  (hz : IsZip s.heap z TI TO .none) (hTI : IsPair s.heap TI (.ref i1) (.ref i2)) (hTO : IsPair s.heap TO a b)
  (h1 : St k1 s.heap) (h2 : s.heap.IsListIter i2 l k2) (hl : s.heap.IsList l ys)
  (hend : (∀ (s : Shared) (Q : Value -> Shared -> Prop) (E : Value -> Shared -> Prop), St k1 s.heap -> (∀ h' e, Heap.ExtBut i1 s.heap h' -> (∃ o, h'.get? e = some o /\ o.cls = .type "StopIteration") -> E (.ref e) { s with heap := h' }) -> wpAny (model prog w) A (Builtin.SmallTypes.nextOf (.ref i1)) Q E s) \/ (k1 < n /\ ys[k2]? = none)) {Q : Fin -> Shared -> Prop}
  (hE : ∀ h' e tk, (∀ c o, c ≠ z -> c ≠ TO -> c ≠ i1 -> c ≠ i2 -> s.heap.get? c = some o -> h'.get? c = some o) -> (∃ o, h'.get? e = some o /\ o.cls = .type "StopIteration") -> E (.ref e) { s with heap := h', toks := tk }) :
  wpAny (model prog w) A (Builtin.«zip.__next__» ⟨[.ref z], []⟩) Q E s := by
 show wpAny _ _ (field (.ref z) 2 >>= _) _ _ _
 refine wpAny_bind (wpAny_field hz rfl (x := .bool false) rfl ?_)
 show wpAny _ _ (field (.ref z) 3 >>= _) _ _ _
 refine wpAny_bind (wpAny_field hz rfl (x := .ref TI) rfl ?_)
 refine wpAny_bind (wpAny_seqItems hTI rfl ?_)
 show wpAny _ _ (Builtin.SmallTypes.ownedTupleIsFree (.ref z) >>= _) _ _ _
 refine wpAny_bind ?_
 unfold Builtin.SmallTypes.ownedTupleIsFree
 refine wpAny_bind (wpAny_field hz rfl (x := .none) rfl (wpAny_pure ?_))
 simp only [if_true]
 refine wpAny_bind (wpAny_rule ?_)
 refine wpAny_bind (wpAny_field hz rfl (x := .ref TO) rfl ?_)
 refine wpAny_bind (wpAny_setField_rec hz (by simp) fun h₁ hz₁ hs₁ => ?_)
 replace hz₁ : IsZip h₁ z TI TO .ellipsis := hz₁
 refine wpAny_bind ?_
 simp only [List.zipIdx_cons, List.zipIdx_nil, List.forIn_cons, List.forIn_nil]
 refine wpAny_bind (wpAny_bind (wpAny_onRaise ?_))
 show wpAny _ _ (Builtin.SmallTypes.nextOf (.ref i1) >>= _) _ _ _
 have fr1 : St k1 h₁ := D1.frame k1 s.heap h₁ h1 fun b hb o e => hs₁.extBut _ _ (fun x => D.zf (x ▸ hb)) e
 rcases hend with hend | ⟨hkn, hy⟩
 ·refine wpAny_bind (hend { s with heap := h₁ } _ _ fr1 fun h₂ e hs₂ he => ?_)
  have hs₂ : Heap.ExtBut i1 h₁ h₂ := hs₂
  obtain ⟨oe, hoe, hce⟩ := he
  have hz₂ : IsZip h₂ z TI TO .ellipsis := hs₂ _ _ D.i1z.symm hz₁
  have hez : e ≠ z := fun x => by subst x; rw [hz₂] at hoe; cases hoe; simp at hce
  refine wpAny_setField_rec hz₂ (by simp) fun h₃ _ hs₃ => hE h₃ e _ (fun c o c1 _ c3 _ x => hs₃.extBut _ _ c1 (hs₂ _ _ c3 (hs₁.extBut _ _ c1 x))) ⟨oe, hs₃.extBut _ _ hez hoe, hce⟩
 ·refine wpAny_bind (D1.item k1 { s with heap := h₁ } _ _ hkn fr1 fun x h₂ tk hP h1₂ hs₂ => wpAny_pure ?_)
  have hs₂ : Heap.SameBut i1 h₁ h₂ := hs₂
  have hTO₂ : IsPair h₂ TO a b := hs₂.extBut _ _ D.TOi1 (hs₁.extBut _ _ D.TOz hTO)
  refine wpAny_bind (wpAny_seqItems hTO₂ rfl ?_)
  refine wpAny_bind (wpAny_updateSeq_pair hTO₂ fun h₃ hTO₃ hs₃ => ?_)
  have hs₃' : Heap.SameBut TO h₂ h₃ := hs₃
  refine wpAny_bind (wpAny_letGo (wpAny_pure ?_))
  refine wpAny_bind (wpAny_bind (wpAny_onRaise ?_))
  show wpAny _ _ (Builtin.SmallTypes.nextOf (.ref i2) >>= _) _ _ _
  refine wpAny_bind (wpAny_nextOf_list_end hh (((h2.extBut hs₁.extBut D.i2z).extBut hs₂.extBut D.i12.symm).extBut hs₃'.extBut D.TOi2.symm)
   (((hl.extBut hs₁.extBut D.lz).extBut hs₂.extBut D.li1).extBut hs₃'.extBut D.lTO) hy fun h₄ e hs₄ he => ?_)
  have hs₄ : Heap.ExtBut i2 h₃ h₄ := hs₄
  obtain ⟨oe, hoe, hce⟩ := he
  have hz₄ : IsZip h₄ z TI TO .ellipsis := hs₄ _ _ D.i2z.symm (hs₃'.extBut _ _ D.TOz.symm (hs₂.extBut _ _ D.i1z.symm hz₁))
  have hez : e ≠ z := fun x => by subst x; rw [hz₄] at hoe; cases hoe; simp at hce
  refine wpAny_setField_rec hz₄ (by simp) fun h₅ _ hs₅ => hE h₅ e _ (fun c o c1 c2 c3 c4 x => hs₅.extBut _ _ c1 (hs₄ _ _ c4 (hs₃'.extBut _ _ c2 (hs₂.extBut _ _ c3 (hs₁.extBut _ _ c1 x))))) ⟨oe, hs₅.extBut _ _ hez hoe, hce⟩
end
section
variable {prog : Program} {w : World} {A : Around} {E : Value -> Shared -> Prop} {s : Shared}
abbrev zH1 (h : Heap) (x : Str) (t : Tok) : Heap := h.push { cls := .type (strIterType x), data := .fields #[.str x t, .int 0 0] }
abbrev zH2 (h : Heap) (x : Str) (t : Tok) (l : Addr) : Heap := (zH1 h x t).push { cls := .type "list_iterator", data := .fields #[.ref l, .int 0 0] }
abbrev zH3 (h : Heap) (x : Str) (t : Tok) (l : Addr) : Heap := (zH2 h x t l).push { cls := .type "tuple", data := .seq #[.ref h.objs.size, .ref (zH1 h x t).objs.size] }
abbrev zH4 (h : Heap) (x : Str) (t : Tok) (l : Addr) : Heap := (zH3 h x t l).push { cls := .type "tuple", data := .seq #[.none, .none] }
abbrev zH5 (h : Heap) (x : Str) (t : Tok) (l : Addr) : Heap := (zH4 h x t l).push { cls := .type "zip", data := .fields #[.none, .bool false, .bool false, .ref (zH2 h x t l).objs.size, .ref (zH3 h x t l).objs.size] }
theorem meets_zipT (x : Str) (t : Tok) (l : Addr) (ys : Array Value) :
  Meets (Builtin.«zip.__new__» ⟨[.type "zip", .str x t, .ref l], []⟩) (fun _ R s => s.heap.IsList l ys /\
   R (.ok (.ret (.ref (zH4 s.heap x t l).objs.size))) { s with heap := zH5 s.heap x t l }) :=
 .of_wp fun prog w A R s h => by
  obtain ⟨hp, g, d, tk, os⟩ := s; obtain ⟨hl, h⟩ := h
  have hsub := sub_zip
  have hL : Heap.IsList (Shared.heap ⟨hp.push { cls := .type (strIterType x), data := .fields #[.str x t, .int 0 0] }, g, d, tk, os⟩) l ys := Heap.IsList.push hl _
  wp_walk using wpAny_pyIter_strU, wpAny_pyIter_list hL
  exact ⟨_, rfl, h⟩
theorem call_zipT {x : Str} {t : Tok} {l : Addr} {ys : Array Value} {Q : Value -> Shared -> Prop} (hl : s.heap.IsList l ys)
  (h : ∀ h', IsZip h' (s.heap.objs.size + 4) (s.heap.objs.size + 2) (s.heap.objs.size + 3) .none -> IsPair h' (s.heap.objs.size + 2) (.ref s.heap.objs.size) (.ref (s.heap.objs.size + 1)) ->
   IsPair h' (s.heap.objs.size + 3) .none .none -> h'.IsStrIter s.heap.objs.size (strIterType x) x t 0 -> h'.IsListIter (s.heap.objs.size + 1) l 0 -> h'.objs.size = s.heap.objs.size + 5 ->
   (∀ c o, s.heap.get? c = some o -> h'.get? c = some o) -> Q (.ref (s.heap.objs.size + 4)) { s with heap := h' }) :
  wpAny (model prog w) A (call (.type "zip") [.str x t, .ref l]) Q E s := by
 refine callType_new PySem.F.called_zip (by decide) (PySem.F.typeCall_zip_2 _ _) (PySem.F.newCall_zip_2 _ _) (fun obj => PySem.F.args_object_init_3 obj _ _) PySem.F.entry_zip_new
  (meets_zipT x t l ys) ⟨hl, ?_⟩
 have z1 : (zH1 s.heap x t).objs.size = s.heap.objs.size + 1 := Heap.size_push ..
 have z2 : (zH2 s.heap x t l).objs.size = s.heap.objs.size + 2 := by rw [Heap.size_push, z1]
 have z3 : (zH3 s.heap x t l).objs.size = s.heap.objs.size + 3 := by rw [Heap.size_push, z2]
 have z4 : (zH4 s.heap x t l).objs.size = s.heap.objs.size + 4 := by rw [Heap.size_push, z3]
 have z5 : (zH5 s.heap x t l).objs.size = s.heap.objs.size + 5 := by rw [Heap.size_push, z4]
 have g5 : (zH5 s.heap x t l).get? (zH4 s.heap x t l).objs.size = some _ := Heap.get?_push_size _ rfl
 have g4 : (zH5 s.heap x t l).get? (zH3 s.heap x t l).objs.size = some _ := Heap.get?_push_of_some _ (Heap.get?_push_size _ rfl)
 have g3 : (zH5 s.heap x t l).get? (zH2 s.heap x t l).objs.size = some _ := Heap.get?_push_of_some _ (Heap.get?_push_of_some _ (Heap.get?_push_size _ rfl))
 have g2 : (zH5 s.heap x t l).get? (zH1 s.heap x t).objs.size = some _ := Heap.get?_push_of_some _ (Heap.get?_push_of_some _ (Heap.get?_push_of_some _ (Heap.get?_push_size _ rfl)))
 have g1 : (zH5 s.heap x t l).get? s.heap.objs.size = some _ := Heap.get?_push_of_some _ (Heap.get?_push_of_some _ (Heap.get?_push_of_some _ (Heap.get?_push_of_some _ (Heap.get?_push_size _ rfl))))
 show _ /\ _
 rw [z2, z3, z4] at g5
 rw [z1, z2] at g3
 rw [z3] at g4
 rw [z1] at g2
 rw [z4]
 exact ⟨⟨_, g5, rfl⟩, h _ g5 g3 g4 ⟨_, g1, rfl, rfl⟩ ⟨_, g2, rfl, rfl⟩ z5 fun c o x =>
  Heap.get?_push_of_some _ (Heap.get?_push_of_some _ (Heap.get?_push_of_some _ (Heap.get?_push_of_some _ (Heap.get?_push_of_some _ x))))⟩
theorem draws_str (hh : A.handled = none) (it : Addr) (x : Str) (t : Tok) {n : String} (hn : n = "str_ascii_iterator" \/ n = "str_iterator") :
  Draws prog w A it [it] x.cps.size (fun i v => ∃ c u, x.cps[i]? = some c /\ v = .str ⟨#[c]⟩ u) (fun i h => h.IsStrIter it n x t i) := by
 rcases hn with rfl | rfl
 ·exact Draws.strAscii hh it x t
 ·exact Draws.strWide hh it x t
theorem str_end (hh : A.handled = none) {it : Addr} {x : Str} {t : Tok} {n : String} {i : Nat} (hn : n = "str_ascii_iterator" \/ n = "str_iterator") {Q : Value -> Shared -> Prop} (st : s.heap.IsStrIter it n x t i) (hx : x.cps[i]? = none)
  (hE : ∀ h' e, Heap.ExtBut it s.heap h' -> (∃ o, h'.get? e = some o /\ o.cls = .type "StopIteration") -> E (.ref e) { s with heap := h' }) : wpAny (model prog w) A (Builtin.SmallTypes.nextOf (.ref it)) Q E s := by
 rcases hn with rfl | rfl
 ·exact wpAny_nextOf_ascii_end hh st hx hE
 ·exact wpAny_nextOf_wide_end hh st hx hE
theorem strIter_kinds (x : Str) : strIterType x = "str_ascii_iterator" \/ strIterType x = "str_iterator" := by
 unfold strIterType
 split <;> simp
end
def Itz (K : PySem.W.Frag) (z : List Nat) (a : Addr) : It :=
 ⟨fun i H => i < z.length /\ ∃ xs x, SqL K H a xs /\ xs[i]? = some x, fun i H x H' => ∃ T c v, x = V.ref T /\ H T = none /\ z[i]? = some c /\ H' = upd H T (.tup [.str ⟨#[c]⟩, v]) /\ ∀ xs, SqL K H a xs -> xs[i]? = some v, fun i H => ∃ xs, SqL K H a xs /\ (z.length <= i \/ xs.length <= i)⟩
theorem turn_zip {P : Program} {w : World} {K : PySem.W.Frag} {elts : List Expr} {x1} {tp : Pos} {zs : List Nat} {t : Tok} {n : String} (hn : n = "str_ascii_iterator" \/ n = "str_iterator") (a z TI TO i1 i2 : Addr) (D : ∀ l, l = a -> ZApart z TI TO i1 i2 l [i1]) :
  Turn P w K (.Tuple elts x1 tp) (Itz K zs a) [z, TI, TO, i1, i2] z (fun i h => IsZip h z TI TO .none /\ IsPair h TI (.ref i1) (.ref i2) /\ (∃ u v, IsPair h TO u v) /\ h.IsStrIter i1 n ⟨zs.toArray⟩ t i /\ h.IsListIter i2 a i) where
 mem := by simp
 obj := fun i h st b hb => by
  obtain ⟨hz, hTI, ⟨u, v, hTO⟩, ⟨o1, q1, c1, d1⟩, ⟨o2, q2, c2, d2⟩⟩ := st
  simp only [List.mem_cons, List.not_mem_nil, or_false] at hb
  rcases hb with rfl | rfl | rfl | rfl | rfl
  ·exact ⟨_, hz, fun v z => by cases z⟩
  ·exact ⟨_, hTI, fun v z => by cases z⟩
  ·exact ⟨_, hTO, fun v z => by cases z⟩
  ·exact ⟨o1, q1, fun v z => by rw [d1] at z; cases z⟩
  ·exact ⟨o2, q2, fun v z => by rw [d2] at z; cases z⟩
 keep := fun i h h' st k => by
  obtain ⟨hz, hTI, ⟨u, v, hTO⟩, ⟨o1, q1, r1⟩, h2⟩ := st
  exact ⟨k z (by simp) _ hz, k TI (by simp) _ hTI, ⟨u, v, k TO (by simp) _ hTO⟩, ⟨o1, k i1 (by simp) _ q1, r1⟩, h2.at fun o x => k i2 (by simp) o x⟩
 item := by
  intro X hP hw hK hc i pins s σ H E I hf st hg
  subst hP hw hK
  obtain ⟨hz, hTI, ⟨u0, v0, hTO⟩, h1, h2⟩ := st
  obtain ⟨hi, xs, x, hq, hx⟩ := hg
  obtain ⟨its, rv, p, _⟩ := I.list hq
  obtain ⟨u, hu, ru⟩ := rv.get hx
  have D := D a rfl
  have fo : ∀ b ∈ [z, TI, TO, i1, i2], H b = none := fun b hb => (hf b hb).1
  have hT : H s.heap.objs.size = none := I.hok.fresh (Nat.le_refl _)
  have hzt : s.TypeIs (.ref z) "zip" := ⟨_, hz, rfl⟩
  have hh := I.ok.hd hc
  unfold pyNext
  refine wpAny_bind (wpAny_attempt (wpAny_callSpecial?_slot (name := Str.ofString "__next__") hzt PySem.F.slot_zip_next
   (wpAny_call_entry PySem.F.slot_zip_next hzt PySem.F.entry_zip_next
    (zip_item (draws_str (A := X.A.in1) hh i1 ⟨zs.toArray⟩ t hn) D hz hTI hTO h1 (by simpa using hi) h2 p.isList (y := u) (by simpa using hu) fun h' tk v hP a1 a2 a3 a4 a5 a6 hk => wpAny_pure ?_) (PySem.F.args_zip_next_1 _))))
  obtain ⟨c, uu, hcc, rfl⟩ := hP
  refine ⟨_, rfl, wpAny_letOwnedTupleGo_zip (s := { s with heap := h', toks := tk }) a1 fun h9 hz9 sb => ?_⟩
  have hkeep : ∀ b o, b ≠ z -> b ≠ TO -> b ≠ i1 -> b ≠ i2 -> s.heap.get? b = some o -> h9.get? b = some o := fun b o e1 e2 e3 e4 q => (sb.2 b e1).trans (hk b o e1 e2 e3 e4 q)
  have zlt : z ≠ s.heap.objs.size := Nat.ne_of_lt (Heap.lt_size hz)
  have htup : h9.get? s.heap.objs.size = some { cls := .type "tuple", data := .seq #[.str ⟨#[c]⟩ uu, u] } := (sb.2 _ zlt.symm).trans a5
  have nT : ∀ b u', H b = some u' -> b ≠ s.heap.objs.size := fun b u' q => ne_of_none q hT
  have nx : ∀ b u', H b = some u' -> b ≠ z /\ b ≠ TO /\ b ≠ i1 /\ b ≠ i2 := fun b u' q => ⟨ne_of_none q (fo z (by simp)), ne_of_none q (fo TO (by simp)), ne_of_none q (fo i1 (by simp)), ne_of_none q (fo i2 (by simp))⟩
  have mx : ∀ b : Addr, b ∉ [z, TI, TO, i1, i2] -> b ≠ z /\ b ≠ TO /\ b ≠ i1 /\ b ≠ i2 := fun b hb => ⟨fun q => hb (by simp [q]), fun q => hb (by simp [q]), fun q => hb (by simp [q]), fun q => hb (by simp [q])⟩
  have inL : ∀ b o, s.heap.get? b = some o -> b ≠ s.heap.objs.size := fun b o q => Nat.ne_of_lt (Heap.lt_size q)
  have kp : ∀ b o, b ∉ [z, TI, TO, i1, i2] -> s.heap.get? b = some o -> h9.get? b = some o := fun b o hb q => hkeep b o (mx b hb).1 (mx b hb).2.1 (mx b hb).2.2.1 (mx b hb).2.2.2 q
  have un : Un (frs X.stack) [z, TI, TO, i1, i2] H (upd H s.heap.objs.size (.tup [.str ⟨#[c]⟩, x])) s.heap h9 := by
   refine ⟨fun b o q n hb hx => kp b o hx q, fun b o q n hb hx => ⟨o.slots, kp b o hx q⟩, fun b o q n hx => by rw [upd_ne (inL b o q)]; exact n, fun b o q hx => ⟨o, kp b o hx q⟩, fun b ys q => by rw [upd_ne (nT b _ q)]; exact q, fun b o u' q => by rw [upd_ne (nT b _ q)]; exact q, fun b ps q => ⟨#[], by rw [upd_ne (nT b _ q), Array.append_empty]; exact q⟩⟩
  have hok : HOk X.prog X.w (upd H s.heap.objs.size (.tup [.str ⟨#[c]⟩, x])) h9 := fun b u' q => by
   by_cases hb : b = s.heap.objs.size
   ·subst hb
    rw [upd_same] at q
    cases q
    exact ⟨show 2 <= sizeLine by decide, [.str ⟨#[c]⟩ uu, u], .cons ⟨_, rfl⟩ (.cons ru .nil), _, htup, rfl, _, rfl⟩
   ·rw [upd_ne hb] at q
    refine (I.hok b u' q).stay (fun c v hc' q' => ?_) (fun c q' => by rw [upd_ne (nT c _ q')]; exact q') fun c ys q' => by rw [upd_ne (nT c _ q')]; exact q'
    have : ∃ u'', H c = some u'' := by
     rcases hc' with z | z
     ·exact ⟨u', by rw [z]; exact q⟩
     ·exact ⟨_, z⟩
    obtain ⟨u'', hu''⟩ := this
    obtain ⟨e1, e2, e3, e4⟩ := nx c _ hu''
    exact hkeep c v e1 e2 e3 e4 q'
  have I2 : Inv X pins σ (upd H s.heap.objs.size (.tup [.str ⟨#[c]⟩, x])) { s with heap := h9, toks := tk } := I.call (g' := s.gens) (t' := tk) (d' := s.drawn) (ch := [z, TI, TO, i1, i2]) un hok I.bare fun b hb => by
   have fb := hf b hb
   exact ⟨fb.2.2.2.1, fb.2.1, fb.2.2.2.2.1, fb.2.2.2.2.2⟩
  have up : ∀ b o, b ≠ z -> h'.get? b = some o -> h9.get? b = some o := fun b o e q => (sb.2 b e).trans q
  refine ⟨.ref s.heap.objs.size, _, I2, rfl, ⟨_, c, x, rfl, hT, by simpa using hcc, rfl, fun ys hy => by rw [I.list_inj hy hq]; exact hx⟩, ⟨hz9, up _ _ D.TIz (hk _ _ D.TIz D.TITO D.TIi1 D.TIi2 hTI), ⟨_, _, up _ _ D.TOz a2⟩, ?_, a4.at fun o y => up _ o D.i2z y⟩, fun b hb => ?_⟩
  ·obtain ⟨o1, q1, r1⟩ := a3
   exact ⟨o1, up _ _ D.i1z q1, r1⟩
  ·have hbs : ∃ o, s.heap.get? b = some o := by
    simp only [List.mem_cons, List.not_mem_nil, or_false] at hb
    obtain ⟨o1, q1, _⟩ := h1
    obtain ⟨o2, q2, _⟩ := h2
    rcases hb with rfl | rfl | rfl | rfl | rfl
    ·exact ⟨_, hz⟩
    ·exact ⟨_, hTI⟩
    ·exact ⟨_, hTO⟩
    ·exact ⟨_, q1⟩
    ·exact ⟨_, q2⟩
   obtain ⟨o, q⟩ := hbs
   rw [upd_ne (inL b o q)]
   exact fo b hb
 done := by
  intro X hP hw hK hc i pins s σ H E I hf st hg
  subst hP hw hK
  obtain ⟨hz, hTI, ⟨u0, v0, hTO⟩, h1, h2⟩ := st
  obtain ⟨xs, hq, hx⟩ := hg
  obtain ⟨its, rv, p, _⟩ := I.list hq
  have D := D a rfl
  have hzt : s.TypeIs (.ref z) "zip" := ⟨_, hz, rfl⟩
  have hh := I.ok.hd hc
  have hl := rv.length
  unfold pyNext
  refine wpAny_bind (wpAny_attempt (wpAny_callSpecial?_slot (name := Str.ofString "__next__") hzt PySem.F.slot_zip_next
   (wpAny_call_entry PySem.F.slot_zip_next hzt PySem.F.entry_zip_next
    (zip_end (draws_str (A := X.A.in1) hh i1 ⟨zs.toArray⟩ t hn) hh D hz hTI hTO h1 h2 p.isList (by
     by_cases hi : zs.length <= i
     ·refine .inl fun s' Q E st hE => str_end (A := X.A.in1) hh hn st (by simpa using hi) hE
     ·exact .inr ⟨by simpa using hi, by simp; omega⟩) fun h' e tk hk he => ?_) (PySem.F.args_zip_next_1 _))))
  obtain ⟨o, ho, hce⟩ := he
  refine wpAny_bind (wpAny_isInstance (T := "StopIteration") (b := true) ⟨o, ho, hce⟩ isSubtype_stop ?_)
  refine wpAny_pure ⟨rfl, ?_⟩
  have fo : ∀ b ∈ [z, TI, TO, i1, i2], H b = none := fun b hb => (hf b hb).1
  have mx : ∀ b : Addr, b ∉ [z, TI, TO, i1, i2] -> b ≠ z /\ b ≠ TO /\ b ≠ i1 /\ b ≠ i2 := fun b hb => ⟨fun q => hb (by simp [q]), fun q => hb (by simp [q]), fun q => hb (by simp [q]), fun q => hb (by simp [q])⟩
  have kp : ∀ b o, b ∉ [z, TI, TO, i1, i2] -> s.heap.get? b = some o -> h'.get? b = some o := fun b o hb q => hk b o (mx b hb).1 (mx b hb).2.1 (mx b hb).2.2.1 (mx b hb).2.2.2 q
  have un : Un (frs X.stack) [z, TI, TO, i1, i2] H H s.heap h' :=
   ⟨fun b o q n hb hx => kp b o hx q, fun b o q n hb hx => ⟨o.slots, kp b o hx q⟩, fun b o q n hx => n, fun b o q hx => ⟨o, kp b o hx q⟩, fun b ys q => q, fun b o u' q => q, fun b ps q => ⟨#[], by rw [Array.append_empty]; exact q⟩⟩
  have hok : HOk X.prog X.w H h' := fun b u' q => by
   refine (I.hok b u' q).stay (fun c v hc' q' => ?_) (fun c q' => q') fun c ys q' => q'
   have : ∃ u'', H c = some u'' := by
    rcases hc' with z | z
    ·exact ⟨u', by rw [z]; exact q⟩
    ·exact ⟨_, z⟩
   obtain ⟨u'', hu''⟩ := this
   exact hk c v (ne_of_none hu'' (fo z (by simp))) (ne_of_none hu'' (fo TO (by simp))) (ne_of_none hu'' (fo i1 (by simp))) (ne_of_none hu'' (fo i2 (by simp))) q'
  exact I.call (g' := s.gens) (t' := tk) (d' := s.drawn) (ch := [z, TI, TO, i1, i2]) un hok I.bare fun b hb => by
   have fb := hf b hb
   exact ⟨fb.2.2.2.1, fb.2.1, fb.2.2.2.2.1, fb.2.2.2.2.2⟩
 self := fun _ _ _ _ _ st h => wpAny_pyIter_zip st.1 h
theorem zipD_len : ∀ (z : List Nat) (ds : List D), (zipD z ds).length = min z.length ds.length
 | [], ds => by simp [zipD]
 | c :: z, [] => by simp [zipD]
 | c :: z, d :: ds => by rw [zipD, List.length_cons, List.length_cons, List.length_cons, zipD_len]; omega
theorem zipD_get : ∀ (z : List Nat) (ds : List D) (i : Nat) (d : D), (zipD z ds)[i]? = some d -> ∃ c e, z[i]? = some c /\ ds[i]? = some e /\ d = .tup [.str [c], e]
 | [], ds, i, d, h => by simp [zipD] at h
 | c :: z, [], i, d, h => by simp [zipD] at h
 | c :: z, e :: ds, 0, d, h => by
  rw [zipD] at h
  simp at h
  exact ⟨c, e, rfl, rfl, h.symm⟩
 | c :: z, e :: ds, i + 1, d, h => by
  rw [zipD, List.getElem?_cons_succ] at h
  obtain ⟨c', e', h1, h2, h3⟩ := zipD_get z ds i d h
  exact ⟨c', e', by simpa using h1, by simpa using h2, h3⟩
section
variable {X : Cx} {B : List Addr} {a b : Expr} {f g : Ex} {pos : Pos}
theorem itz_of {K : PySem.W.Frag} {A : List Addr} {H : Hp} {z : List Nat} {ds : List D} {vs : List V} {l : Addr} (hq : SqL K (hide (A ++ B) H) l vs) (r : Reps K (hide (A ++ B) H) ds vs) : ItOf K B A H (Itz K z l) (zipD z ds) := by
 intro A' H' le own i
 have hq' : SqL K H' l vs := (hide_sub _ _).seq ((Le.app le).seq hq)
 refine ⟨fun d hd => ?_, fun hl => ⟨vs, hq', ?_⟩⟩
 ·obtain ⟨c, e, h1, h2, rfl⟩ := zipD_get z ds i d hd
  obtain ⟨v, hv, rv⟩ := r.get h2
  refine ⟨⟨(List.getElem?_eq_some_iff.mp h1).1, vs, v, hq', hv⟩, fun x H3 y => ?_⟩
  obtain ⟨T, c', v', rfl, hT, hc', rfl, h5⟩ := y
  have hx := h5 vs hq'
  rw [hv] at hx
  cases hx
  rw [h1] at hc'
  cases hc'
  exact ⟨same_upd hT, rep_new_tup own hT (.cons (rep_str.mpr rfl) (.cons (rv.mono (Le.app le)) .nil))⟩
 ·rw [zipD_len] at hl
  rw [r.length]
  omega
theorem it_zip {elts : List Expr} {x1} {tp p : Pos} (hm : X.mg "zip" = none) (ha : PE X a (tI X.K B f)) (hb : PE X b (tI X.K B g)) (hg : Gl X "zip" := by rfl) (hs : starEach [a, b] X.env = (false, eval a X.env) :: starEach [b] X.env := by rfl) (hs2 : starEach [b] X.env = [(false, eval b X.env)] := by rfl) : L2.PI X (.Tuple elts x1 tp) (.Call (.Name "zip" p) [a, b] [] pos) (tIt X.K B (itZip f g)) := by
 intro pins s σ H Rq I ⟨A, st, ds, rs, hd, q⟩
 obtain ⟨x, hx, h2⟩ := R.ok_of hd
 obtain ⟨y, hy, h3⟩ := R.ok_of h2
 split at h3
 rotate_left
 ·cases h3
 rename_i zs ws
 cases h3
 refine Call_ (ld_blt I hg hm boot_zip (PyProof.Rows.callWith_type1 (thn ((pa_cons ha (pa_cons hb pa_nil hs2) hs) pos pins s σ H (fun vs H1 => ∃ v w, vs = [v, w] /\ Same H H1 /\ Rep X.K (hide (A ++ B) H1) (.str zs) v /\ Rep X.K (hide (A ++ B) H1) (.lst ws) w) I ⟨A, st, _, rs, hx, fun v H1 s1 r1 => ⟨A, st, _, rs.mono s1, hy, fun w H2 s2 r2 => ⟨v, w, rfl, s1.trans s2, r1.mono (Same.hide s2), r2⟩⟩⟩) fun us s1 ⟨vs, H1, I1, r1, v, w, hv, sm, rv, rw'⟩ => ?_) hs (by rw [hs2]; rfl)))
 subst hv
 obtain ⟨u1, u2, rfl, ra, rb⟩ : ∃ u1 u2, us = [u1, u2] /\ L2.RelV v u1 /\ L2.RelV w u2 := by
  cases r1 with
  | cons ra rb =>
   cases rb with
   | cons rb rc =>
    cases rc
    exact ⟨_, _, rfl, ra, rb⟩
 obtain ⟨l, ts, rfl, hq, rr⟩ := rep_lst.mp rw'
 have ev := rep_str.mp rv
 subst ev
 obtain ⟨t, rfl⟩ := (show ∃ t, u1 = Value.str ⟨zs.toArray⟩ t from ra)
 have eu : u2 = Value.ref l := rb
 subst eu
 obtain ⟨its, rvv, pl, hz⟩ := I1.list ((hide_sub _ _).seq hq)
 have hlt : l < s1.heap.objs.size := by
  obtain ⟨o, e, _⟩ := pl.isList
  exact Heap.lt_size e
 refine call_zipT pl.isList fun h' hz' hTI hTO hit1 hit2 hsz hk => ?_
 refine wpAny_pyIter_zip hz' ⟨s1.heap.objs.size + 4, [s1.heap.objs.size + 4, s1.heap.objs.size + 2, s1.heap.objs.size + 3, s1.heap.objs.size, s1.heap.objs.size + 1], _, Itz X.K zs l, H1, rfl, I1.kept (t' := s1.toks) hk, turn_zip (t := t) (strIter_kinds ⟨zs.toArray⟩) l (s1.heap.objs.size + 4) (s1.heap.objs.size + 2) (s1.heap.objs.size + 3) s1.heap.objs.size (s1.heap.objs.size + 1) (fun l' e => ?_), ⟨hz', hTI, ⟨_, _, hTO⟩, hit1, hit2⟩, fun b hb => ?_, q _ H1 sm (itz_of hq rr)⟩
 ·subst e
  exact zapart_new hlt
 ·simp only [List.mem_cons, List.not_mem_nil, or_false] at hb
  rcases hb with rfl | rfl | rfl | rfl | rfl <;> exact I1.fpOk (by simp) (I1.hok.fresh (by simp))
end
end Pu
namespace Pu
open PySem PySem.Spec PyProof.Rows L2
section
variable {X : Cx} {B : List Addr} {a b e : Expr} {f g : Ex} {pos p0 p1 q : Pos}
theorem s_dnew1 (i : Nat) {x : Str} {pos' dp : Pos} (hk : PE X a (tI X.K B g)) (hv : PE X b (tI X.K B f)) (hN : X.N.Nodup) (hi : X.N[i]? = some x := by rfl) (hx : Loc X.env.scope x := by first | exact Or.inl rfl | exact Or.inr rfl) (hs : swapsWith (.Dict [some a] [b] dp) (some (.Name x pos')) pos.line X.env = pure false := by rfl)
  (hf : X.fn x = true \/ X.env.scope.names.lookup x = some .local := by first | exact .inl rfl | exact .inr rfl | assumption) : PS X (.Assign [.Name x pos'] (.Dict [some a] [b] dp) pos) (tS X.K B (sDNew1 i g f)) := ps_imp (ps_set hN hi hx (pe_disp (pps_cons hk hv pps_nil) rfl rfl (by simp) (show 1 <= 15 by omega)) hs hf) (by
 rintro Dn σ H ⟨A, st, r, rs, hr, p⟩
 obtain ⟨k, hk, h2⟩ := R.ok_of hr
 obtain ⟨d, hd, h3⟩ := R.ok_of h2
 obtain ⟨⟨c1, c2⟩, h4⟩ := guardR_of h3
 cases h4
 intro a ha
 refine ⟨A, st, k, rs.mono (same_upd ha), hk, fun u H1 s1 r1 => ⟨A, st, d, (rs.mono (same_upd ha)).mono s1, hd, fun v H2 s2 r2 => ?_⟩⟩
 have e2 : H2 a = some (.dK []) := s2 _ _ (s1 _ _ upd_same)
 obtain ⟨kk, ek, ev⟩ : ∃ kk : Key, keyD kk = k /\ u = kV kk := by
  cases k <;> first | (cases c1; done) | skip
  ·exact ⟨.inl _, rfl, rep_int.mp r1⟩
  ·refine ⟨.inr ⟨_⟩, ?_, rep_str.mp r1⟩
   simp [keyD]
 refine ⟨e2, [(kk, v)], by rw [ev]; rfl, (show 1 <= 15 by omega), ?_⟩
 let G : Hp := fun b => if b = a then none else H2 b
 have sG : Same H G := fun b o z => by
  have hb : b ≠ a := ne_of_none z ha
  show (if b = a then none else H2 b) = _
  rw [if_neg hb]
  exact s2 _ _ (s1 _ _ (by rw [upd_ne hb]; exact z))
 have gN : G a = none := if_pos rfl
 have eG : upd H2 a (.dK (mergeK [] [(kk, v)])) = upd G a (.dK [(kk, v)]) := by
  funext b
  by_cases hb : b = a
  ·subst hb; rw [upd_same, upd_same]; rfl
  ·rw [upd_ne hb, upd_ne hb]
   exact (if_neg hb).symm
 rw [eG]
 exact p (a :: A) _ _ ((Le.of sG).trans (le_new gN)) ((rs.mono sG).setO (kk := .d false [k]) i gN (.inl ⟨rfl, [(kk, v)], rfl, by rw [<- ek]; rfl, rfl⟩) (.cons ((rep_atom c2 r2).mono same_no) .nil)))
end
end Pu
namespace Pu
open PySem PySem.Spec PyProof.Rows L2
section
variable {X : Cx} {B : List Addr} {a b e o : Expr} {f g : Ex} {pos apos cpos : Pos}
theorem reps_dInts {K : PySem.W.Frag} {H : Hp} : ∀ {l : List Int} {vs : List V}, Reps K H (l.map D.int) vs -> vs = l.map V.int
 | [], vs, h => reps_nil.mp h
 | i :: l, vs, h => by
  obtain ⟨v, r, rfl, h1, h2⟩ := reps_cons.mp h
  rw [rep_int.mp h1, reps_dInts h2]; rfl
theorem vals_ints : ∀ {l : List Int} {us : List Value}, Vals (l.map V.int) us -> ∀ (j : Nat) (h : j < us.length), ∃ i t, l[j]? = some i /\ us[j] = .int i t
 | [], us, r, j, h => by cases r; simp at h
 | i :: l, us, r, j, h => by
  cases r with
  | cons ra rb =>
   obtain ⟨t, rfl⟩ := ra
   cases j with
   | zero => exact ⟨i, t, rfl, rfl⟩
   | succ j =>
    obtain ⟨i', t', h1, h2⟩ := vals_ints rb j (by simpa using h)
    exact ⟨i', t', by simpa using h1, by simpa using h2⟩
theorem mt_lindex : MtR X "list.index" (fun x vs H Q => ∃ (p : Addr) (l : List Int) (k : Int) (n : Nat), x = V.ref p /\ vs = [.int k] /\ SqL X.K H p (l.map V.int) /\ l.findIdx? (fun i => i == k) = some n /\ l.length <= 10000000 /\ Q (.int (n : Int)) H) := by
 intro pins s σ H x vs v us Q I rx rv h
 obtain ⟨p, l, k, n, rfl, rfl, hq, hn, hl, q⟩ := h
 obtain ⟨u, rfl, ru⟩ := rv.one
 obtain ⟨t, rfl⟩ := (show ∃ t, u = Value.int k t from ru)
 have ep : v = Value.ref p := rx
 subst ep
 obtain ⟨its, rr, ⟨⟨cls, dd, data, sl⟩, n0, ho, hc, _, hd⟩, hz⟩ := I.list hq
 have hlen := rr.length
 rw [List.length_map] at hlen
 obtain ⟨h1, h2, h3⟩ := List.findIdx?_eq_some_iff_getElem.mp hn
 dsimp only at hc hd
 subst hc hd
 have hnu : n < its.length := by omega
 refine call_meets PySem.F.slot_list_index ⟨_, ho, rfl⟩ PySem.F.entry_list_index (PySem.F.args_list_index_2 _ _) (PySem.SeqAt.list_indexAt p its.toArray n0 dd sl (.int k t) (fun y => match y with | .int i _ => i == k | _ => false) n (by simpa using hnu) (by omega) ?_ fun m hm hmn => ?_) ⟨ho, fun y hy => ?_, ?_⟩
 ·obtain ⟨i, t', e1, e2⟩ := vals_ints rr n hnu
  rw [List.getElem_toArray, e2]
  rw [List.getElem?_eq_getElem h1] at e1
  cases e1
  exact h2
 ·have hm' : m < its.length := by simpa using hm
  obtain ⟨i, t', e1, e2⟩ := vals_ints rr m hm'
  rw [List.getElem_toArray, e2]
  rw [List.getElem?_eq_getElem (by omega)] at e1
  cases e1
  have := h3 m hmn
  simpa using this
 ·obtain ⟨m, hm, rfl⟩ := List.mem_iff_getElem.mp (show y ∈ its by simpa using hy)
  obtain ⟨i, t', e1, e2⟩ := vals_ints rr m hm
  rw [e2]
  exact (PySem.MeetsSeq.EqGives.int i k t' t).at _ _
 ·exact ⟨.int (n : Int), H, I.tok _, ⟨_, rfl⟩, q⟩
theorem i_lindex {r : Exs} (ho : PE X o (tP X.K B f)) (ha : PA X [e] (tA X.K B r)) (hbase : attributeBase o "index" X.env (eval o X.env) = eval o X.env := by rfl)
  (hfew : ((backTo cpos (starEach [e] X.env)).all (fun x => !x.1) && (backToKw cpos (keywordEach [] X.env)).all (fun x => x.1.isSome)
   && decide (([e] : List Expr).length + ([] : List Keyword).length + (if ([] : List Keyword).isEmpty then 0 else 1) < 30)) = true := by rfl)
  (hline : (apos.endLine == cpos.line) = true := by rfl) (hs : starEach [e] X.env = (false, eval e X.env) :: starEach [] X.env := by rfl) :
  PE X (.Call (.Attribute o "index" apos) [e] [] cpos) (tI X.K B (eMt mIdxL f r)) := by
 refine pe_imp (pe_bm PySem.F.plainAttrs_list PySem.F.slot_list_index PySem.F.type_list_index mt_lindex ho ha hbase hfew hline hs rfl) ?_
 rintro σ H Q ⟨A, st, d, rs, hd, k⟩
 obtain ⟨x, hx, h2⟩ := R.ok_of hd
 obtain ⟨xs, hxs, h3⟩ := R.ok_of h2
 unfold mIdxL at h3
 split at h3
 ·rename_i ys j
  obtain ⟨l, hl, h4⟩ := R.ok_of h3
  obtain ⟨n, hn, h5⟩ := R.ok_of h4
  obtain ⟨c, h6⟩ := guardR_of h5
  cases h6
  have ey := dInts_of hl
  subst ey
  refine ⟨A, st, _, rs, hx, fun v H1 s1 r1 => ?_⟩
  obtain ⟨p, vs, e1, hq, rr⟩ := r1.lst
  have ev := reps_dInts rr
  subst ev
  refine ⟨by rw [e1]; exact .inl ⟨rfl, _, hq⟩, A, st, _, rs.mono s1, hxs, fun ws H2 s2 r2 => ?_⟩
  obtain ⟨w, rfl, rw'⟩ := reps1 r2
  rw [big_eq, List.length_map] at c
  exact ⟨p, l, j, n, e1, by rw [rep_int.mp rw'], s2.seq hq, ofO_of hn, c, k _ H2 (s1.trans s2) (rep_int.mpr rfl)⟩
 ·cases h3
end
end Pu
namespace Pu
open PySem PySem.Spec PyProof.Rows L2
section
open PySem.SeqAt
open PySem.AutoSeq1 (wpAny_loadPart')
open PySem.MeetsSeq PySem.MeetsSeq2 PySem.MeetsSeq3
inductive LexW (A : Around) (s : Shared) : List Value -> List Value -> Bool -> Prop where
 | nn : LexW A s [] [] true
 | nc {w : Value} {ws : List Value} : LexW A s [] (w :: ws) true
 | cn {v : Value} {vs : List Value} : LexW A s (v :: vs) [] false
 | eq {v w : Value} {vs ws : List Value} {b : Bool} : EqAt A s v w true -> LexW A s vs ws b -> LexW A s (v :: vs) (w :: ws) b
 | lt {v w : Value} {vs ws : List Value} {b : Bool} : EqAt A s v w false -> (∀ (prog : Program) (wd : World) (E Q : Value -> Shared -> Prop), Q (.bool b) s -> wpAny (model prog wd) A (richCompare .LtE v w) Q E s) -> LexW A s (v :: vs) (w :: ws) b
end
theorem le_strP {prog : Program} {w : World} {A : Around} {E : Value -> Shared -> Prop} {s : Shared} {x y : Str} {t u : Tok} {Q : Value -> Shared -> Prop} (h : Q (.bool (!(y.cps.toList < x.cps.toList))) s) : wpAny (model prog w) A (compareOp .LtE (.str x t) (.str y u)) Q E s := by
 show wpAny _ _ (richCompare .LtE (.str x t) (.str y u)) Q E s
 exact wpAny_richCompare_same (op := .LtE) (T := "str") (typeIs_str s x t) (typeIs_str s y u) PyProof.Rows.slot_str_le
  (wpAny_call_entry PyProof.Rows.slot_str_le (typeIs_str s x t) PyProof.Rows.entry_str_le (show wpAny _ _ (ret (.bool (!(y.cps.toList < x.cps.toList)))) _ _ s from wpAny_pure ⟨_, rfl, by simp, h⟩) (PyProof.Rows.args_str_le _ _))
section
variable {X : Cx}
end
end Pu
namespace Pu
open PySem PySem.Spec PyProof.Rows L2
theorem rel_kV {k : Key} {u : Value} (h : keyIs k u = true) : L2.RelV (kV k) u := by
 rcases keyIs_shape h with ⟨i, t, rfl, rfl⟩ | ⟨x, t, rfl, rfl⟩
 ·exact ⟨t, rfl⟩
 ·exact ⟨t, rfl⟩
theorem vals_keys : ∀ {kvs : List (Key × V)} {vs : List (Key × Value)} {us : List Value}, KV kvs vs -> us.length = vs.length -> (∀ (j : Nat) (u : Value), us[j]? = some u -> ∃ k x, vs[j]? = some (k, x) /\ keyIs k u = true) -> Vals (kvs.map fun p => kV p.1) us
 | [], _, us, r, hl, _ => by
  cases r
  rw [List.length_eq_zero_iff.mp hl]
  exact .nil
 | p :: kvs, _, us, r, hl, h => by
  cases r with
  | @cons a b as bs h1 t =>
   cases us with
   | nil => simp at hl
   | cons u us =>
    obtain ⟨k, x, e, hk⟩ := h 0 u rfl
    simp at e
    refine .cons ?_ (vals_keys t (by simpa using hl) fun j u hj => ?_)
    ·have : p.1 = k := by rw [h1.1, e]
     show L2.RelV (kV p.1) u
     rw [this]
     exact rel_kV hk
    ·obtain ⟨k, x, e, hk⟩ := h (j + 1) u (by simpa using hj)
     exact ⟨k, x, by simpa using e, hk⟩
section
variable {X : Cx} {B : List Addr} {a : Expr} {f : Ex} {pos p0 : Pos}
theorem kv_len {kvs : List (Key × V)} {vs : List (Key × Value)} (r : KV kvs vs) : vs.length = kvs.length := by
 unfold KV at r
 induction r with
 | nil => rfl
 | cons _ _ ih => simp [ih]
theorem call_listD (hc : X.calm = true) : CallR X (.type "list") (fun vs H Q => ∃ (r : Addr) (kvs : List (Key × V)), vs = [.ref r] /\ H r = some (.dK kvs) /\ kvs.length <= 10000000 /\ ∀ n, H n = none -> Q (.ref n) (upd H n (.lst (kvs.map fun p => kV p.1)))) := by
 intro pins s σ H vs us Q I r h
 obtain ⟨l, kvs, rfl, hl, h1, q⟩ := h
 obtain ⟨u, rfl, ru⟩ := r.one
 obtain rfl : u = Value.ref l := ru
 obtain ⟨hz, hs, xs, kv, hd⟩ := dk_of I.hok hl
 have hlen := kv_len kv
 obtain ⟨ep, hat⟩ := hd.dictAt
 refine PySem.W.kdl_call (PySem.W.kdl_dict (knd := mixKind X.prog X.w) hs) (I.ok.hd hc) hat (by rw [sizeLine_eq]; omega) fun h' tk acc c' hk hS hi => ?_
 refine ⟨.ref s.heap.objs.size, _, I.laid (o := .lst (kvs.map fun p => kV p.1)) (t' := tk) hk (Nat.le_refl _) ⟨by rw [List.length_map]; exact hz, acc.toList, c', ?_, by simpa using hS⟩, rfl, q _ (I.hok.fresh (Nat.le_refl _))⟩
 obtain ⟨h3, h4⟩ := hi
 exact vals_keys kv (by simpa using h3) fun j u hj => h4 j u (by simpa using hj)
theorem reps_keys {K : PySem.W.Frag} {H : Hp} : ∀ (kvs : List (Key × V)), Reps K H (kvs.map fun p => keyD p.1) (kvs.map fun p => kV p.1)
 | [] => .nil
 | p :: kvs => by
  refine .cons ?_ (reps_keys kvs)
  obtain ⟨k, v⟩ := p
  cases k with
  | inl i => exact rep_int.mpr rfl
  | inr x => exact rep_str.mpr (by simp [kV])
theorem i_listD (hm : X.mg "list" = none) (hc : X.calm = true) (ha : PE X a (tI X.K B f)) (hg : Gl X "list" := by rfl) (hs : starEach [a] X.env = (false, eval a X.env) :: starEach [] X.env := by rfl) : PE X (.Call (.Name "list" p0) [a] [] pos) (tI X.K B (e1 dListD f)) := by
 refine pe_imp (pe_callTy (call_listD hc) hg hm (by rfl) (pa_cons ha pa_nil hs) (he := hs)) ?_
 rintro σ H Q ⟨A, st, d, rs, hd, q⟩
 obtain ⟨x, hx, h2⟩ := R.ok_of hd
 refine ⟨A, st, x, rs, hx, fun v H1 s1 r1 => ?_⟩
 unfold dListD at h2
 split at h2
 ·obtain ⟨c, h3⟩ := guardR_of h2
  cases h3
  obtain ⟨p, vs, rfl, h4, r4⟩ := rep_dct.mp r1
  rcases h4 with ⟨_, kvs, h5, rfl, rfl⟩ | ⟨h5, _⟩
  ·rw [big_eq, List.length_map] at c
   exact ⟨p, kvs, rfl, hide_sub _ _ _ _ h5, c, fun n hn => q _ _ (s1.trans (same_upd hn)) (rep_new_lst (rs.own.mono s1) hn (reps_keys kvs))⟩
  ·cases h5
 ·cases h2
end
section
variable {X : Cx} {B : List Addr} {scope : Scope} {elt tg iter c : Expr} {pos : Pos} {t : Tg} {it : ItE} {f u : Ex}
end
end Pu
namespace Pu
open PySem PySem.Spec PyProof.Rows L2
section
variable {X : Cx} {B : List Addr} {a : Expr} {f : Ex} {pos : Pos}
end
end Pu
namespace Pu
open PySem PySem.Spec PyProof.Rows L2
section
variable {X : Cx} {B : List Addr} {a b : Expr} {f g : Ex} {pos : Pos} {W : XW}
end
end Pu
namespace Pu
section
open PySem PySem.Spec PyProof.Rows L2
variable {X : Cx} {B : List Addr} {a b : Expr} {f g : Ex} {pos : Pos}
theorem sem_ltI {K : PySem.W.Frag} : Sem2 K (rI0 fun i j => .bl (decide (i < j))) dLtI := sem_rI0 (g := fun i j => .bl (decide (i < j))) (fun _ _ _ => rep_bl.mpr rfl) fun x y d e => by
 unfold dLtI at e
 split at e
 ·cases e; exact ⟨_, _, rfl, rfl, rfl⟩
 ·cases e
theorem cmulI_of {i j : Int} (c : (-18446744073709551616 < i /\ i < 18446744073709551616) \/ (-18446744073709551616 < j /\ j < 18446744073709551616)) : CMul i j := by
 unfold CMul
 omega
theorem i_mulI (ha : PE X a (tP X.K B f)) (hb : PE X b (tP X.K B g)) : PE X (.BinOp a .Mult b pos) (tI X.K B (e2 dMulI f g)) := by
 refine i_op op_mul ?_ ha hb
 intro A H x y d v u Q w rx ry e q
 unfold dMulI at e
 split at e
 ·obtain ⟨c, e⟩ := guardR_of e
  cases e
  exact ⟨_, _, rx.int, ry.int, cmulI_of c, q _ H (Same.refl _) (rep_int.mpr rfl)⟩
 ·cases e
end
end Pu
namespace Pu
open PySem PySem.Spec PyProof.Rows L2
section
variable {X : Cx} {B : List Addr} {scope : Scope} {elt tg iter : Expr} {pos : Pos} {t : Tg} {it : ItE} {f g h : Ex} {rest : List Stmt} {i : Nat} {nb : NB}
end
end Pu
namespace Pu
open PySem PySem.Spec PyProof.Rows L2
section
variable {X : Cx} {pins : List (Addr × Obj)} {σ : List (Option V)} {H H' : Hp} {s : Shared} {h' : Heap}
end
section
variable {X : Cx} {B : List Addr} {a e : Expr} {es : List Expr} {f : Ex} {pos p0 apos cpos : Pos} {sm : Stmt} {rest : List Stmt} {bd bd' : Bd} {r : Exs}
end
section
variable {P : Program} {w : World} {K : PySem.W.Frag} {mg : Str -> Option Value} {base : Heap} {x qual : Str} {st : Stmt} {dV : Value} {f : Addr} {fd : FuncData} {N ps : List Str} {k : Nat}
theorem thenR_lst {np n : Nat} {bd : Bd} {g : Ex} (ds : List D) (d : D) (h : runD np n (thenR bd g) ds = .ok d) : ∃ xs, d = .lst xs := by
 obtain ⟨_, h2⟩ := guardR_of h
 obtain ⟨fl, hfl, h3⟩ := R.ok_of h2
 unfold thenR at hfl
 split at hfl
 ·obtain ⟨d, hd, h4⟩ := R.ok_of hfl
  split at h4
  ·cases h4; cases h3; exact ⟨_, rfl⟩
  ·cases h4
 ·cases hfl
end
structure DefOkF (P : Program) (w : World) (K : PySem.W.Frag) (mg : Str -> Option Value) (base : Heap) (x : Str) (k np : Nat) (p : List D -> R D) : Prop where
 ex : ∃ (fa : Addr) (fd : FuncData) (ps : List Str), FnOk P w K mg base CX0 k fa fd ps (spF K np p) /\ mg x = some (.ref fa) /\ PySem.W.keepIn K (.ref fa) = true /\ Binds K fd ps []
 len : ∀ ds d, p ds = .ok d -> ds.length = np
 lst : ∀ ds d, p ds = .ok d -> ∃ xs, d = .lst xs
theorem DefOkF.of {P : Program} {w : World} {K : PySem.W.Frag} {mg : Str -> Option Value} {base : Heap} {x : Str} {k np n : Nat} {bd : Bd} {g : Ex} {fa : Addr} {fd : FuncData} {ps : List Str} (h : FnOk P w K mg base CX0 k fa fd ps (spF K np (runD np n (thenR bd g)))) (m : mg x = some (.ref fa))
  (kp : PySem.W.keepIn K (.ref fa) = true) (b : Binds K fd ps []) : DefOkF P w K mg base x k np (runD np n (thenR bd g)) := ⟨⟨fa, fd, ps, h, m, kp, b⟩, runD_len, thenR_lst⟩
theorem DefOkF.plain {P : Program} {w : World} {K : PySem.W.Frag} {mg : Str -> Option Value} {base : Heap} {x : Str} {k np : Nat} {p : List D -> R D} (h : DefOkF P w K mg base x k np p) : DefOk P w K mg base x k np p := by
 obtain ⟨fa, fd, ps, F, m, kp, bd⟩ := h.ex
 exact ⟨⟨fa, fd, ps, spF_plain h.lst F, m, kp, bd⟩, h.len⟩
section
variable {X : Cx} {B : List Addr} {e : Expr} {es : List Expr} {r : Exs} {pos p0 : Pos}
theorem f_callD {x : Str} {k j np : Nat} {p : List D -> R D} (h : DefOkF X.prog X.w X.K X.mg X.base x k np p) (hr : Room j X.A) (hk : k <= j) (ha : PA X (e :: es) (tA X.K B r)) (hg : Gl X x := by rfl) (hdb : (x == ("__debug__" : Str)) = false := by decide)
  (he : starEach (e :: es) X.env = (false, eval e X.env) :: starEach es X.env := by rfl) (hpl : (backTo pos (starEach es X.env)).any (·.1) = false := by rfl) : PE X (.Call (.Name x p0) (e :: es) [] pos) (tF X.K B (eCall p r)) := by
 obtain ⟨fa, fd, ps, F, m, kp, bd⟩ := h.ex
 refine pe_imp (pe_call F (hr.mono hk) hg m kp bd .nil pass0 ha hdb he hpl) ?_
 rintro σ H Q ⟨A, st, d, rs, hd, q⟩
 obtain ⟨xs, hx, h2⟩ := R.ok_of hd
 refine ⟨A, st, xs, rs, hx, fun vs H1 s1 r1 => ?_⟩
 show spF X.K np p (vs ++ []) H1 Q E0
 rw [List.append_nil]
 refine ⟨A ++ B, xs, d, rs.own.mono s1, r1, h.len _ _ h2, h2, fun a ws H' s' ha' hv rv => ?_⟩
 have e0 : upd (hide [a] H') a (.lst ws) = H' := by
  funext b
  by_cases hb : b = a
  ·subst hb; rw [upd_same]; exact hv.symm
  ·rw [upd_ne hb, hide_out (by simpa using hb)]
 have z := q a ws (hide [a] H') (fun b u hz => ?_) (hide_in (by simp)) ?_
 ·rw [e0] at z; exact z
 ·have hz2 := s1 _ _ hz
  rw [hide_out (by simpa using ne_of_none hz2 ha')]
  exact s' _ _ hz2
 ·refine rv.mono fun b u hz => ?_
  have hb : b ∉ a :: (A ++ B) := fun y => by rw [hide_in y] at hz; cases hz
  rw [hide_out fun y => hb (List.mem_cons_of_mem _ y), hide_out (by simpa using fun y => hb (by rw [y]; exact List.mem_cons_self))]
  exact hide_sub _ _ _ _ hz
end
section
variable {X : Cx} {B : List Addr} {e : Expr} {pos : Pos} {f : Ex}
end
end Pu
namespace Pu
open PySem PySem.Spec PyProof.Rows L2 PySem.Calls Builtin Builtin.ObjectAttr
section
variable {prog : Program} {w : World} {A : Around} {E : Value -> Shared -> Prop} {R : Result -> Shared -> Prop} {s : Shared} {K : PySem.W.Frag} {x dx C : Addr} {mA : Str -> Option Value} {name : Str} {v : Value} {ox : Obj}
end
section
variable {prog : Program} {w : World} {A : Around} {E : Value -> Shared -> Prop} {hp : Heap} {gs : Array GenState} {dn : Drawn} {tn : Nat} {os : OsState}
variable {n0 q : Str} {C N : Addr} {l0 l1 l2 : List Value} {z0 : Bool} {l3 : List Str} {l4 : List Value} {z1 : Bool} {z2 : Option Bool} {z3 : Option Addr} {k0 k1 k2 k3 k5 : Option Value} {B newId initId : String}
end
section
variable {X : Cx} {pins : List (Addr × Obj)} {σ : List (Option V)} {H : Hp} {s : Shared} {h' : Heap} {x dx C : Addr}
end
section
variable {X : Cx} {B : List Addr} {o e value : Expr} {f : Str} {pos pos' : Pos} {ta tv : TE}
end
section
variable {X : Cx} {B : List Addr} {e : Expr} {es : List Expr} {r : Exs} {pos p0 : Pos}
end
section
variable {P : Program} {w : World} {K : PySem.W.Frag} {mg : Str -> Option Value} {base : Heap} {x qual : Str} {st : Stmt} {dV : Value} {f : Addr} {fd : FuncData} {N ps : List Str} {k : Nat}
end
section
variable {X : Cx} {B : List Addr} {e : Expr} {es : List Expr} {r : Exs} {pos p0 : Pos}
end
end Pu
namespace Pu
open PySem PySem.Spec PyProof.Rows L2
section
variable {X : Cx} {B : List Addr} {a b e : Expr} {es : List Expr} {f g : Ex} {r : Exs} {pos p0 : Pos} {x : Str}
theorem i_gfn {F : String} {A : Addr} (hn : PySem.W.nsIn X.K mainGlobals (Str.ofString F) = some (some (.ref A))) (hm : X.mg x = some (.ref A)) (hg : Gl X x := by rfl) (hd : (x == ("__debug__" : Str)) = false := by decide) : PE X (.Name x pos) (tI X.K B (eC (.fn F))) :=
 i_c (pe_glob (v := .ref A) hg hm rfl hd) fun _ => rep_fn.mpr ⟨A, rfl, hn⟩
def tCallV (X : Cx) (i : Nat) (t : TA) : TE := fun σ H Q => ∃ (f : Addr) (k : Nat) (fd : FuncData) (ps : List Str) (sp : Sp), σ[i]? = some (some (.ref f)) /\ FnOk X.prog X.w X.K X.mg X.base CX0 k f fd ps sp /\ Room k X.A /\ PySem.W.keepIn X.K (.ref f) = true /\ Binds X.K fd ps [] /\ t σ H fun vs H1 => sp (vs ++ []) H1 Q E0
theorem pe_callV {i : Nat} {t : TA} (hN : X.N[i]? = some x) (hv : Vis X.env.scope x) (ha : PA X (e :: es) t) (hd : (x == ("__debug__" : Str)) = false) (hcd : (x == ("__classdict__" : Str)) = false)
  (he : starEach (e :: es) X.env = (false, eval e X.env) :: starEach es X.env) (hpl : (backTo pos (starEach es X.env)).any (·.1) = false) : PE X (.Call (.Name x p0) (e :: es) [] pos) (tCallV X i t) := by
 intro pins s σ H Q I h
 obtain ⟨f, k, fd, ps, sp, hσ, F, hr, hkp, hb, h⟩ := h
 obtain ⟨m, hn, hl⟩ := I.loc
 obtain ⟨u, ru, l⟩ := hl i x _ hN hσ hv
 obtain rfl : u = Value.ref f := ru
 have fin := PySem.W.callWith_K (h₀ := X.base) (pos := pos) (first := []) I.ok.mod.kin hkp (thn (ha pos pins s σ H _ I h) fun us s1 ⟨vs, H1, I1, r, q⟩ => ⟨I1.kIn, run_fn F hr hb .nil pass0 I1 r q⟩) he hpl
 refine wpAny_Call_Name_kw ?_
 rcases l with ⟨hk, hm⟩ | ⟨hk, c, hc, hcell⟩
 ·exact wpAny_Name (wpAny_loadName_local I.ok.kind hk hn hm fin) hd
 ·rcases hk with hk | hk
  ·exact wpAny_Name (wpAny_loadName_cell I.ok.kind hk hc hcell fin) hd
  ·exact wpAny_Name (wpAny_loadName_free I.ok.kind hk hc hcell fin hcd) hd
theorem callV_one {F : String} {k j np : Nat} {p : List D -> R D} {pins : List (Addr × Obj)} {s : Shared} {σ : LSt} {H : Hp} {Q : VK} {i : Nat} {a : Addr} {A : List Addr} {st : PSt} {d : D} (h : DefOk X.prog X.w X.K X.mg X.base (Str.ofString F) k np p) (hr : Room j X.A) (hk : k <= j) (I : Inv X pins σ H s)
  (hn : PySem.W.nsIn X.K mainGlobals (Str.ofString F) = some (some (.ref a))) (e1 : σ[i]? = some (some (.ref a))) (rs : RS X.K B A H st σ) (h2 : (r st).bind p = .ok d) (q : ∀ v H', Same H H' -> Rep X.K (hide (A ++ B) H') d v -> Q v H') : tCallV X i (tA X.K B r) σ H Q := by
 obtain ⟨fa, fd, ps, FF, m, kp, bd⟩ := h.ex
 have := (PySem.W.mg_of I.ok.mod.kin I.ok.mod.glob hn).symm.trans m
 cases this
 obtain ⟨xs, hx, h3⟩ := R.ok_of h2
 refine ⟨_, k, fd, ps, _, e1, FF, hr.mono hk, kp, bd, A, st, xs, rs, hx, fun vs H1 s1 r1 => ?_⟩
 show spI X.K np p (vs ++ []) H1 Q E0
 rw [List.append_nil]
 exact ⟨A ++ B, xs, d, rs.own.mono s1, r1, h.len _ _ h3, h3, fun w H' s' r' => q w H' (s1.trans s') r'⟩
theorem i_callV2 (i : Nat) {f1 f2 : String} {k1 k2 j n1 n2 : Nat} {p1 p2 : List D -> R D} (h1 : DefOk X.prog X.w X.K X.mg X.base (Str.ofString f1) k1 n1 p1) (h2 : DefOk X.prog X.w X.K X.mg X.base (Str.ofString f2) k2 n2 p2) (hr : Room j X.A) (hk1 : k1 <= j) (hk2 : k2 <= j) (ha : PA X (e :: es) (tA X.K B r))
  (hN : X.N[i]? = some x := by rfl) (hv : Vis X.env.scope x := by first | exact Or.inl rfl | exact Or.inr (Or.inl rfl) | exact Or.inr (Or.inr rfl)) (hd : (x == ("__debug__" : Str)) = false := by decide) (hcd : (x == ("__classdict__" : Str)) = false := by decide)
  (he : starEach (e :: es) X.env = (false, eval e X.env) :: starEach es X.env := by rfl) (hpl : (backTo pos (starEach es X.env)).any (·.1) = false := by rfl) : PE X (.Call (.Name x p0) (e :: es) [] pos) (tI X.K B (eCallV [(f1, p1), (f2, p2)] i r)) := by
 intro pins s σ H Q I h
 refine pe_callV hN hv ha hd hcd he hpl pins s σ H Q I ?_
 obtain ⟨A, st, d, rs, hd, q⟩ := h
 unfold eCallV at hd
 split at hd
 ·rename_i F e0
  obtain ⟨v, e1, rf⟩ := rs.val i _ e0
  obtain ⟨a, rfl, hn⟩ := rep_fn.mp rf
  obtain ⟨p, hp, h3⟩ := R.ok_of hd
  by_cases c1 : F = f1
  ·subst c1
   have : p = p1 := by
    rw [List.lookup_cons_self] at hp
    cases hp; rfl
   subst this
   exact callV_one h1 hr hk1 I hn e1 rs h3 q
  ·have b1 : (F == f1) = false := by simpa using c1
   rw [List.lookup_cons, b1] at hp
   by_cases c2 : F = f2
   ·subst c2
    have : p = p2 := by
     rw [List.lookup_cons_self] at hp
     cases hp; rfl
    subst this
    exact callV_one h2 hr hk2 I hn e1 rs h3 q
   ·have b2 : (F == f2) = false := by simpa using c2
    rw [List.lookup_cons, b2] at hp
    cases hp
 ·cases hd
def GTup (K : PySem.W.Frag) (T : Addr) (ns : List Int) : Prop := ∃ (o : Obj) (its : Array Value) (n : Nat), K.lookup T = some o /\ o.cls = .type "tuple" /\ o.data = .seq its n /\ its.size <= sizeLine /\ Vals (ns.map V.int) its.toList
theorem reps_nums {K : PySem.W.Frag} {H : Hp} : ∀ (ns : List Int), Reps K H (ns.map D.int) (ns.map V.int)
 | [] => .nil
 | _ :: ns => .cons (rep_int.mpr rfl) (reps_nums ns)
theorem ints_flat : ∀ (ns : List Int), deps (ns.map D.int) = 0 /\ plains (ns.map D.int) = true
 | [] => ⟨by unfold deps; rfl, by unfold plains; rfl⟩
 | _ :: ns => ⟨by rw [List.map_cons, deps_cons, (ints_flat ns).1]; unfold dep; rfl, by rw [List.map_cons, plains_cons, (ints_flat ns).2]; unfold plain; rfl⟩
theorem in_gtup {ns : List Int} {T : Addr} (gt : GTup X.K T ns) {σ : LSt} {H : Hp} {Q : VK} (h : tI X.K B (e1 (dNotInC ns) f) σ H Q) : tOp (rInD X.K true) (tP X.K B f) (L2.tC (V.ref T)) σ H Q := by
 obtain ⟨A, st, d, rs, hd, q⟩ := h
 obtain ⟨y, hy, h2⟩ := R.ok_of hd
 obtain ⟨c, h3⟩ := guardR_of h2
 cases h3
 refine ⟨A, st, y, rs, hy, fun v H1 s1 r1 => ?_⟩
 exact .inr (.inl ⟨y, ns.map D.int, ns.map V.int, T, rfl, .inr (.inr gt), r1.rep, reps_nums ns, by rw [(ints_flat ns).1]; exact Nat.zero_le _, c, (ints_flat ns).2, q _ H1 s1 (rep_bl.mpr rfl)⟩)
theorem t_notInG {ns : List Int} {T : Addr} (gt : GTup X.K T ns) (hm : X.mg x = some (.ref T)) (hu : X.A.units + 64 < cLine) (ha : PE X a (tP X.K B f)) (hg : Gl X x := by rfl) (hd : (x == ("__debug__" : Str)) = false := by decide) : PT X (.Compare a [.NotIn] [.Name x p0] pos) (tT X.K B (e1 (dNotInC ns) f)) :=
 pt_imp (pt_cmpR (op_notInD hu) ha (pe_glob (v := .ref T) hg hm rfl hd) rfl) fun _ _ _ h => in_gtup gt (t_of h)
theorem i_repL {p1 : Pos} (ha : PA X es (tA X.K B r)) (hb : PE X b (tP X.K B g)) : PE X (.BinOp (.List es p1) .Mult b pos) (tI X.K B (eRepL r g)) := by
 refine pe_imp (pe_op op_rep (pe_lst ha) hb) ?_
 rintro σ H Q ⟨A, st, d, rs, hd, q⟩
 obtain ⟨xs, hx, h2⟩ := R.ok_of hd
 obtain ⟨y, hy, h3⟩ := R.ok_of h2
 obtain ⟨j, rfl, h4⟩ := inI_of h3
 obtain ⟨⟨c0, c1, c2, c3⟩, h5⟩ := guardR_of h4
 cases h5
 refine ⟨A, st, xs, rs, hx, fun vs H1 s1 r1 => ⟨by rw [r1.length]; exact lim c0, fun p hp => ?_⟩⟩
 have s2 := s1.trans (same_upd (o := .lst vs) hp)
 refine ⟨A, st, _, rs.mono s2, hy, fun v H2 s3 r2 => ?_⟩
 refine ⟨p, j, vs, rfl, r2.int, s3 _ _ upd_same, by omega, by omega, by rw [r1.length]; exact lim c1, fun n hn => ?_⟩
 refine q _ _ (s2.trans (s3.trans (same_upd hn))) (rep_new_lst (rs.own.mono (s2.trans s3)) hn ?_)
 exact ((r1.mono (Same.hide (same_upd hp))).mono (Same.hide s3)).rep j.toNat
theorem i_toInt (hm : X.mg "int" = none) (ha : PE X a (tP X.K B f)) (hg : Gl X "int" := by rfl) (hs : starEach [a] X.env = (false, eval a X.env) :: starEach [] X.env := by rfl) : PE X (.Call (.Name "int" p0) [a] [] pos) (tI X.K B (e1 dInt f)) := by
 refine pe_imp (pe_callTy call_int1 hg hm (by rfl) (pa_cons ha pa_nil hs) (he := hs)) ?_
 rintro σ H Q ⟨A, st, d, rs, hd, q⟩
 obtain ⟨y, hy, h2⟩ := R.ok_of hd
 refine ⟨A, st, y, rs, hy, fun v H1 s1 r1 => ?_⟩
 unfold dInt at h2
 split at h2
 ·cases h2
  exact .inl ⟨_, by rw [r1.int], q _ H1 s1 (rep_int.mpr rfl)⟩
 ·cases h2
  exact .inr ⟨_, by rw [r1.bl], q _ H1 s1 (rep_int.mpr rfl)⟩
 ·cases h2
theorem hide_one {A : List Addr} {H G : Hp} {a : Addr} (hG : ∀ b, b ≠ a -> G b = H b) (hn : H a = none) : hide (a :: A) G = hide A H := by
 funext b
 by_cases hb : b = a
 ·subst hb
  rw [hide_in List.mem_cons_self]
  by_cases h2 : b ∈ A
  ·rw [hide_in h2]
  ·rw [hide_out h2, hn]
 ·by_cases h2 : b ∈ A
  ·rw [hide_in h2, hide_in (List.mem_cons_of_mem _ h2)]
  ·rw [hide_out h2, hide_out (fun z => (List.mem_cons.mp z).elim hb h2), hG b hb]
theorem RS.more {K : PySem.W.Frag} {A : List Addr} {H : Hp} {st : PSt} {σ : LSt} {a : Addr} {o : HO} (rs : RS K B A H st σ) (hn : H a = none) : RS K B (a :: A) (upd H a o) st σ := by
 have e : hide ((a :: A) ++ B) (upd H a o) = hide (A ++ B) H := hide_one (fun b hb => upd_ne hb) hn
 refine ⟨rs.len, fun b hb => ?_, fun b hb => ?_, fun i d z => ?_, fun i k xs z => ?_⟩
 ·rcases List.mem_cons.mp hb with rfl | hb
  ·rw [upd_same]; rfl
  ·exact rs.own.mono (same_upd hn) b hb
 ·rcases List.mem_cons.mp hb with rfl | hb
  ·exact fun h2 => rs.own.free hn (List.mem_append_right _ h2)
  ·exact rs.dis b hb
 ·rw [e]; exact rs.val i d z
 ·rw [e]
  obtain ⟨l, o', vs, e1, m, h, ko, q, u⟩ := rs.lst i k xs z
  exact ⟨l, o', vs, e1, List.mem_cons_of_mem _ m, same_upd hn _ _ h, ko, q, u⟩
theorem s_dnewV (i : Nat) {pos' dp : Pos} (hk : PE X a (tI X.K B g)) (hv : PE X b (tI X.K B f)) (hN : X.N.Nodup) (hi : X.N[i]? = some x := by rfl) (hx : Loc X.env.scope x := by first | exact Or.inl rfl | exact Or.inr rfl) (hs : swapsWith (.Dict [some a] [b] dp) (some (.Name x pos')) pos.line X.env = pure false := by rfl)
  (hf : X.fn x = true \/ X.env.scope.names.lookup x = some .local := by first | exact .inl rfl | exact .inr rfl | assumption) : PS X (.Assign [.Name x pos'] (.Dict [some a] [b] dp) pos) (tS X.K B (sDNewV i g f)) := ps_imp (ps_set hN hi hx (pe_disp (pps_cons hk hv pps_nil) rfl rfl (by simp) (show 1 <= 15 by omega)) hs hf) (by
 rintro Dn σ H ⟨A, st, r, rs, hr, p⟩
 obtain ⟨k, hk, h2⟩ := R.ok_of hr
 obtain ⟨d, hd, h3⟩ := R.ok_of h2
 obtain ⟨c1, h4⟩ := guardR_of h3
 cases h4
 intro a ha
 have rs' := rs.more (o := .dK []) ha
 refine ⟨a :: A, st, k, rs', hk, fun u H1 s1 r1 => ⟨a :: A, st, d, rs'.mono s1, hd, fun v H2 s2 r2 => ?_⟩⟩
 have e2 : H2 a = some (.dK []) := s2 _ _ (s1 _ _ upd_same)
 obtain ⟨kk, ek, ev⟩ : ∃ kk : Key, keyD kk = k /\ u = kV kk := by
  cases k <;> first | (cases c1; done) | skip
  ·exact ⟨.inl _, rfl, rep_int.mp r1⟩
  ·refine ⟨.inr ⟨_⟩, ?_, rep_str.mp r1⟩
   simp [keyD]
 refine ⟨e2, [(kk, v)], by rw [ev]; rfl, (show 1 <= 15 by omega), ?_⟩
 let G : Hp := fun b => if b = a then none else H2 b
 have hG : ∀ b, b ≠ a -> G b = H2 b := fun b hb => if_neg hb
 have sG : Same H G := fun b o z => by
  have hb : b ≠ a := ne_of_none z ha
  rw [hG b hb]
  exact s2 _ _ (s1 _ _ (by rw [upd_ne hb]; exact z))
 have gN : G a = none := if_pos rfl
 have eG : upd H2 a (.dK (mergeK [] [(kk, v)])) = upd G a (.dK [(kk, v)]) := by
  funext b
  by_cases hb : b = a
  ·subst hb; rw [upd_same, upd_same]; rfl
  ·rw [upd_ne hb, upd_ne hb, hG b hb]
 rw [eG]
 have r3 : Rep X.K (hide (A ++ B) G) d v := by
  have e : hide ((a :: A) ++ B) H2 = hide (A ++ B) G := hide_one (fun b hb => (hG b hb).symm) gN
  rw [<- e]; exact r2
 exact p (a :: A) _ _ ((Le.of sG).trans (le_new gN)) ((rs.mono sG).setO (kk := .d false [k]) i gN (.inl ⟨rfl, [(kk, v)], rfl, by rw [<- ek]; rfl, rfl⟩) (.cons r3 .nil)))
end
end Pu
namespace Pu
open PySem PySem.Spec PyProof.Rows L2
theorem bits_huge {i : Int} (h : i.natAbs < huge) : i.natAbs.log2 < 9000 := by
 rw [huge_eq] at h
 by_cases z : i.natAbs = 0
 ·rw [z]; decide
 ·exact (Nat.log2_lt z).mpr h
theorem mul_huge {i j : Int} (hi : i.natAbs < huge) (hj : j.natAbs < huge) : IntMulOk i j := by
 have a := bits_huge hi
 have b := bits_huge hj
 have c : ∀ x : Int, x.natAbs.log2 < 9000 -> Builtin.Int.intBits x <= 9000 := fun x hx => by
  unfold Builtin.Int.intBits
  split <;> omega
 have c1 := c i a
 have c2 := c j b
 have d : Builtin.Int.intTooBig (Builtin.Int.intBits i + Builtin.Int.intBits j) = false := by
  unfold Builtin.Int.intTooBig
  have : (bitsLine : Nat) = 134217728 := by decide
  exact decide_eq_false (by omega)
 unfold IntMulOk
 rw [d, Bool.and_false]
 exact Bool.false_ne_true
section
variable {X : Cx} {B : List Addr} {a b e : Expr} {f g : Ex} {pos p2 : Pos}
theorem op_mulB : OpR X (binaryOp .Mult) (rI (fun i j => i.natAbs < huge /\ j.natAbs < huge) fun i j => .int (i * j)) := opI fun _ _ _ _ _ _ _ hc q => mul_int q (mul_huge hc.1 hc.2)
theorem op_fdivB : OpR X (binaryOp .FloorDiv) (rI (fun _ j => 0 < j /\ j.natAbs < huge) fun i j => .int (i / j)) := opI fun i j _ _ _ _ _ hc q => by
 have h0 : (0 : Int) < j := hc.1
 exact floordiv_int (Int.ne_of_gt h0) (by rw [Int.fdiv_eq_ediv_of_nonneg i (Int.le_of_lt h0)]; exact q) (.inl (PyProof.noPylong_of_log2 (bits_huge hc.2)))
theorem i_mulB (ha : PE X a (tP X.K B f)) (hb : PE X b (tP X.K B g)) : PE X (.BinOp a .Mult b pos) (tI X.K B (e2 dMulB f g)) := by
 refine i_op (op_mulB.or op_mulS) ?_ ha hb
 intro A H x y d v u Q w rx ry e q
 unfold dMulB at e
 split at e
 ·obtain ⟨c, e⟩ := guardR_of e
  cases e
  exact .inl ⟨_, _, rx.int, ry.int, c, q _ H (Same.refl _) (rep_int.mpr rfl)⟩
 ·obtain ⟨c, e⟩ := guardR_of e
  cases e
  exact .inr ⟨_, _, rx.str, ry.int, c.1, c.2.1, c.2.2, q _ H (Same.refl _) (rep_str.mpr rfl)⟩
 ·cases e
theorem i_fdivB (ha : PE X a (tP X.K B f)) (hb : PE X b (tP X.K B g)) : PE X (.BinOp a .FloorDiv b pos) (tI X.K B (e2 dFdivB f g)) :=
 i_op op_fdivB (sem_rI (g := fun i j => .int (i / j)) (fun _ _ _ => rep_int.mpr rfl) fun x y d e => by
  unfold dFdivB at e
  split at e
  ·obtain ⟨c, e⟩ := guardR_of e; cases e; exact ⟨_, _, rfl, rfl, c, rfl⟩
  ·cases e) ha hb
section
variable {prog : Program} {w : World} {A : Around} {E : Value -> Shared -> Prop} {s : Shared}
end
end
end Pu
namespace Pu
open PySem PySem.Spec PyProof.Rows L2
def tSXF (K : PySem.W.Frag) (B : List Addr) (W : XW) (i : Nat) (b : Bd) : TS := fun Dn σ H => ∃ A st, RS K B A H st σ /\ match b st with
 | .ok (.nx s) => ∃ xs, s[i]? = some (some (.o .l xs)) /\ ∀ A' a vs H', Le A H A' H' -> a ∈ A' -> H' a = some (.lst vs) -> Reps K (hide (A' ++ B) H') xs vs -> Dn.rt (.ref a) H'
 | .exc x => Exc K B A H false st x W
 | _ => False
section
variable {X : Cx} {B : List Addr} {pos : Pos} {sm : Stmt} {rest : List Stmt} {bd bd' : Bd} {W : XW} {s1 : Bool} {i : Nat}
theorem xf_cons (h1 : PS X sm (tSX X.K B s1 W bd)) (h2 : PSs X rest (tSXF X.K B W i bd')) : PSs X (sm :: rest) (tSXF X.K B W i (sSeq bd bd')) := by
 refine pss_imp (pss_cons h1 h2) ?_
 rintro Dn σ H ⟨A, st, rs, q⟩
 refine ⟨A, st, rs, ?_⟩
 unfold sSeq onNx at q
 cases hb : bd st with
 | ok r =>
  rw [hb] at q
  cases r with
  | nx s1 =>
   refine fun A' σ' H' l rs' => ⟨A', s1, rs', ?_⟩
   have q' : (match bd' s1 with
    | .ok (.nx s) => ∃ xs, s[i]? = some (some (.o .l xs)) /\ ∀ A' a vs H', Le A H A' H' -> a ∈ A' -> H' a = some (.lst vs) -> Reps X.K (hide (A' ++ B) H') xs vs -> Dn.rt (.ref a) H'
    | .exc x => Exc X.K B A H false st x W
    | _ => False) := q
   cases hb2 : bd' s1 with
   | ok r2 =>
    rw [hb2] at q'
    cases r2 with
    | nx s2 =>
     obtain ⟨xs, h3, h4⟩ := q'
     exact ⟨xs, h3, fun A2 a vs H2 l2 => h4 A2 a vs H2 (l.trans l2)⟩
    | rt d => exact q'
    | bk s => exact q'
    | ct s => exact q'
   | exc x => rw [hb2] at q'; exact (Exc.mono l q').any
   | bad => rw [hb2] at q'; exact q'
  | rt d => exact q.elim
  | bk s1 => exact q.elim
  | ct s1 => exact q.elim
 | exc x => rw [hb] at q; exact Exc.any q
 | bad => rw [hb] at q; exact q
theorem xf_ret {x : Str} {p1 : Pos} (hN : X.N[i]? = some x := by rfl) (hv : Vis X.env.scope x := by first | exact Or.inl rfl | exact Or.inr (Or.inl rfl) | exact Or.inr (Or.inr rfl)) (hd : (x == ("__debug__" : Str)) = false := by decide) (hcd : (x == ("__classdict__" : Str)) = false := by decide) :
  PSs X [.Return (some (.Name x p1)) pos] (tSXF X.K B W i sNext) := pss_imp (pss_one (ps_ret (pe_var hN hv hd hcd))) (by
 rintro Dn σ H ⟨A, st, rs, xs, hi, q⟩
 obtain ⟨a, o, vs, e1, m, h1, ko, r, _⟩ := rs.lst i .l xs hi
 have eo : o = .lst vs := ko
 subst eo
 exact ⟨.ref a, e1, q A a vs H Le.refl m h1 r⟩)
end
def spEF (K : PySem.W.Frag) (np : Nat) (p : List D -> R D) : Sp := fun vs H Q E => ∃ A ds, Own A H /\ Reps K (hide A H) ds vs /\ ds.length = np /\ (match p ds with
 | .ok d => ∃ xs, d = .lst xs /\ ∀ a ws H', Same H H' -> H a = none -> H' a = some (.lst ws) -> Reps K (hide (a :: A) H') xs ws -> Q (.ref a) H'
 | .exc x => ∀ C c bm H', x = .exn c [] [] -> ExcAt K c C bm -> Same H H' -> E (.ref C) none H'
 | .bad => False)
section
variable {P : Program} {w : World} {K : PySem.W.Frag} {mg : Str -> Option Value} {base : Heap} {x qual : Str} {st : Stmt} {dV : Value} {fa : Addr} {fd : FuncData} {N ps : List Str} {k np n i : Nat} {bd : Bd} {p : List D -> R D}
theorem fn_xf (F : FunD K x qual st dV fa fd) (S : FnScope N ps (defScope st)) (np n i : Nat) (bd : Bd) (hnp : ps.length = np) (hn : N.length = n)
  (hb : ∀ (cdv : Value) (A : Around) (outer : List Env) (s : Shared) (H : Hp) (E : XK) (B : List Addr) (W : XW), Room k (A.deeper (envOfC qual (defScope st) s.heap.objs.size fa cdv)) ->
   LetsD (cxOf (CX1 P w) P w K mg base N qual (defScope st) fa cdv A outer s H E) W -> PSs (cxOf (CX1 P w) P w K mg base N qual (defScope st) fa cdv A outer s H E) (defBody st) (tSXF K B W i bd)) : FnOk P w K mg base (CX1 P w) (k + 1) fa fd ps (spEF K np (runD np n (thenOX bd i))) := by
 obtain ⟨oc, od, kV, doc, pm, an, cdv, ct, osl, rfl, lk, hcd⟩ := F.ex
 refine fn_of lk hcd S (fun vs H Q E h => ?_) fun A outer s H vs Q E hr h => ?_
 ·obtain ⟨A, ds, own, r, hl, _⟩ := h
  rw [r.length, hl, hnp]
 ·obtain ⟨B, ds, own, r, hl, q⟩ := h
  let W : XW := fun x _ H' => ∀ C c bm, x = .exn c [] [] -> ExcAt K c C bm -> E (.ref C) none H'
  refine ⟨tSXF K B W i bd, hb cdv A outer s H E B W hr ?_, ?_⟩
  ·intro pins σ H1 s1 ea C H' s' I h1 h2 h3 h4 h5 ⟨c, bm, hc, hw⟩
   exact lets_def pins σ H1 s1 ea C H' s' I h1 h2 h3 h4 h5 (hw C c bm rfl hc)
  ·have rs := start_rs (N := N) own r
   rw [hl, hn] at rs
   refine ⟨[], _, rs, ?_⟩
   have fin : ∀ {A' : List Addr} {H' : Hp}, Le [] H A' H' -> Same H H' := fun {A' H'} l => by
    unfold Le at l
    rw [hide_nil] at l
    exact l.trans (hide_sub _ _)
   unfold runD at q
   rw [guardR_pos hl] at q
   have no : ∀ {z : R Fl}, thenOX bd i (ds.map (fun d => some (Sl.v d)) ++ List.replicate (n - np) none) = z -> z = .bad -> False := fun e e2 => by
    rw [e, e2] at q
    exact q
   cases hfl : bd (ds.map (fun d => some (Sl.v d)) ++ List.replicate (n - np) none) with
   | ok fl =>
    cases fl with
    | nx s1 =>
     have e : thenOX bd i (ds.map (fun d => some (Sl.v d)) ++ List.replicate (n - np) none) = sRetO i s1 := by unfold thenOX; rw [hfl]
     cases hz : sRetO i s1 with
     | ok fl2 =>
      unfold sRetO at hz
      split at hz
      ·rename_i xs e1
       cases hz
       have e3 : sRetO i s1 = .ok (.rt (.lst xs)) := by unfold sRetO; rw [e1]
       rw [e, e3] at q
       obtain ⟨xs', e2, q3⟩ := q
       cases e2
       refine ⟨xs, e1, fun A' a vs' H' l ha hv rv => ?_⟩
       refine q3 a vs' H' (fin l) ?_ hv (rv.mono (hide_more fun b hb => ?_))
       ·cases hH : H a with
        | none => rfl
        | some o =>
         have z := l a o (by rw [hide_nil]; exact hH)
         rw [hide_in ha] at z; cases z
       ·rcases List.mem_cons.mp hb with rfl | hb
        ·exact List.mem_append_left _ ha
        ·exact List.mem_append_right _ hb
      ·cases hz
     | exc x =>
      unfold sRetO at hz
      split at hz <;> cases hz
     | bad => exact (no e hz).elim
    | rt d' => exact no (z := .bad) (by unfold thenOX; rw [hfl]) rfl
    | bk s1 => exact no (z := .bad) (by unfold thenOX; rw [hfl]) rfl
    | ct s1 => exact no (z := .bad) (by unfold thenOX; rw [hfl]) rfl
   | exc x =>
    have e : thenOX bd i (ds.map (fun d => some (Sl.v d)) ++ List.replicate (n - np) none) = .exc x := by unfold thenOX; rw [hfl]
    rw [e] at q
    exact fun A' st' σ' H' l rs' _ C c bm e hc => q C c bm H' e hc (fin l)
   | bad => exact no (z := .bad) (by unfold thenOX; rw [hfl]) rfl
theorem thenOX_lst {ds : List D} {d : D} (h : runD np n (thenOX bd i) ds = .ok d) : ∃ xs, d = .lst xs := by
 obtain ⟨_, h2⟩ := guardR_of h
 obtain ⟨fl, hfl, h3⟩ := R.ok_of h2
 unfold thenOX at hfl
 split at hfl
 ·unfold sRetO at hfl
  split at hfl
  ·cases hfl; cases h3; exact ⟨_, rfl⟩
  ·cases hfl
 ·cases hfl
 ·cases hfl
theorem spEF_plain (hp : ∀ ds d, p ds = .ok d -> ∃ xs, d = .lst xs) (F : FnOk P w K mg base (CX1 P w) k fa fd ps (spEF K np p)) : FnOk P w K mg base (CX1 P w) k fa fd ps (spE K np p) := by
 have up : ∀ vs H Q E, spE K np p vs H Q E -> spEF K np p vs H Q E := by
  rintro vs H Q E ⟨A, ds, own, r, hl, q⟩
  refine ⟨A, ds, own, r, hl, ?_⟩
  cases he : p ds with
  | ok d =>
   rw [he] at q
   obtain ⟨xs, rfl⟩ := hp ds d he
   exact ⟨xs, rfl, fun a ws H' sm ha hv rv => q _ H' sm (rep_lst.mpr ⟨a, ws, rfl, SqL.of (by rw [hide_out (own.free ha)]; exact hv), rv.mono (hide_more fun b hb => List.mem_cons_of_mem _ hb)⟩)⟩
  | exc x => rw [he] at q; exact q
  | bad => rw [he] at q; exact q
 exact ⟨fun vs H Q E h => F.len vs H Q E (up vs H Q E h), fun A outer s H args us vs Q E hr e0 hb hv h => F.run A outer s H args us vs Q E hr e0 hb hv (up vs H Q E h)⟩
theorem calm_ofF (F : FnOk P w K mg base (CX1 P w) k fa fd ps (spEF K np p)) : FnOk P w K mg base CX0 k fa fd ps (spF K np (pNX p)) := by
 have up : ∀ vs H Q E, spF K np (pNX p) vs H Q E -> spEF K np p vs H Q E0 := by
  rintro vs H Q E ⟨A, ds, xs, own, r, hl, hp, q⟩
  refine ⟨A, ds, own, r, hl, ?_⟩
  rw [R.nox_ok hp]
  exact ⟨xs, rfl, q⟩
 refine ⟨fun vs H Q E h => F.len vs H Q E0 (up vs H Q E h), fun A outer s H args us vs Q E hr e0 hb hv h => ?_⟩
 refine codeAny_mono (F.run A outer s H args us vs Q E0 hr e0 hb hv (up vs H Q E h)) fun r s' z => ?_
 cases r with
 | error e => obtain ⟨_, _, _, _, _, _, _, _, _, hE⟩ := z; exact hE.elim
 | ok fl => cases fl <;> exact z
end
structure DefOkXF (P : Program) (w : World) (K : PySem.W.Frag) (mg : Str -> Option Value) (base : Heap) (x : Str) (k np : Nat) (p : List D -> R D) : Prop where
 ex : ∃ (fa : Addr) (fd : FuncData) (ps : List Str), FnOk P w K mg base (CX1 P w) k fa fd ps (spEF K np p) /\ mg x = some (.ref fa) /\ PySem.W.keepIn K (.ref fa) = true /\ Binds K fd ps []
 len : ∀ ds, p ds ≠ .bad -> ds.length = np
 lst : ∀ ds d, p ds = .ok d -> ∃ xs, d = .lst xs
section
variable {P : Program} {w : World} {K : PySem.W.Frag} {mg : Str -> Option Value} {base : Heap} {x : Str} {k np n i : Nat} {bd : Bd} {fa : Addr} {fd : FuncData} {ps : List Str} {p : List D -> R D}
theorem DefOkXF.of (h : FnOk P w K mg base (CX1 P w) k fa fd ps (spEF K np (runD np n (thenOX bd i)))) (m : mg x = some (.ref fa)) (kp : PySem.W.keepIn K (.ref fa) = true) (b : Binds K fd ps []) : DefOkXF P w K mg base x k np (runD np n (thenOX bd i)) := ⟨⟨fa, fd, ps, h, m, kp, b⟩, runD_len', fun _ _ h => thenOX_lst h⟩
theorem DefOkXF.plain (h : DefOkXF P w K mg base x k np p) : DefOkX P w K mg base x k np p := by
 obtain ⟨fa, fd, ps, F, m, kp, b⟩ := h.ex
 exact ⟨⟨fa, fd, ps, spEF_plain h.lst F, m, kp, b⟩, h.len⟩
theorem DefOkXF.calm (h : DefOkXF P w K mg base x k np p) : DefOkF P w K mg base x k np (pNX p) := by
 obtain ⟨fa, fd, ps, F, m, kp, b⟩ := h.ex
 exact ⟨⟨fa, fd, ps, calm_ofF F, m, kp, b⟩, fun ds d e => h.len ds (by rw [R.nox_ok e]; exact fun z => nomatch z), fun ds d e => h.lst ds d (R.nox_ok e)⟩
end
section
variable {X : Cx} {B : List Addr} {a b c : Expr} {f g h : Ex} {pos : Pos}
theorem i_chain {op op' : CmpOp} {r r' : R2} {o o' : Op2} (ho : OpR X (compareOp op) r) (sem : Sem2 X.K r o) (ho' : OpR X (compareOp op') r') (sem' : Sem2 X.K r' o') (ha : PE X a (tP X.K B f)) (hb : PE X b (tP X.K B g)) (hc : PE X c (tP X.K B h))
  (hm : lastMarks [op, op'] [b, c] = false := by with_unfolding_all rfl) : PE X (.Compare a [op, op'] [b, c] pos) (tI X.K B (eChn o o' f g h)) := by
 refine pe_imp (pe_chain ho ho' ha hb hc hm) ?_
 rintro σ H Q ⟨A, st, d, rs, hd, q⟩
 obtain ⟨x, hx, h2⟩ := R.ok_of hd
 obtain ⟨y, hy, h3⟩ := R.ok_of h2
 obtain ⟨z, hz, h4⟩ := R.ok_of h3
 obtain ⟨k, rfl, h5⟩ := onB_of h4
 refine ⟨A, st, x, rs, hx, fun v H1 s1 r1 => ⟨A, st, y, rs.mono s1, hy, fun u H2 s2 r2 => ?_⟩⟩
 refine sem (A ++ B) H2 x y _ v u _ (rs.own.mono (s1.trans s2)) (r1.mono s2) r2 hz fun w H3 s3 r3 => ⟨k, rep_bl.mp r3, ?_⟩
 cases k with
 | false =>
  rw [if_neg Bool.false_ne_true] at h5 ⊢
  cases h5
  exact q _ H3 (s1.trans (s2.trans s3)) (rep_bl.mpr rfl)
 | true =>
  rw [if_pos rfl] at h5 ⊢
  obtain ⟨z2, hz2, h6⟩ := R.ok_of h5
  refine ⟨A, st, z2, rs.mono (s1.trans (s2.trans s3)), hz2, fun w4 H4 s4 r4 => ?_⟩
  exact sem' (A ++ B) H4 y z2 d u w4 Q (rs.own.mono (s1.trans (s2.trans (s3.trans s4)))) (r2.mono (s3.trans s4)) r4 h6 fun w5 H5 s5 r5 => q w5 H5 (s1.trans (s2.trans (s3.trans (s4.trans s5)))) r5
def rLeS : R2 := fun x y H Q => ∃ s t : List Nat, x = .str ⟨s.toArray⟩ /\ y = .str ⟨t.toArray⟩ /\ Q (.bl (!decide (t < s))) H
theorem op_leS : OpR X (compareOp .LtE) rLeS := by
 intro pins s σ H x y v u Q I rx ry hh
 obtain ⟨z, y', rfl, rfl, q⟩ := hh
 obtain ⟨t, rfl⟩ := rx
 obtain ⟨t', rfl⟩ := ry
 exact le_strP ⟨.bl _, H, I, rfl, q⟩
theorem sem_leS {K : PySem.W.Frag} : Sem2 K rLeS dLeS := by
 intro A H x y d v u Q w rx ry e q
 unfold dLeS at e
 split at e
 ·cases e
  exact ⟨_, _, rx.str, ry.str, q _ H (Same.refl _) (rep_bl.mpr rfl)⟩
 ·cases e
end
end Pu
namespace Pu
open PySem PySem.Spec PyProof.Rows L2
structure VS (K : PySem.W.Frag) (B A : List Addr) (H : Hp) (st : PSt) (σ : LSt) (i : Nat) (P : Addr) (xs : List D) (vs : List V) : Prop where
 rs : RS K (P :: B) A H st σ
 no : st[i]? = some none
 at_ : σ[i]? = some (some (.ref P))
 out : H P = some (.lst vs)
 inn : Reps K (hide (A ++ (P :: B)) H) xs vs
 zb : P ∉ B
def LeV (P : Addr) (A : List Addr) (H : Hp) (A' : List Addr) (H' : Hp) : Prop := Same (hide (P :: A) H) (hide (P :: A') H')
theorem LeV.trans {P : Addr} {A A1 A2 : List Addr} {H H1 H2 : Hp} (a : LeV P A H A1 H1) (b : LeV P A1 H1 A2 H2) : LeV P A H A2 H2 := Same.trans a b
theorem LeV.refl {P : Addr} {A : List Addr} {H : Hp} : LeV P A H A H := Same.refl _
theorem LeV.of {P : Addr} {A A' : List Addr} {H H' : Hp} (l : Le A H A' H') : LeV P A H A' H' := LeN.of (Z := [P]) l
def PostV (K : PySem.W.Frag) (B A : List Addr) (H : Hp) (i : Nat) (P : Addr) (xs : List D) (vs : List V) (r : Fl) (Dn : Ends) : Prop := match r with
 | .nx st => ∀ A' σ' H', LeV P A H A' H' -> VS K B A' H' st σ' i P xs vs -> Dn.nx σ' H'
 | .rt d => ∀ A' v H', LeV P A H A' H' -> Rep K (hide (A' ++ B) H') d v -> Dn.rt v H'
 | _ => False
theorem PostV.mono {K : PySem.W.Frag} {B A A1 : List Addr} {H H1 : Hp} {i : Nat} {P : Addr} {xs : List D} {vs : List V} {r : Fl} {Dn : Ends} (l : LeV P A H A1 H1) (h : PostV K B A H i P xs vs r Dn) : PostV K B A1 H1 i P xs vs r Dn := by
 cases r with
 | nx s => exact fun A' σ' H' l' => h A' σ' H' (l.trans l')
 | rt d => exact fun A' v H' l' => h A' v H' (l.trans l')
 | bk s => exact h
 | ct s => exact h
def tV (K : PySem.W.Frag) (B : List Addr) (i : Nat) (vb : VB) : TS := fun Dn σ H => ∃ A st P xs vs r, VS K B A H st σ i P xs vs /\ vb xs st = .ok r /\ PostV K B A H i P xs vs r Dn
section
variable {K : PySem.W.Frag} {B A A' : List Addr} {H H' : Hp} {st st' : PSt} {σ σ' : LSt} {i : Nat} {P : Addr} {xs : List D} {vs : List V}
theorem VS.step (n : VS K B A H st σ i P xs vs) (l : Le A H A' H') (rs : RS K (P :: B) A' H' st' σ') (no : st'[i]? = some none) (at_ : σ'[i]? = some (some (.ref P))) : VS K B A' H' st' σ' i P xs vs := by
 have hA : P ∉ A := fun z => n.rs.dis P z List.mem_cons_self
 have g : Same (hide (A ++ (P :: B)) H) (hide (A' ++ (P :: B)) H') := fun b o e => by
  have e1 := hide_sub _ _ _ _ e
  have hb : b ∉ A ++ (P :: B) := fun z => by rw [hide_in z] at e; cases e
  have e3 := l b o (by rw [hide_out fun z => hb (List.mem_append_left _ z)]; exact e1)
  have hb' : b ∉ A' := fun z => by rw [hide_in z] at e3; cases e3
  rw [hide_out fun z => (List.mem_append.mp z).elim hb' fun z => hb (List.mem_append_right _ z)]
  exact hide_sub _ _ _ _ e3
 exact ⟨rs, no, at_, hide_sub _ _ _ _ (l P _ (by rw [hide_out hA]; exact n.out)), n.inn.mono g, n.zb⟩
theorem VS.same (n : VS K B A H st σ i P xs vs) (s : Same H H') : VS K B A H' st σ i P xs vs := n.step (Le.of s) (n.rs.mono s) n.no n.at_
theorem VS.out_of (n : VS K B A H st σ i P xs vs) : P ∉ A ++ B := fun z => (List.mem_append.mp z).elim (fun z => n.rs.dis P z List.mem_cons_self) n.zb
theorem VS.sub (_ : VS K B A H st σ i P xs vs) : ∀ a ∈ A ++ B, a ∈ A ++ (P :: B) := fun a h => (List.mem_append.mp h).elim (List.mem_append_left _) fun z => List.mem_append_right _ (List.mem_cons_of_mem _ z)
theorem VS.look (n : VS K B A H st σ i P xs vs) : RS K B A H (lookV i xs st) σ := by
 have rp : Rep K (hide (A ++ B) H) (.lst xs) (.ref P) := rep_lst.mpr ⟨P, _, rfl, SqL.of (by rw [hide_out n.out_of]; exact n.out), n.inn.mono (hide_more n.sub)⟩
 have rs := (RS.less (Z := [P]) n.rs).set i rp
 rw [set_id n.at_] at rs
 exact rs
end
section
variable {X : Cx} {B : List Addr} {a b e o : Expr} {f g : Ex} {pos : Pos} {sm : Stmt} {rest : List Stmt} {i : Nat} {va vb : VB} {bd : Bd}
theorem v_nil : PSs X [] (tV X.K B i vNext) := pss_imp pss_nil (by
 rintro Dn σ H ⟨A, st, P, xs, vs, r, n, hr, q⟩
 cases hr
 exact q A σ H LeV.refl n)
theorem v_one (h : PS X sm (tV X.K B i va)) : PSs X [sm] (tV X.K B i va) := pss_one h
theorem v_cons (h1 : PS X sm (tV X.K B i va)) (h2 : PSs X rest (tV X.K B i vb)) : PSs X (sm :: rest) (tV X.K B i (vSeq va vb)) := pss_imp (pss_cons h1 h2) (by
 rintro Dn σ H ⟨A, st, P, xs, vs, r, n, hr, q⟩
 unfold vSeq onNx at hr
 obtain ⟨r1, h1, h2⟩ := R.ok_of hr
 refine ⟨A, st, P, xs, vs, r1, n, h1, ?_⟩
 cases r1 with
 | nx s => exact fun A' σ' H' l n' => ⟨A', s, P, xs, vs, r, n', h2, q.mono l⟩
 | rt d => cases h2; exact q
 | bk s => cases h2; exact q
 | ct s => cases h2; exact q)
theorem v_if {c : Expr} {t : Ex} {x y : List Stmt} (hc : PT X c (tT X.K B t)) (ha : PSs X x (tV X.K B i va)) (hb : PSs X y (tV X.K B i vb)) : PS X (.If c x y pos) (tV X.K B i (vIf i t va vb)) := by
 intro pins s σ H Dn I ⟨A, st, P, xs, vs, r, n, hr, q⟩
 refine ps_if hc ha hb pins s σ H Dn I ?_
 obtain ⟨d, hd, h3⟩ := R.ok_of hr
 obtain ⟨k, rfl, h4⟩ := onB_of h3
 refine ⟨A, _, k, n.look, hd, fun H1 s1 => ?_⟩
 have lo := LeV.of (P := P) (Le.of (A := A) s1)
 cases k with
 | true => exact ⟨A, st, P, xs, vs, r, n.same s1, h4, q.mono lo⟩
 | false => exact ⟨A, st, P, xs, vs, r, n.same s1, h4, q.mono lo⟩
theorem v_set (j : Nat) {x : Str} {pos' : Pos} (he : ∀ B, PE X e (tI X.K B f)) (hN : X.N.Nodup) (hij : i ≠ j := by decide) (hi : X.N[j]? = some x := by rfl) (hx : Loc X.env.scope x := by first | exact Or.inl rfl | exact Or.inr rfl) (hs : swapsWith e (some (.Name x pos')) pos.line X.env = pure false := by rfl)
  (hf : X.fn x = true \/ X.env.scope.names.lookup x = some .local := by first | exact .inl rfl | exact .inr rfl | assumption) : PS X (.Assign [.Name x pos'] e pos) (tV X.K B i (vSet j f)) := by
 intro pins s σ H Dn I ⟨A, st, P, xs, vs, r, n, hr, q⟩
 refine ps_set hN hi hx (he (P :: B)) hs hf pins s σ H Dn I ?_
 obtain ⟨d, hd, h3⟩ := R.ok_of hr
 cases h3
 refine ⟨A, st, d, n.rs, hd, fun v H1 s1 r1 => q A _ H1 (LeV.of (Le.of s1)) ?_⟩
 exact n.step (Le.of s1) ((n.rs.mono s1).set j r1) (by rw [set_ne hij]; exact n.no) (by rw [set_ne hij]; exact n.at_)
theorem v_setA (j : Nat) {x : Str} {pos' : Pos} (he : PE X e (tI X.K B f)) (hN : X.N.Nodup) (hij : i ≠ j := by decide) (hi : X.N[j]? = some x := by rfl) (hx : Loc X.env.scope x := by first | exact Or.inl rfl | exact Or.inr rfl) (hs : swapsWith e (some (.Name x pos')) pos.line X.env = pure false := by rfl)
  (hf : X.fn x = true \/ X.env.scope.names.lookup x = some .local := by first | exact .inl rfl | exact .inr rfl | assumption) : PS X (.Assign [.Name x pos'] e pos) (tV X.K B i (vSetA i j f)) := by
 intro pins s σ H Dn I ⟨A, st, P, xs, vs, r, n, hr, q⟩
 refine ps_set hN hi hx he hs hf pins s σ H Dn I ?_
 obtain ⟨d, hd, h3⟩ := R.ok_of hr
 obtain ⟨c, h4⟩ := guardR_of h3
 cases h4
 refine ⟨A, _, d, n.look, hd, fun v H1 s1 r1 => q A _ H1 (LeV.of (Le.of s1)) ?_⟩
 exact n.step (Le.of s1) ((n.rs.mono s1).set j ((rep_atom c r1).mono same_no)) (by rw [set_ne hij]; exact n.no) (by rw [set_ne hij]; exact n.at_)
theorem v_ret (he : PE X e (tI X.K B f)) : PS X (.Return (some e) pos) (tV X.K B i (vRetA i f)) := by
 intro pins s σ H Dn I ⟨A, st, P, xs, vs, r, n, hr, q⟩
 refine ps_ret he pins s σ H Dn I ?_
 obtain ⟨d, hd, h3⟩ := R.ok_of hr
 obtain ⟨c, h4⟩ := guardR_of h3
 cases h4
 exact ⟨A, _, d, n.look, hd, fun v H1 s1 r1 => q A v H1 (LeV.of (Le.of s1)) r1⟩
theorem v_list (j : Nat) {x y : Str} {pos' p0 p1 cpos : Pos} (hm : X.mg "list" = none) (hN : X.N.Nodup) (hij : i ≠ j := by decide) (hi : X.N[j]? = some x := by rfl) (hx : Loc X.env.scope x := by first | exact Or.inl rfl | exact Or.inr rfl) (hy : X.N[i]? = some y := by rfl) (hv : Vis X.env.scope y := by first | exact Or.inl rfl | exact Or.inr (Or.inl rfl) | exact Or.inr (Or.inr rfl)) (hd : (y == ("__debug__" : Str)) = false := by decide)
  (hcd : (y == ("__classdict__" : Str)) = false := by decide) (hg : Gl X "list" := by rfl) (hst : starEach [Expr.Name y p1] X.env = (false, eval (.Name y p1) X.env) :: starEach [] X.env := by rfl) (hs : swapsWith (.Call (.Name "list" p0) [.Name y p1] [] cpos) (some (.Name x pos')) pos.line X.env = pure false := by rfl)
  (hf : X.fn x = true \/ X.env.scope.names.lookup x = some .local := by first | exact .inl rfl | exact .inr rfl | assumption) : PS X (.Assign [.Name x pos'] (.Call (.Name "list" p0) [.Name y p1] [] cpos) pos) (tV X.K B i (vList j)) := by
 intro pins s σ H Dn I ⟨A, st, P, xs, vs, r, n, hr, q⟩
 refine ps_set hN hi hx (pe_callTy call_list1 hg hm (by rfl) (pa_cons (pe_var hy hv hd hcd) pa_nil hst) (he := hst)) hs hf pins s σ H Dn I ?_
 cases hr
 refine ⟨.ref P, n.at_, P, vs, rfl, .inl (SqL.of n.out), fun m hm' => q A _ _ (LeV.of (Le.of (same_upd hm'))) ?_⟩
 exact n.step (Le.of (same_upd hm')) ((n.rs.mono (same_upd hm')).set j (rep_new_lst n.rs.own hm' n.inn)) (by rw [set_ne hij]; exact n.no) (by rw [set_ne hij]; exact n.at_)
theorem v_two (j k : Nat) {x y : Str} {p1 p2 p3 : Pos} {m : Nat} (he : PE X e (tI X.K B f)) (hN : X.N.Nodup) (hc : X.calm = true) (hij : i ≠ j := by decide) (hik : i ≠ k := by decide) (hj : X.N[j]? = some x := by rfl) (hk : X.N[k]? = some y := by rfl) (hx : Loc X.env.scope x := by first | exact Or.inl rfl | exact Or.inr rfl) (hy : Loc X.env.scope y := by first | exact Or.inl rfl | exact Or.inr rfl)
  (hfx : X.fn x = true \/ X.env.scope.names.lookup x = some .local := by first | exact .inl rfl | exact .inr rfl | assumption) (hfy : X.fn y = true \/ X.env.scope.names.lookup y = some .local := by first | exact .inl rfl | exact .inr rfl | assumption)
  (hs1 : (assignEach [.Name x p1, .Name y p2] X.env).map (·.2) = assign (.Name x p1) X.env :: (assignEach [.Name y p2] X.env).map (·.2) := by rfl) (hs2 : (assignEach [.Name y p2] X.env).map (·.2) = assign (.Name y p2) X.env :: (assignEach [] X.env).map (·.2) := by rfl)
  (hn : (assignEach [.Name x p1, .Name y p2] X.env).length = 2 := by rfl) (hst : (assignEach [.Name x p1, .Name y p2] X.env).findIdx? (·.1) = none := by rfl)
  (hs : swapsWithSole [.Tuple [.Name x p1, .Name y p2] m p3] e pos.line X.env = pure false := by rfl) (hw : swappedStores [.Tuple [.Name x p1, .Name y p2] m p3] e X.env = pure none := by rfl)
  (h1 : (assignEach [.Tuple [.Name x p1, .Name y p2] m p3] X.env).map (·.2) = [assign (.Tuple [.Name x p1, .Name y p2] m p3) X.env] := by rfl) : PS X (.Assign [.Tuple [.Name x p1, .Name y p2] m p3] e pos) (tV X.K B i (vTwoA i j k f)) := by
 intro pins s σ H Dn I ⟨A, st, P, xs, vs, r, n, hr, q⟩
 refine ps_asg he (pg_tup hc (pgs_cons (pg_name (pos := p1) hN hj hx hfx) (pgs_cons (pg_name (pos := p2) hN hk hy hfy) pgs_nil hs2) hs1) hn hst) hs hw h1 pins s σ H Dn I ?_
 obtain ⟨d, hd, h3⟩ := R.ok_of hr
 have key : ∃ a b, d = .tup [a, b] /\ (atom a = true /\ atom b = true) /\ r = .nx ((st.set j (some (.v a))).set k (some (.v b))) := by
  revert h3
  split
  ·intro h
   obtain ⟨c, h⟩ := guardR_of h
   cases h
   exact ⟨_, _, rfl, c, rfl⟩
  ·intro h; cases h
 obtain ⟨a, b, rfl, ⟨c1, c2⟩, rfl⟩ := key
 refine ⟨A, _, _, n.look, hd, fun v H1 s1 r1 => ?_⟩
 obtain ⟨l, us, rfl, hq, ru⟩ := rep_tup_mp r1
 obtain ⟨u1, r2, rfl, ra, rr⟩ := reps_cons.mp ru
 obtain ⟨u2, r3, rfl, rb, rn⟩ := reps_cons.mp rr
 have := reps_nil.mp rn
 subst this
 refine ⟨l, _, rfl, sqT_mono (hide_sub _ _) hq, rfl, u1, _, rfl, u2, _, rfl, rfl, q A _ H1 (LeV.of (Le.of s1)) ?_⟩
 exact n.step (Le.of s1) (((n.rs.mono s1).set j ((rep_atom c1 ra).mono same_no)).set k ((rep_atom c2 rb).mono same_no)) (by rw [set_ne hik, set_ne hij]; exact n.no) (by rw [set_ne hik, set_ne hij]; exact n.at_)
theorem v_for (j : Nat) {x y : Str} {p1 p2 : Pos} {body : List Stmt} (hb : PSs X body (tV X.K B i vb)) (hp : PassesOwn (model X.prog X.w) X.A X.env X.xe) (hc : X.calm = true) (hN : X.N.Nodup) (hij : i ≠ j := by decide) (hj : X.N[j]? = some x := by rfl) (hx : Loc X.env.scope x := by first | exact Or.inl rfl | exact Or.inr rfl) (hy : X.N[i]? = some y := by rfl) (hv : Vis X.env.scope y := by first | exact Or.inl rfl | exact Or.inr (Or.inl rfl) | exact Or.inr (Or.inr rfl)) (hd : (y == ("__debug__" : Str)) = false := by decide)
  (hcd : (y == ("__classdict__" : Str)) = false := by decide) (hf : X.fn x = true \/ X.env.scope.names.lookup x = some .local := by first | exact .inl rfl | exact .inr rfl | assumption) (hs : ∀ z, foldedSetIterable (.Name y p2) X.env z = pure z := by intro _; rfl) : PS X (.For (.Name x p1) (.Name y p2) body [] pos) (tV X.K B i (vFor j vb)) := by
 intro pins s σ H Dn I ⟨A, st, P, xs, vs, r, n, hr, p⟩
 refine ps_for hp hc (pi_list (pe_var hy hv hd hcd)) (pg_name (i := j) hN hj hx hf) hb hs pins s σ H Dn I ?_
 refine ⟨.ref P, n.at_, P, rfl, ⟨vs, SqL.of n.out⟩, ?_⟩
 refine ⟨fun k m σ' H' => ∃ A' st', m = xs.length - k /\ k <= xs.length /\ VS X.K B A' H' st' σ' i P xs vs /\ vForR j vb xs (xs.drop k) st' = .ok r /\ LeV P A H A' H', ⟨xs.length, A, st, by simp, Nat.zero_le _, n, by rw [List.drop_zero]; exact hr, LeV.refl⟩, ?_⟩
 rintro k m σ' H' ⟨A', st', rfl, hle, n', hf', l⟩
 by_cases hlt : k < xs.length
 ·have hd' : xs[k]? = some xs[k] := List.getElem?_eq_getElem hlt
  obtain ⟨v, hv', rv⟩ := n'.inn.get hd'
  rw [List.drop_eq_getElem_cons hlt] at hf'
  have hf2 : (vb xs (st'.set j (some (.v xs[k])))).bind (fun r' => match r' with | .nx s2 => vForR j vb xs (xs.drop (k + 1)) s2 | .rt v => .ok (.rt v) | _ => .bad) = .ok r := hf'
  obtain ⟨fl, hfl, h6⟩ := R.ok_of hf2
  refine .inr ⟨⟨vs, v, SqL.of n'.out, hv'⟩, fun σ2 H2 => ∃ A2 st2, k + 1 <= xs.length /\ VS X.K B A2 H2 st2 σ2 i P xs vs /\ vForR j vb xs (xs.drop (k + 1)) st2 = .ok r /\ LeV P A H A2 H2, ?_, fun w H2 y => ?_⟩
  ·rintro σ2 H2 ⟨A2, st2, hle2, n2, hf2, l2⟩
   exact ⟨xs.length - (k + 1), by omega, A2, st2, rfl, hle2, n2, hf2, l2⟩
  ·obtain ⟨y1, y2⟩ := y
   subst y1
   have ew := y2 vs (SqL.of n'.out)
   rw [hv'] at ew
   cases ew
   have n3 : VS X.K B A' H2 (st'.set j (some (.v xs[k]))) (σ'.set j (some v)) i P xs vs := n'.step Le.refl (n'.rs.set j rv) (by rw [set_ne hij]; exact n'.no) (by rw [set_ne hij]; exact n'.at_)
   refine ⟨A', _, P, xs, vs, fl, n3, hfl, ?_⟩
   cases fl with
   | nx s4 => exact fun A4 σ4 H4 l4 n4 => ⟨A4, s4, hlt, n4, h6, l.trans l4⟩
   | rt d => cases h6; exact p.mono l
   | bk s4 => cases h6
   | ct s4 => cases h6
 ·have e : k = xs.length := by omega
  subst e
  rw [List.drop_length] at hf'
  cases hf'
  exact .inl ⟨⟨vs, SqL.of n'.out, by rw [n'.inn.length]; exact Nat.le_refl _⟩, p A' σ' H' l n'⟩
theorem v_gone {x : Str} {p1 apos cpos : Pos} (h : PSs X rest (tS X.K B bd)) (hN : X.N[i]? = some x := by rfl) (hv : Vis X.env.scope x := by first | exact Or.inl rfl | exact Or.inr (Or.inl rfl) | exact Or.inr (Or.inr rfl)) (hd : (x == ("__debug__" : Str)) = false := by decide)
  (hcd : (x == ("__classdict__" : Str)) = false := by decide) (hbase : attributeBase (.Name x p1) "clear" X.env (eval (.Name x p1) X.env) = eval (.Name x p1) X.env := by rfl) (hline : (apos.endLine == cpos.line) = true := by rfl)
  (hsw : swapsWith (.Call (.Attribute (.Name x p1) "clear" apos) [] [] cpos) none pos.line X.env = pure false := by rfl) :
  PSs X (.Expr (.Call (.Attribute (.Name x p1) "clear" apos) [] [] cpos) pos :: rest) (tV X.K B i (vGone bd)) := by
 intro pins s σ H Dn I ⟨A, st, P, xs, vs, r, n, hr, q⟩
 refine pss_cons (ps_expr (pe_bm0 PySem.F.plainAttrs_list PySem.F.slot_list_clear PySem.F.type_list_clear mt_clear (pe_var hN hv hd hcd) hbase hline) hsw) h pins s σ H Dn I ?_
 obtain ⟨fl, hfl, h3⟩ := R.ok_of hr
 refine ⟨.ref P, n.at_, .inl ⟨rfl, _, SqL.of n.out⟩, P, _, rfl, rfl, n.out, ?_⟩
 have rs := RS.shift (Z := [P]) (n.rs.putB (u := .lst []) List.mem_cons_self) fun z hz => by rw [List.mem_singleton.mp hz]; exact n.zb
 cases fl with
 | rt d =>
  cases h3
  refine ⟨P :: A, st, .rt d, rs, hfl, fun A' v H' l rv => q A' v H' (fun b u z => ?_) rv⟩
  have z1 := hide_sub _ _ _ _ z
  have hb : b ∉ P :: A := fun w => by rw [hide_in w] at z; cases z
  have ne : b ≠ P := fun w => hb (by rw [w]; exact List.mem_cons_self)
  have z2 := l b u (by rw [hide_out hb, upd_ne ne]; exact z1)
  have z3 := hide_sub _ _ _ _ z2
  have hb' : b ∉ A' := fun w => by rw [hide_in w] at z2; cases z2
  rw [hide_out fun w => (List.mem_cons.mp w).elim ne hb']
  exact z3
 | nx s => cases h3
 | bk s => cases h3
 | ct s => cases h3
theorem s_openV {x : Str} {pos' : Pos} (he : PE X e (tF X.K B f)) (hr : PSs X rest (tV X.K B i vb)) (hN : X.N.Nodup) (hi : X.N[i]? = some x := by rfl) (hx : Loc X.env.scope x := by first | exact Or.inl rfl | exact Or.inr rfl) (hs : swapsWith e (some (.Name x pos')) pos.line X.env = pure false := by rfl)
  (hf : X.fn x = true \/ X.env.scope.names.lookup x = some .local := by first | exact .inl rfl | exact .inr rfl | assumption) : PSs X (.Assign [.Name x pos'] e pos :: rest) (tS X.K B (sOpenV i f vb)) := by
 rintro pins s σ H Dn I ⟨A, st, r, rs, hr', p⟩
 refine pss_cons (ps_set hN hi hx he hs hf) hr pins s σ H Dn I ?_
 obtain ⟨d, hd, h1⟩ := R.ok_of hr'
 cases d <;> first | (cases h1; done) | skip
 rename_i xs
 obtain ⟨fl, h2, h3⟩ := R.ok_of h1
 refine ⟨A, st, xs, rs, hd, fun P vs H' sm hn q => ?_⟩
 have hlen : i < σ.length := by
  rw [I.len]
  exact (List.getElem?_eq_some_iff.mp hi).1
 have sU : Same H (upd H' P (.lst vs)) := sm.trans (same_upd hn)
 have fr : ∀ z ∈ [P], H z = none := fun z hz => by rw [List.mem_singleton.mp hz]; exact same_none sm hn
 have g4 := (RS.growS (Z := [P]) rs sU fr fun z hz => by rw [List.mem_singleton.mp hz, upd_same]; rfl).forget i (some (.ref P))
 have zb : P ∉ B := fun z => by
  have := rs.own P (List.mem_append_right _ z)
  rw [same_none sm hn] at this; cases this
 have N0 : VS X.K B A (upd H' P (.lst vs)) (st.set i none) (σ.set i (some (.ref P))) i P xs vs := by
  refine ⟨g4, ?_, ?_, upd_same, q.mono fun b o e => ?_, zb⟩
  ·rw [List.getElem?_set, if_pos rfl, if_pos (by rw [rs.len]; exact hlen)]
  ·rw [List.getElem?_set, if_pos rfl, if_pos hlen]
  ·have e1 := hide_sub _ _ _ _ e
   have hb : b ∉ A ++ B := fun z => by rw [hide_in z] at e; cases e
   have ne : b ≠ P := ne_of_none e1 hn
   rw [hide_out fun z => (List.mem_append.mp z).elim (fun z => hb (List.mem_append_left _ z)) fun z => (List.mem_cons.mp z).elim ne fun z => hb (List.mem_append_right _ z), upd_ne ne]
   exact e1
 refine ⟨A, _, P, xs, vs, fl, N0, h2, ?_⟩
 cases fl with
 | rt d =>
  cases h3
  intro A' v H2 l rv
  refine p A' v H2 (fun b o e => ?_) rv
  have e1 := hide_sub _ _ _ _ e
  have hb : b ∉ A := fun z => by rw [hide_in z] at e; cases e
  have ne : b ≠ P := ne_of_none e1 (same_none sm hn)
  have e2 := l b o (by rw [hide_out fun z => (List.mem_cons.mp z).elim ne hb]; exact sU _ _ e1)
  have hb' : b ∉ P :: A' := fun z => by rw [hide_in z] at e2; cases e2
  rw [hide_out fun z => hb' (List.mem_cons_of_mem _ z)]
  exact hide_sub _ _ _ _ e2
 | nx s => cases h3
 | bk s => cases h3
 | ct s => cases h3
end
end Pu
namespace Pu
open PySem PySem.Spec PyProof.Rows L2
open Builtin
section
variable {prog : Program} {w : World} {A : Around} {E : Value -> Shared -> Prop} {s : Shared}
variable {z TI TO i1 i2 l : Addr} {n n2 k1 k2 : Nat} {P P2 : Nat -> Value -> Prop} {St St2 : Nat -> Heap -> Prop} {a b : Value}
theorem zapart_new2 (n : Nat) : ZApart (n + 4) (n + 2) (n + 3) n (n + 1) (n + 5) [n] := by
 have ne : ∀ a b : Nat, a ≠ b -> (a : Addr) ≠ b := fun _ _ h => h
 have nm : ∀ a b : Nat, a ≠ b -> (a : Addr) ∉ [(b : Addr)] := fun a b h z => h (List.mem_singleton.mp z)
 exact ⟨ne _ _ (by omega), ne _ _ (by omega), ne _ _ (by omega), ne _ _ (by omega), ne _ _ (by omega), ne _ _ (by omega), ne _ _ (by omega), ne _ _ (by omega), ne _ _ (by omega), ne _ _ (by omega), ne _ _ (by omega), ne _ _ (by omega), ne _ _ (by omega), ne _ _ (by omega), nm _ _ (by omega), nm _ _ (by omega), nm _ _ (by omega)⟩
theorem zip_item2 (D1 : Draws prog w A i1 [i1] n P St) (D2 : Draws prog w A i2 [i2] n2 P2 St2) (D : ZApart z TI TO i1 i2 l [i1])
  (hz : IsZip s.heap z TI TO .none) (hTI : IsPair s.heap TI (.ref i1) (.ref i2)) (hTO : IsPair s.heap TO a b)
  (h1 : St k1 s.heap) (hk1 : k1 < n) (h2 : St2 k2 s.heap) (hk2 : k2 < n2) {Q : Value -> Shared -> Prop}
  (hQ : ∀ h' tk x y, P k1 x -> P2 k2 y -> IsZip h' z TI TO (rawInt s.heap.objs.size) -> IsPair h' TO x y -> St (k1 + 1) h' -> St2 (k2 + 1) h' -> IsPair h' s.heap.objs.size x y -> h'.objs.size = s.heap.objs.size + 1 ->
   (∀ c o, c ≠ z -> c ≠ TO -> c ≠ i1 -> c ≠ i2 -> s.heap.get? c = some o -> h'.get? c = some o) -> Q (.ref s.heap.objs.size) { s with heap := h', toks := tk }) :
  wpAny (model prog w) A (Builtin.«zip.__next__» ⟨[.ref z], []⟩) (fun fin s' => ∃ v, fin = .done (.ret v) /\ Q v s') E s := by
 show wpAny _ _ (field (.ref z) 2 >>= _) _ _ _
 refine wpAny_bind (wpAny_field hz rfl (x := .bool false) rfl ?_)
 show wpAny _ _ (field (.ref z) 3 >>= _) _ _ _
 refine wpAny_bind (wpAny_field hz rfl (x := .ref TI) rfl ?_)
 refine wpAny_bind (wpAny_seqItems hTI rfl ?_)
 show wpAny _ _ (Builtin.SmallTypes.ownedTupleIsFree (.ref z) >>= _) _ _ _
 refine wpAny_bind ?_
 unfold Builtin.SmallTypes.ownedTupleIsFree
 refine wpAny_bind (wpAny_field hz rfl (x := .none) rfl (wpAny_pure ?_))
 simp only [if_true]
 refine wpAny_bind (wpAny_rule ?_)
 refine wpAny_bind (wpAny_field hz rfl (x := .ref TO) rfl ?_)
 refine wpAny_bind (wpAny_setField_rec hz (by simp) fun h₁ hz₁ hs₁ => ?_)
 replace hz₁ : IsZip h₁ z TI TO .ellipsis := hz₁
 refine wpAny_bind ?_
 simp only [List.zipIdx_cons, List.zipIdx_nil, List.forIn_cons, List.forIn_nil]
 refine wpAny_bind (wpAny_bind (wpAny_onRaise ?_))
 show wpAny _ _ (Builtin.SmallTypes.nextOf (.ref i1) >>= _) _ _ _
 refine wpAny_bind (D1.item k1 { s with heap := h₁ } _ _ hk1 (D1.frame k1 s.heap h₁ h1 fun b hb o e => hs₁.extBut _ _ (fun x => D.zf (x ▸ hb)) e) fun x h₂ tk hP h1₂ hs₂ => wpAny_pure ?_)
 have hs₂ : Heap.SameBut i1 h₁ h₂ := hs₂
 have hTO₂ : IsPair h₂ TO a b := hs₂.extBut _ _ D.TOi1 (hs₁.extBut _ _ D.TOz hTO)
 refine wpAny_bind (wpAny_seqItems hTO₂ rfl ?_)
 refine wpAny_bind (wpAny_updateSeq_pair hTO₂ fun h₃ hTO₃ hs₃ => ?_)
 replace hTO₃ : IsPair h₃ TO x b := hTO₃
 refine wpAny_bind (wpAny_letGo (wpAny_pure ?_))
 refine wpAny_bind (wpAny_bind (wpAny_onRaise ?_))
 show wpAny _ _ (Builtin.SmallTypes.nextOf (.ref i2) >>= _) _ _ _
 have f2 : St2 k2 h₃ := D2.frame k2 s.heap h₃ h2 fun b hb o e => by
  have eb := List.mem_singleton.mp hb
  exact hs₃.extBut _ _ (by rw [eb]; exact D.TOi2.symm) (hs₂.extBut _ _ (by rw [eb]; exact D.i12.symm) (hs₁.extBut _ _ (by rw [eb]; exact D.i2z) e))
 refine wpAny_bind (D2.item k2 { s with heap := h₃, toks := tk } _ _ hk2 f2 fun y h₄ tk2 hP2 h2₄ hs₄ => wpAny_pure ?_)
 have hTO₄ : IsPair h₄ TO x b := hs₄.extBut _ _ D.TOi2 hTO₃
 refine wpAny_bind (wpAny_seqItems hTO₄ rfl ?_)
 refine wpAny_bind (wpAny_updateSeq_pair hTO₄ fun h₅ hTO₅ hs₅ => ?_)
 replace hTO₅ : IsPair h₅ TO x y := hTO₅
 refine wpAny_bind (wpAny_letGo (wpAny_pure (wpAny_pure ?_)))
 refine wpAny_bind (wpAny_seqItems hTO₅ rfl ?_)
 refine wpAny_bind (wpAny_newTuple ?_)
 have hs₃' : Heap.SameBut TO h₂ h₃ := hs₃
 have hs₄' : Heap.SameBut i2 h₃ h₄ := hs₄
 have hs₅' : Heap.SameBut TO h₄ h₅ := hs₅
 have hsz : h₅.objs.size = s.heap.objs.size := by rw [hs₅'.1, hs₄'.1, hs₃'.1, hs₂.1, hs₁.1]
 have hz₅ : IsZip h₅ z TI TO .ellipsis := hs₅'.extBut _ _ D.TOz.symm (hs₄'.extBut _ _ D.i2z.symm (hs₃'.extBut _ _ D.TOz.symm (hs₂.extBut _ _ D.i1z.symm hz₁)))
 have hk₅ : ∀ c o, c ≠ z -> c ≠ TO -> c ≠ i1 -> c ≠ i2 -> s.heap.get? c = some o -> h₅.get? c = some o := fun c o c1 c2 c3 c4 e =>
  hs₅'.extBut _ _ c2 (hs₄'.extBut _ _ c4 (hs₃'.extBut _ _ c2 (hs₂.extBut _ _ c3 (hs₁.extBut _ _ c1 e))))
 have h1₅ : St (k1 + 1) h₅ := D1.frame _ h₂ h₅ h1₂ fun b hb o e => hs₅'.extBut _ _ (fun x => D.Tf (x ▸ hb)) (hs₄'.extBut _ _ (fun x => D.i2f (x ▸ hb)) (hs₃'.extBut _ _ (fun x => D.Tf (x ▸ hb)) e))
 have h2₅ : St2 (k2 + 1) h₅ := D2.frame _ h₄ h₅ h2₄ fun b hb o e => hs₅'.extBut _ _ (by rw [List.mem_singleton.mp hb]; exact D.TOi2.symm) e
 have hzlt : z < h₅.objs.size := Heap.lt_size hz₅
 show wpAny _ _ (Builtin.SmallTypes.ownedTupleHandOut (.ref z) (.ref h₅.objs.size) >>= _) _ _ _
 refine wpAny_bind ?_
 unfold Builtin.SmallTypes.ownedTupleHandOut
 have hz₆ : IsZip (h₅.push { cls := .type "tuple", data := .seq #[x, y] }) z TI TO .ellipsis := Heap.get?_push_of_some _ hz₅
 refine wpAny_bind (wpAny_setField_rec hz₆ (by simp) fun h₇ hz₇ hs₇ => ?_)
 replace hz₇ : IsZip h₇ z TI TO (rawInt h₅.objs.size) := hz₇
 refine wpAny_setField_rec hz₇ (by simp) fun h₈ hz₈ hs₈ => ?_
 replace hz₈ : IsZip h₈ z TI TO (rawInt h₅.objs.size) := hz₈
 have up : ∀ c o, c ≠ z -> h₅.get? c = some o -> h₈.get? c = some o := fun c o c1 e => hs₈.extBut _ _ c1 (hs₇.extBut _ _ c1 (Heap.get?_push_of_some _ e))
 have hT₈ : IsPair h₈ h₅.objs.size x y := hs₈.extBut _ _ (Nat.ne_of_gt hzlt) (hs₇.extBut _ _ (Nat.ne_of_gt hzlt) (Heap.get?_push_size _ rfl))
 have hz8 : h₈.objs.size = h₅.objs.size + 1 := by rw [hs₈.1, hs₇.1, Heap.size_push]
 rw [hsz] at hz₈ hT₈ hz8
 refine wpAny_pure ⟨_, rfl, ?_⟩
 show Q (.ref h₅.objs.size) _
 rw [hsz]
 exact hQ h₈ _ x y hP hP2 hz₈ (up _ _ D.TOz hTO₅) (D1.frame _ h₅ h₈ h1₅ fun b hb o e => up b o (fun x => D.zf (x ▸ hb)) e) (D2.frame _ h₅ h₈ h2₅ fun b hb o e => up b o (by rw [List.mem_singleton.mp hb]; exact D.i2z) e) hT₈ hz8 fun c o c1 c2 c3 c4 e => up c o c1 (hk₅ c o c1 c2 c3 c4 e)
theorem zip_end2 (D1 : Draws prog w A i1 [i1] n P St) (D : ZApart z TI TO i1 i2 l [i1]) (F2 : ∀ h h', St2 k2 h -> (∀ o, h.get? i2 = some o -> h'.get? i2 = some o) -> St2 k2 h')
  (hz : IsZip s.heap z TI TO .none) (hTI : IsPair s.heap TI (.ref i1) (.ref i2)) (hTO : IsPair s.heap TO a b)
  (h1 : St k1 s.heap) (h2 : St2 k2 s.heap)
  (hend : (∀ (s : Shared) (Q : Value -> Shared -> Prop) (E : Value -> Shared -> Prop), St k1 s.heap -> (∀ h' e, Heap.ExtBut i1 s.heap h' -> (∃ o, h'.get? e = some o /\ o.cls = .type "StopIteration") -> E (.ref e) { s with heap := h' }) -> wpAny (model prog w) A (Builtin.SmallTypes.nextOf (.ref i1)) Q E s) \/ (k1 < n /\ ∀ (s : Shared) (Q : Value -> Shared -> Prop) (E : Value -> Shared -> Prop), St2 k2 s.heap -> (∀ h' e, Heap.ExtBut i2 s.heap h' -> (∃ o, h'.get? e = some o /\ o.cls = .type "StopIteration") -> E (.ref e) { s with heap := h' }) -> wpAny (model prog w) A (Builtin.SmallTypes.nextOf (.ref i2)) Q E s)) {Q : Fin -> Shared -> Prop}
  (hE : ∀ h' e tk, (∀ c o, c ≠ z -> c ≠ TO -> c ≠ i1 -> c ≠ i2 -> s.heap.get? c = some o -> h'.get? c = some o) -> (∃ o, h'.get? e = some o /\ o.cls = .type "StopIteration") -> E (.ref e) { s with heap := h', toks := tk }) :
  wpAny (model prog w) A (Builtin.«zip.__next__» ⟨[.ref z], []⟩) Q E s := by
 show wpAny _ _ (field (.ref z) 2 >>= _) _ _ _
 refine wpAny_bind (wpAny_field hz rfl (x := .bool false) rfl ?_)
 show wpAny _ _ (field (.ref z) 3 >>= _) _ _ _
 refine wpAny_bind (wpAny_field hz rfl (x := .ref TI) rfl ?_)
 refine wpAny_bind (wpAny_seqItems hTI rfl ?_)
 show wpAny _ _ (Builtin.SmallTypes.ownedTupleIsFree (.ref z) >>= _) _ _ _
 refine wpAny_bind ?_
 unfold Builtin.SmallTypes.ownedTupleIsFree
 refine wpAny_bind (wpAny_field hz rfl (x := .none) rfl (wpAny_pure ?_))
 simp only [if_true]
 refine wpAny_bind (wpAny_rule ?_)
 refine wpAny_bind (wpAny_field hz rfl (x := .ref TO) rfl ?_)
 refine wpAny_bind (wpAny_setField_rec hz (by simp) fun h₁ hz₁ hs₁ => ?_)
 replace hz₁ : IsZip h₁ z TI TO .ellipsis := hz₁
 refine wpAny_bind ?_
 simp only [List.zipIdx_cons, List.zipIdx_nil, List.forIn_cons, List.forIn_nil]
 refine wpAny_bind (wpAny_bind (wpAny_onRaise ?_))
 show wpAny _ _ (Builtin.SmallTypes.nextOf (.ref i1) >>= _) _ _ _
 have fr1 : St k1 h₁ := D1.frame k1 s.heap h₁ h1 fun b hb o e => hs₁.extBut _ _ (fun x => D.zf (x ▸ hb)) e
 rcases hend with hend | ⟨hkn, hy⟩
 ·refine wpAny_bind (hend { s with heap := h₁ } _ _ fr1 fun h₂ e hs₂ he => ?_)
  have hs₂ : Heap.ExtBut i1 h₁ h₂ := hs₂
  obtain ⟨oe, hoe, hce⟩ := he
  have hz₂ : IsZip h₂ z TI TO .ellipsis := hs₂ _ _ D.i1z.symm hz₁
  have hez : e ≠ z := fun x => by subst x; rw [hz₂] at hoe; cases hoe; simp at hce
  refine wpAny_setField_rec hz₂ (by simp) fun h₃ _ hs₃ => hE h₃ e _ (fun c o c1 _ c3 _ x => hs₃.extBut _ _ c1 (hs₂ _ _ c3 (hs₁.extBut _ _ c1 x))) ⟨oe, hs₃.extBut _ _ hez hoe, hce⟩
 ·refine wpAny_bind (D1.item k1 { s with heap := h₁ } _ _ hkn fr1 fun x h₂ tk hP h1₂ hs₂ => wpAny_pure ?_)
  have hs₂ : Heap.SameBut i1 h₁ h₂ := hs₂
  have hTO₂ : IsPair h₂ TO a b := hs₂.extBut _ _ D.TOi1 (hs₁.extBut _ _ D.TOz hTO)
  refine wpAny_bind (wpAny_seqItems hTO₂ rfl ?_)
  refine wpAny_bind (wpAny_updateSeq_pair hTO₂ fun h₃ hTO₃ hs₃ => ?_)
  have hs₃' : Heap.SameBut TO h₂ h₃ := hs₃
  refine wpAny_bind (wpAny_letGo (wpAny_pure ?_))
  refine wpAny_bind (wpAny_bind (wpAny_onRaise ?_))
  show wpAny _ _ (Builtin.SmallTypes.nextOf (.ref i2) >>= _) _ _ _
  have f2 : St2 k2 h₃ := F2 s.heap h₃ h2 fun o e => hs₃'.extBut _ _ D.TOi2.symm (hs₂.extBut _ _ D.i12.symm (hs₁.extBut _ _ D.i2z e))
  refine wpAny_bind (hy { s with heap := h₃, toks := tk } _ _ f2 fun h₄ e hs₄ he => ?_)
  have hs₄ : Heap.ExtBut i2 h₃ h₄ := hs₄
  obtain ⟨oe, hoe, hce⟩ := he
  have hz₄ : IsZip h₄ z TI TO .ellipsis := hs₄ _ _ D.i2z.symm (hs₃'.extBut _ _ D.TOz.symm (hs₂.extBut _ _ D.i1z.symm hz₁))
  have hez : e ≠ z := fun x => by subst x; rw [hz₄] at hoe; cases hoe; simp at hce
  refine wpAny_setField_rec hz₄ (by simp) fun h₅ _ hs₅ => hE h₅ e _ (fun c o c1 c2 c3 c4 x => hs₅.extBut _ _ c1 (hs₄ _ _ c4 (hs₃'.extBut _ _ c2 (hs₂.extBut _ _ c3 (hs₁.extBut _ _ c1 x))))) ⟨oe, hs₅.extBut _ _ hez hoe, hce⟩
end
section
variable {prog : Program} {w : World} {A : Around} {E : Value -> Shared -> Prop} {s : Shared}
abbrev yH2 (h : Heap) (x : Str) (t : Tok) (y : Str) (u : Tok) : Heap := (zH1 h x t).push { cls := .type (strIterType y), data := .fields #[.str y u, .int 0 0] }
abbrev yH3 (h : Heap) (x : Str) (t : Tok) (y : Str) (u : Tok) : Heap := (yH2 h x t y u).push { cls := .type "tuple", data := .seq #[.ref h.objs.size, .ref (zH1 h x t).objs.size] }
abbrev yH4 (h : Heap) (x : Str) (t : Tok) (y : Str) (u : Tok) : Heap := (yH3 h x t y u).push { cls := .type "tuple", data := .seq #[.none, .none] }
abbrev yH5 (h : Heap) (x : Str) (t : Tok) (y : Str) (u : Tok) : Heap := (yH4 h x t y u).push { cls := .type "zip", data := .fields #[.none, .bool false, .bool false, .ref (yH2 h x t y u).objs.size, .ref (yH3 h x t y u).objs.size] }
theorem meets_zipS (x : Str) (t : Tok) (y : Str) (u : Tok) :
  Meets (Builtin.«zip.__new__» ⟨[.type "zip", .str x t, .str y u], []⟩) (fun _ R s => R (.ok (.ret (.ref (yH4 s.heap x t y u).objs.size))) { s with heap := yH5 s.heap x t y u }) :=
 .of_wp fun prog w A R s h => by
  obtain ⟨hp, g, d, tk, os⟩ := s
  have hsub := sub_zip
  wp_walk using wpAny_pyIter_strU
  exact ⟨_, rfl, h⟩
theorem call_zipS {x : Str} {t : Tok} {y : Str} {u : Tok} {Q : Value -> Shared -> Prop}
  (h : ∀ h', IsZip h' (s.heap.objs.size + 4) (s.heap.objs.size + 2) (s.heap.objs.size + 3) .none -> IsPair h' (s.heap.objs.size + 2) (.ref s.heap.objs.size) (.ref (s.heap.objs.size + 1)) ->
   IsPair h' (s.heap.objs.size + 3) .none .none -> h'.IsStrIter s.heap.objs.size (strIterType x) x t 0 -> h'.IsStrIter (s.heap.objs.size + 1) (strIterType y) y u 0 -> h'.objs.size = s.heap.objs.size + 5 ->
   (∀ c o, s.heap.get? c = some o -> h'.get? c = some o) -> Q (.ref (s.heap.objs.size + 4)) { s with heap := h' }) :
  wpAny (model prog w) A (call (.type "zip") [.str x t, .str y u]) Q E s := by
 refine callType_new PySem.F.called_zip (by decide) (PySem.F.typeCall_zip_2 _ _) (PySem.F.newCall_zip_2 _ _) (fun obj => PySem.F.args_object_init_3 obj _ _) PySem.F.entry_zip_new
  (meets_zipS x t y u) ?_
 have z1 : (zH1 s.heap x t).objs.size = s.heap.objs.size + 1 := Heap.size_push ..
 have z2 : (yH2 s.heap x t y u).objs.size = s.heap.objs.size + 2 := by rw [Heap.size_push, z1]
 have z3 : (yH3 s.heap x t y u).objs.size = s.heap.objs.size + 3 := by rw [Heap.size_push, z2]
 have z4 : (yH4 s.heap x t y u).objs.size = s.heap.objs.size + 4 := by rw [Heap.size_push, z3]
 have z5 : (yH5 s.heap x t y u).objs.size = s.heap.objs.size + 5 := by rw [Heap.size_push, z4]
 have g5 : (yH5 s.heap x t y u).get? (yH4 s.heap x t y u).objs.size = some _ := Heap.get?_push_size _ rfl
 have g4 : (yH5 s.heap x t y u).get? (yH3 s.heap x t y u).objs.size = some _ := Heap.get?_push_of_some _ (Heap.get?_push_size _ rfl)
 have g3 : (yH5 s.heap x t y u).get? (yH2 s.heap x t y u).objs.size = some _ := Heap.get?_push_of_some _ (Heap.get?_push_of_some _ (Heap.get?_push_size _ rfl))
 have g2 : (yH5 s.heap x t y u).get? (zH1 s.heap x t).objs.size = some _ := Heap.get?_push_of_some _ (Heap.get?_push_of_some _ (Heap.get?_push_of_some _ (Heap.get?_push_size _ rfl)))
 have g1 : (yH5 s.heap x t y u).get? s.heap.objs.size = some _ := Heap.get?_push_of_some _ (Heap.get?_push_of_some _ (Heap.get?_push_of_some _ (Heap.get?_push_of_some _ (Heap.get?_push_size _ rfl))))
 show _ /\ _
 rw [z2, z3, z4] at g5
 rw [z1, z2] at g3
 rw [z3] at g4
 rw [z1] at g2
 rw [z4]
 exact ⟨⟨_, g5, rfl⟩, h _ g5 g3 g4 ⟨_, g1, rfl, rfl⟩ ⟨_, g2, rfl, rfl⟩ z5 fun c o x =>
  Heap.get?_push_of_some _ (Heap.get?_push_of_some _ (Heap.get?_push_of_some _ (Heap.get?_push_of_some _ (Heap.get?_push_of_some _ x))))⟩
end
def Itzs (z y : List Nat) : It :=
 ⟨fun i _ => i < z.length /\ i < y.length, fun i H x H' => ∃ T c d, x = V.ref T /\ H T = none /\ z[i]? = some c /\ y[i]? = some d /\ H' = upd H T (.tup [.str ⟨#[c]⟩, .str ⟨#[d]⟩]), fun i _ => z.length <= i \/ y.length <= i⟩
theorem turn_zipS {P : Program} {w : World} {K : PySem.W.Frag} {elts : List Expr} {x1} {tp : Pos} {zs ys : List Nat} {t t2 : Tok} {n m : String} (hn : n = "str_ascii_iterator" \/ n = "str_iterator") (hm : m = "str_ascii_iterator" \/ m = "str_iterator") (a z TI TO i1 i2 : Addr) (D : ZApart z TI TO i1 i2 a [i1]) :
  Turn P w K (.Tuple elts x1 tp) (Itzs zs ys) [z, TI, TO, i1, i2] z (fun i h => IsZip h z TI TO .none /\ IsPair h TI (.ref i1) (.ref i2) /\ (∃ u v, IsPair h TO u v) /\ h.IsStrIter i1 n ⟨zs.toArray⟩ t i /\ h.IsStrIter i2 m ⟨ys.toArray⟩ t2 i) where
 mem := by simp
 obj := fun i h st b hb => by
  obtain ⟨hz, hTI, ⟨u, v, hTO⟩, ⟨o1, q1, c1, d1⟩, ⟨o2, q2, c2, d2⟩⟩ := st
  simp only [List.mem_cons, List.not_mem_nil, or_false] at hb
  rcases hb with rfl | rfl | rfl | rfl | rfl
  ·exact ⟨_, hz, fun v z => by cases z⟩
  ·exact ⟨_, hTI, fun v z => by cases z⟩
  ·exact ⟨_, hTO, fun v z => by cases z⟩
  ·exact ⟨o1, q1, fun v z => by rw [d1] at z; cases z⟩
  ·exact ⟨o2, q2, fun v z => by rw [d2] at z; cases z⟩
 keep := fun i h h' st k => by
  obtain ⟨hz, hTI, ⟨u, v, hTO⟩, ⟨o1, q1, r1⟩, ⟨o2, q2, r2⟩⟩ := st
  exact ⟨k z (by simp) _ hz, k TI (by simp) _ hTI, ⟨u, v, k TO (by simp) _ hTO⟩, ⟨o1, k i1 (by simp) _ q1, r1⟩, ⟨o2, k i2 (by simp) _ q2, r2⟩⟩
 item := by
  intro X hP hw hK hc i pins s σ H E I hf st hg
  subst hP hw hK
  obtain ⟨hz, hTI, ⟨u0, v0, hTO⟩, h1, h2⟩ := st
  obtain ⟨hi, hi2⟩ := hg
  have fo : ∀ b ∈ [z, TI, TO, i1, i2], H b = none := fun b hb => (hf b hb).1
  have hT : H s.heap.objs.size = none := I.hok.fresh (Nat.le_refl _)
  have hzt : s.TypeIs (.ref z) "zip" := ⟨_, hz, rfl⟩
  have hh := I.ok.hd hc
  unfold pyNext
  refine wpAny_bind (wpAny_attempt (wpAny_callSpecial?_slot (name := Str.ofString "__next__") hzt PySem.F.slot_zip_next
   (wpAny_call_entry PySem.F.slot_zip_next hzt PySem.F.entry_zip_next
    (zip_item2 (draws_str (A := X.A.in1) hh i1 ⟨zs.toArray⟩ t hn) (draws_str (A := X.A.in1) hh i2 ⟨ys.toArray⟩ t2 hm) D hz hTI hTO h1 (by simpa using hi) h2 (by simpa using hi2) fun h' tk v u hP hP2 a1 a2 a3 a4 a5 a6 hk => wpAny_pure ?_) (PySem.F.args_zip_next_1 _))))
  obtain ⟨c, uu, hcc, rfl⟩ := hP
  obtain ⟨d, ud, hdd, rfl⟩ := hP2
  refine ⟨_, rfl, wpAny_letOwnedTupleGo_zip (s := { s with heap := h', toks := tk }) a1 fun h9 hz9 sb => ?_⟩
  have hkeep : ∀ b o, b ≠ z -> b ≠ TO -> b ≠ i1 -> b ≠ i2 -> s.heap.get? b = some o -> h9.get? b = some o := fun b o e1 e2 e3 e4 q => (sb.2 b e1).trans (hk b o e1 e2 e3 e4 q)
  have zlt : z ≠ s.heap.objs.size := Nat.ne_of_lt (Heap.lt_size hz)
  have htup : h9.get? s.heap.objs.size = some { cls := .type "tuple", data := .seq #[.str ⟨#[c]⟩ uu, .str ⟨#[d]⟩ ud] } := (sb.2 _ zlt.symm).trans a5
  have nT : ∀ b u', H b = some u' -> b ≠ s.heap.objs.size := fun b u' q => ne_of_none q hT
  have nx : ∀ b u', H b = some u' -> b ≠ z /\ b ≠ TO /\ b ≠ i1 /\ b ≠ i2 := fun b u' q => ⟨ne_of_none q (fo z (by simp)), ne_of_none q (fo TO (by simp)), ne_of_none q (fo i1 (by simp)), ne_of_none q (fo i2 (by simp))⟩
  have mx : ∀ b : Addr, b ∉ [z, TI, TO, i1, i2] -> b ≠ z /\ b ≠ TO /\ b ≠ i1 /\ b ≠ i2 := fun b hb => ⟨fun q => hb (by simp [q]), fun q => hb (by simp [q]), fun q => hb (by simp [q]), fun q => hb (by simp [q])⟩
  have inL : ∀ b o, s.heap.get? b = some o -> b ≠ s.heap.objs.size := fun b o q => Nat.ne_of_lt (Heap.lt_size q)
  have kp : ∀ b o, b ∉ [z, TI, TO, i1, i2] -> s.heap.get? b = some o -> h9.get? b = some o := fun b o hb q => hkeep b o (mx b hb).1 (mx b hb).2.1 (mx b hb).2.2.1 (mx b hb).2.2.2 q
  have un : Un (frs X.stack) [z, TI, TO, i1, i2] H (upd H s.heap.objs.size (.tup [.str ⟨#[c]⟩, .str ⟨#[d]⟩])) s.heap h9 := by
   refine ⟨fun b o q n hb hx => kp b o hx q, fun b o q n hb hx => ⟨o.slots, kp b o hx q⟩, fun b o q n hx => by rw [upd_ne (inL b o q)]; exact n, fun b o q hx => ⟨o, kp b o hx q⟩, fun b ys q => by rw [upd_ne (nT b _ q)]; exact q, fun b o u' q => by rw [upd_ne (nT b _ q)]; exact q, fun b ps q => ⟨#[], by rw [upd_ne (nT b _ q), Array.append_empty]; exact q⟩⟩
  have hok : HOk X.prog X.w (upd H s.heap.objs.size (.tup [.str ⟨#[c]⟩, .str ⟨#[d]⟩])) h9 := fun b u' q => by
   by_cases hb : b = s.heap.objs.size
   ·subst hb
    rw [upd_same] at q
    cases q
    exact ⟨show 2 <= sizeLine by decide, [.str ⟨#[c]⟩ uu, .str ⟨#[d]⟩ ud], .cons ⟨_, rfl⟩ (.cons ⟨_, rfl⟩ .nil), _, htup, rfl, _, rfl⟩
   ·rw [upd_ne hb] at q
    refine (I.hok b u' q).stay (fun c v hc' q' => ?_) (fun c q' => by rw [upd_ne (nT c _ q')]; exact q') fun c ys q' => by rw [upd_ne (nT c _ q')]; exact q'
    have : ∃ u'', H c = some u'' := by
     rcases hc' with z | z
     ·exact ⟨u', by rw [z]; exact q⟩
     ·exact ⟨_, z⟩
    obtain ⟨u'', hu''⟩ := this
    obtain ⟨e1, e2, e3, e4⟩ := nx c _ hu''
    exact hkeep c v e1 e2 e3 e4 q'
  have I2 : Inv X pins σ (upd H s.heap.objs.size (.tup [.str ⟨#[c]⟩, .str ⟨#[d]⟩])) { s with heap := h9, toks := tk } := I.call (g' := s.gens) (t' := tk) (d' := s.drawn) (ch := [z, TI, TO, i1, i2]) un hok I.bare fun b hb => by
   have fb := hf b hb
   exact ⟨fb.2.2.2.1, fb.2.1, fb.2.2.2.2.1, fb.2.2.2.2.2⟩
  have up : ∀ b o, b ≠ z -> h'.get? b = some o -> h9.get? b = some o := fun b o e q => (sb.2 b e).trans q
  refine ⟨.ref s.heap.objs.size, _, I2, rfl, ⟨_, c, d, rfl, hT, by simpa using hcc, by simpa using hdd, rfl⟩, ⟨hz9, up _ _ D.TIz (hk _ _ D.TIz D.TITO D.TIi1 D.TIi2 hTI), ⟨_, _, up _ _ D.TOz a2⟩, ?_, ?_⟩, fun b hb => ?_⟩
  ·obtain ⟨o1, q1, r1⟩ := a3
   exact ⟨o1, up _ _ D.i1z q1, r1⟩
  ·obtain ⟨o1, q1, r1⟩ := a4
   exact ⟨o1, up _ _ D.i2z q1, r1⟩
  ·have hbs : ∃ o, s.heap.get? b = some o := by
    simp only [List.mem_cons, List.not_mem_nil, or_false] at hb
    obtain ⟨o1, q1, _⟩ := h1
    obtain ⟨o2, q2, _⟩ := h2
    rcases hb with rfl | rfl | rfl | rfl | rfl
    ·exact ⟨_, hz⟩
    ·exact ⟨_, hTI⟩
    ·exact ⟨_, hTO⟩
    ·exact ⟨_, q1⟩
    ·exact ⟨_, q2⟩
   obtain ⟨o, q⟩ := hbs
   rw [upd_ne (inL b o q)]
   exact fo b hb
 done := by
  intro X hP hw hK hc i pins s σ H E I hf st hg
  subst hP hw hK
  obtain ⟨hz, hTI, ⟨u0, v0, hTO⟩, h1, h2⟩ := st
  have hg' : zs.length <= i \/ ys.length <= i := hg
  have hzt : s.TypeIs (.ref z) "zip" := ⟨_, hz, rfl⟩
  have hh := I.ok.hd hc
  unfold pyNext
  refine wpAny_bind (wpAny_attempt (wpAny_callSpecial?_slot (name := Str.ofString "__next__") hzt PySem.F.slot_zip_next
   (wpAny_call_entry PySem.F.slot_zip_next hzt PySem.F.entry_zip_next
    (zip_end2 (draws_str (A := X.A.in1) hh i1 ⟨zs.toArray⟩ t hn) D (St2 := fun i h => h.IsStrIter i2 m ⟨ys.toArray⟩ t2 i) (fun h h' ⟨o, q, r⟩ k => ⟨o, k o q, r⟩) hz hTI hTO h1 h2 (by
     by_cases hi : zs.length <= i
     ·exact .inl fun s' Q E st hE => str_end (A := X.A.in1) hh hn st (by simpa using hi) hE
     ·exact .inr ⟨by simpa using hi, fun s' Q E st hE => str_end (A := X.A.in1) hh hm st (by simp; omega) hE⟩) fun h' e tk hk he => ?_) (PySem.F.args_zip_next_1 _))))
  obtain ⟨o, ho, hce⟩ := he
  refine wpAny_bind (wpAny_isInstance (T := "StopIteration") (b := true) ⟨o, ho, hce⟩ isSubtype_stop ?_)
  refine wpAny_pure ⟨rfl, ?_⟩
  have fo : ∀ b ∈ [z, TI, TO, i1, i2], H b = none := fun b hb => (hf b hb).1
  have mx : ∀ b : Addr, b ∉ [z, TI, TO, i1, i2] -> b ≠ z /\ b ≠ TO /\ b ≠ i1 /\ b ≠ i2 := fun b hb => ⟨fun q => hb (by simp [q]), fun q => hb (by simp [q]), fun q => hb (by simp [q]), fun q => hb (by simp [q])⟩
  have kp : ∀ b o, b ∉ [z, TI, TO, i1, i2] -> s.heap.get? b = some o -> h'.get? b = some o := fun b o hb q => hk b o (mx b hb).1 (mx b hb).2.1 (mx b hb).2.2.1 (mx b hb).2.2.2 q
  have un : Un (frs X.stack) [z, TI, TO, i1, i2] H H s.heap h' :=
   ⟨fun b o q n hb hx => kp b o hx q, fun b o q n hb hx => ⟨o.slots, kp b o hx q⟩, fun b o q n hx => n, fun b o q hx => ⟨o, kp b o hx q⟩, fun b ys q => q, fun b o u' q => q, fun b ps q => ⟨#[], by rw [Array.append_empty]; exact q⟩⟩
  have hok : HOk X.prog X.w H h' := fun b u' q => by
   refine (I.hok b u' q).stay (fun c v hc' q' => ?_) (fun c q' => q') fun c ys q' => q'
   have : ∃ u'', H c = some u'' := by
    rcases hc' with z | z
    ·exact ⟨u', by rw [z]; exact q⟩
    ·exact ⟨_, z⟩
   obtain ⟨u'', hu''⟩ := this
   exact hk c v (ne_of_none hu'' (fo z (by simp))) (ne_of_none hu'' (fo TO (by simp))) (ne_of_none hu'' (fo i1 (by simp))) (ne_of_none hu'' (fo i2 (by simp))) q'
  exact I.call (g' := s.gens) (t' := tk) (d' := s.drawn) (ch := [z, TI, TO, i1, i2]) un hok I.bare fun b hb => by
   have fb := hf b hb
   exact ⟨fb.2.2.2.1, fb.2.1, fb.2.2.2.2.1, fb.2.2.2.2.2⟩
 self := fun _ _ _ _ _ st h => wpAny_pyIter_zip st.1 h
theorem zipS_len : ∀ (z y : List Nat), (zipS z y).length = min z.length y.length
 | [], y => by simp [zipS]
 | c :: z, [] => by simp [zipS]
 | c :: z, d :: y => by rw [zipS, List.length_cons, List.length_cons, List.length_cons, zipS_len]; omega
theorem zipS_get : ∀ (z y : List Nat) (i : Nat) (d : D), (zipS z y)[i]? = some d -> ∃ c e, z[i]? = some c /\ y[i]? = some e /\ d = .tup [.str [c], .str [e]]
 | [], y, i, d, h => by simp [zipS] at h
 | c :: z, [], i, d, h => by simp [zipS] at h
 | c :: z, e :: y, 0, d, h => by
  rw [zipS] at h
  simp at h
  exact ⟨c, e, rfl, rfl, h.symm⟩
 | c :: z, e :: y, i + 1, d, h => by
  rw [zipS, List.getElem?_cons_succ] at h
  obtain ⟨c', e', h1, h2, h3⟩ := zipS_get z y i d h
  exact ⟨c', e', by simpa using h1, by simpa using h2, h3⟩
section
variable {X : Cx} {B : List Addr} {a b : Expr} {f g : Ex} {pos : Pos}
theorem itzs_of {K : PySem.W.Frag} {A : List Addr} {H : Hp} {z y : List Nat} : ItOf K B A H (Itzs z y) (zipS z y) := by
 intro A' H' le own i
 refine ⟨fun d hd => ?_, fun hl => ?_⟩
 ·obtain ⟨c, e, h1, h2, rfl⟩ := zipS_get z y i d hd
  refine ⟨⟨(List.getElem?_eq_some_iff.mp h1).1, (List.getElem?_eq_some_iff.mp h2).1⟩, fun x H3 w => ?_⟩
  obtain ⟨T, c', d', rfl, hT, hc', hd', rfl⟩ := w
  rw [h1] at hc'
  rw [h2] at hd'
  cases hc'
  cases hd'
  exact ⟨same_upd hT, rep_new_tup own hT (.cons (rep_str.mpr rfl) (.cons (rep_str.mpr rfl) .nil))⟩
 ·rw [zipS_len] at hl
  show z.length <= i \/ y.length <= i
  omega
theorem it_zipS {elts : List Expr} {x1} {tp p : Pos} (hm : X.mg "zip" = none) (ha : PE X a (tI X.K B f)) (hb : PE X b (tI X.K B g)) (hg : Gl X "zip" := by rfl) (hs : starEach [a, b] X.env = (false, eval a X.env) :: starEach [b] X.env := by rfl) (hs2 : starEach [b] X.env = [(false, eval b X.env)] := by rfl) : L2.PI X (.Tuple elts x1 tp) (.Call (.Name "zip" p) [a, b] [] pos) (tIt X.K B (itZipS f g)) := by
 intro pins s σ H Rq I ⟨A, st, ds, rs, hd, q⟩
 obtain ⟨x, hx, h2⟩ := R.ok_of hd
 obtain ⟨y, hy, h3⟩ := R.ok_of h2
 split at h3
 rotate_left
 ·cases h3
 rename_i zs ws
 cases h3
 refine Call_ (ld_blt I hg hm boot_zip (PyProof.Rows.callWith_type1 (thn ((pa_cons ha (pa_cons hb pa_nil hs2) hs) pos pins s σ H (fun vs H1 => ∃ v w, vs = [v, w] /\ Same H H1 /\ Rep X.K (hide (A ++ B) H1) (.str zs) v /\ Rep X.K (hide (A ++ B) H1) (.str ws) w) I ⟨A, st, _, rs, hx, fun v H1 s1 r1 => ⟨A, st, _, rs.mono s1, hy, fun w H2 s2 r2 => ⟨v, w, rfl, s1.trans s2, r1.mono (Same.hide s2), r2⟩⟩⟩) fun us s1 ⟨vs, H1, I1, r1, v, w, hv, sm, rv, rw'⟩ => ?_) hs (by rw [hs2]; rfl)))
 subst hv
 obtain ⟨u1, u2, rfl, ra, rb⟩ : ∃ u1 u2, us = [u1, u2] /\ L2.RelV v u1 /\ L2.RelV w u2 := by
  cases r1 with
  | cons ra rb =>
   cases rb with
   | cons rb rc =>
    cases rc
    exact ⟨_, _, rfl, ra, rb⟩
 have ev := rep_str.mp rv
 have ew := rep_str.mp rw'
 subst ev ew
 obtain ⟨t, rfl⟩ := (show ∃ t, u1 = Value.str ⟨zs.toArray⟩ t from ra)
 obtain ⟨t2, rfl⟩ := (show ∃ t, u2 = Value.str ⟨ws.toArray⟩ t from rb)
 refine call_zipS fun h' hz' hTI hTO hit1 hit2 hsz hk => ?_
 refine wpAny_pyIter_zip hz' ⟨s1.heap.objs.size + 4, [s1.heap.objs.size + 4, s1.heap.objs.size + 2, s1.heap.objs.size + 3, s1.heap.objs.size, s1.heap.objs.size + 1], _, Itzs zs ws, H1, rfl, I1.kept (t' := s1.toks) hk, turn_zipS (t := t) (t2 := t2) (strIter_kinds ⟨zs.toArray⟩) (strIter_kinds ⟨ws.toArray⟩) (s1.heap.objs.size + 5) (s1.heap.objs.size + 4) (s1.heap.objs.size + 2) (s1.heap.objs.size + 3) s1.heap.objs.size (s1.heap.objs.size + 1) (zapart_new2 _), ⟨hz', hTI, ⟨_, _, hTO⟩, hit1, hit2⟩, fun b hb => ?_, q _ H1 sm itzs_of⟩
 simp only [List.mem_cons, List.not_mem_nil, or_false] at hb
 rcases hb with rfl | rfl | rfl | rfl | rfl <;> exact I1.fpOk (by simp) (I1.hok.fresh (by simp))
end
end Pu
set_option maxHeartbeats 4000000
namespace Pu
open PySem PySem.Spec PyProof.Rows L2
def top (i : Nat) : Stmt := PySem.Challenge.pw_looprank_k82_writings.main.body.getD i (.Pass ⟨0, 0, 0, 0⟩)
def inCls (s : Stmt) (j : Nat) : Stmt := match s with
 | .ClassDef _ _ _ b _ _ _ _ _ _ _ => b.getD j (.Pass ⟨0, 0, 0, 0⟩)
 | _ => .Pass ⟨0, 0, 0, 0⟩
abbrev s__law_cell : Stmt := top 32
abbrev s__law_pick : Stmt := top 33
abbrev s__law_digits : Stmt := top 34
abbrev s_is_whole : Stmt := top 9
abbrev s_check_base : Stmt := top 22
abbrev s_is_below : Stmt := top 10
abbrev s_check_fraction : Stmt := top 23
abbrev s_writing_of : Stmt := top 24
abbrev s_writings_of : Stmt := top 25
abbrev s__law_ends : Stmt := top 41
abbrev s__law_is_word : Stmt := top 40
abbrev s__law_is_short : Stmt := top 39
abbrev s__law_power : Stmt := top 37
abbrev s__law_number : Stmt := top 36
abbrev s__law_worth : Stmt := top 38
abbrev s__law_first_unlike : Stmt := top 42
abbrev s__law_right : Stmt := top 43
abbrev s_room_from_on : Stmt := top 27
abbrev s_room_up_to : Stmt := top 26
abbrev s_ways_from : Stmt := top 17
abbrev s_is_filled_list : Stmt := top 11
abbrev s_is_row : Stmt := top 12
abbrev s_are_steps : Stmt := top 13
abbrev s_are_ranks : Stmt := top 14
abbrev s_Machine___init__ : Stmt := inCls (top 15) 0
abbrev s_machine_of : Stmt := top 28
abbrev s_up_to : Stmt := top 29
abbrev s_from_on : Stmt := top 30
abbrev s__law_no_fraction : Stmt := top 44
abbrev s__law_refused : Stmt := top 45
abbrev s_law : Stmt := top 46
theorem sc__law_cell : FnScope ["_law_script", "_law_k", "_law_rest"] ["_law_script", "_law_k"] (defScope s__law_cell) := ⟨rfl, rfl, rfl, by decide +kernel, rfl, by decide +kernel, by decide +kernel⟩
theorem sc__law_pick : FnScope ["_law_cell_here", "_law_k", "_law_many", "_law_number_here"] ["_law_cell_here", "_law_k", "_law_many"] (defScope s__law_pick) := ⟨rfl, rfl, rfl, by decide +kernel, rfl, by decide +kernel, by decide +kernel⟩
theorem sc__law_digits : FnScope ["_law_cell_here", "_law_sizes", "_law_found", "_law_size"] ["_law_cell_here", "_law_sizes"] (defScope s__law_digits) := ⟨rfl, rfl, rfl, by decide +kernel, rfl, by decide +kernel, by decide +kernel⟩
theorem sc_is_whole : FnScope ["thing"] ["thing"] (defScope s_is_whole) := ⟨rfl, rfl, rfl, by decide +kernel, rfl, by decide +kernel, by decide +kernel⟩
theorem sc_check_base : FnScope ["thing"] ["thing"] (defScope s_check_base) := ⟨rfl, rfl, rfl, by decide +kernel, rfl, by decide +kernel, by decide +kernel⟩
theorem sc_is_below : FnScope ["thing", "limit"] ["thing", "limit"] (defScope s_is_below) := ⟨rfl, rfl, rfl, by decide +kernel, rfl, by decide +kernel, by decide +kernel⟩
theorem sc_check_fraction : FnScope ["top", "bottom", "base"] ["top", "bottom", "base"] (defScope s_check_fraction) := ⟨rfl, rfl, rfl, by decide +kernel, rfl, by decide +kernel, by decide +kernel⟩
theorem sc_writing_of : FnScope ["top", "bottom", "base", "least", "text", "places", "digit"] ["top", "bottom", "base", "least"] (defScope s_writing_of) := ⟨rfl, rfl, rfl, by decide +kernel, rfl, by decide +kernel, by decide +kernel⟩
theorem sc_writings_of : FnScope ["top", "bottom", "base", "found", "lesser"] ["top", "bottom", "base"] (defScope s_writings_of) := ⟨rfl, rfl, rfl, by decide +kernel, rfl, by decide +kernel, by decide +kernel⟩
theorem sc__law_ends : FnScope ["_law_top", "_law_bottom", "_law_base", "_law_k"] ["_law_top", "_law_bottom", "_law_base"] (defScope s__law_ends) := ⟨rfl, rfl, rfl, by decide +kernel, rfl, by decide +kernel, by decide +kernel⟩
theorem sc__law_is_word : FnScope ["_law_thing", "_law_base", "_law_text", "_law_sign"] ["_law_thing", "_law_base"] (defScope s__law_is_word) := ⟨rfl, rfl, rfl, by decide +kernel, rfl, by decide +kernel, by decide +kernel⟩
theorem sc__law_is_short : FnScope ["_law_word", "_law_size", "_law_front", "_law_ring"] ["_law_word"] (defScope s__law_is_short) := ⟨rfl, rfl, rfl, by decide +kernel, rfl, by decide +kernel, by decide +kernel⟩
theorem sc__law_power : FnScope ["_law_base", "_law_many", "_law_power_here", "_law_k"] ["_law_base", "_law_many"] (defScope s__law_power) := ⟨rfl, rfl, rfl, by decide +kernel, rfl, by decide +kernel, by decide +kernel⟩
theorem sc__law_number : FnScope ["_law_text", "_law_base", "_law_number_here", "_law_letter"] ["_law_text", "_law_base"] (defScope s__law_number) := ⟨rfl, rfl, rfl, by decide +kernel, rfl, by decide +kernel, by decide +kernel⟩
theorem sc__law_worth : FnScope ["_law_word", "_law_base", "_law_turn", "_law_top"] ["_law_word", "_law_base"] (defScope s__law_worth) := ⟨rfl, rfl, rfl, by decide +kernel, rfl, by decide +kernel, by decide +kernel⟩
theorem sc__law_first_unlike : FnScope ["_law_one", "_law_other", "_law_first", "_law_second", "_law_letter", "_law_beside"] ["_law_one", "_law_other"] (defScope s__law_first_unlike) := ⟨rfl, rfl, rfl, by decide +kernel, rfl, by decide +kernel, by decide +kernel⟩
theorem sc__law_right : FnScope ["_law_top", "_law_bottom", "_law_base", "_law_found", "_law_many", "_law_word", "_law_due", "_law_worth_here", "_law_letter", "_law_beside"] ["_law_top", "_law_bottom", "_law_base"] (defScope s__law_right) := ⟨rfl, rfl, rfl, by decide +kernel, rfl, by decide +kernel, by decide +kernel⟩
theorem sc_room_from_on : FnScope ["rest", "bottom"] ["rest", "bottom"] (defScope s_room_from_on) := ⟨rfl, rfl, rfl, by decide +kernel, rfl, by decide +kernel, by decide +kernel⟩
theorem sc_room_up_to : FnScope ["rest", "bottom"] ["rest", "bottom"] (defScope s_room_up_to) := ⟨rfl, rfl, rfl, by decide +kernel, rfl, by decide +kernel, by decide +kernel⟩
theorem sc_ways_from : FnScope ["steps", "start", "allowed", "ways", "met", "place", "here", "letter", "room"] ["steps", "start", "allowed"] (defScope s_ways_from) := ⟨rfl, rfl, rfl, by decide +kernel, rfl, by decide +kernel, by decide +kernel⟩
theorem sc_is_filled_list : FnScope ["thing", "most"] ["thing", "most"] (defScope s_is_filled_list) := ⟨rfl, rfl, rfl, by decide +kernel, rfl, by decide +kernel, by decide +kernel⟩
theorem sc_is_row : FnScope ["thing", "letters", "rooms", "room"] ["thing", "letters", "rooms"] (defScope s_is_row) := ⟨rfl, rfl, rfl, by decide +kernel, rfl, by decide +kernel, by decide +kernel⟩
theorem sc_are_steps : FnScope ["thing", "row"] ["thing"] (defScope s_are_steps) := ⟨rfl, rfl, rfl, by decide +kernel, rfl, by decide +kernel, by decide +kernel⟩
theorem sc_are_ranks : FnScope ["thing", "rooms", "rank"] ["thing", "rooms"] (defScope s_are_ranks) := ⟨rfl, rfl, rfl, by decide +kernel, rfl, by decide +kernel, by decide +kernel⟩
theorem sc_Machine___init__ : FnScope ["self", "steps", "ranks", "row"] ["self", "steps", "ranks"] (defScope s_Machine___init__) := ⟨rfl, rfl, rfl, by decide +kernel, rfl, by decide +kernel, by decide +kernel⟩
theorem sc_machine_of : FnScope ["top", "bottom", "base", "room_for", "steps", "here", "rooms", "ranks", "digit", "goal"] ["top", "bottom", "base", "room_for"] (defScope s_machine_of) := ⟨rfl, rfl, rfl, by decide +kernel, rfl, by decide +kernel, by decide +kernel⟩
theorem sc_up_to : FnScope ["top", "bottom", "base"] ["top", "bottom", "base"] (defScope s_up_to) := ⟨rfl, rfl, rfl, by decide +kernel, rfl, by decide +kernel, by decide +kernel⟩
theorem sc_from_on : FnScope ["top", "bottom", "base"] ["top", "bottom", "base"] (defScope s_from_on) := ⟨rfl, rfl, rfl, by decide +kernel, rfl, by decide +kernel, by decide +kernel⟩
theorem sc__law_no_fraction : FnScope ["_law_way", "_law_top", "_law_bottom", "_law_base", "_law_refused_here"] ["_law_way", "_law_top", "_law_bottom", "_law_base"] (defScope s__law_no_fraction) := ⟨rfl, rfl, rfl, by decide +kernel, rfl, by decide +kernel, by decide +kernel⟩
theorem sc__law_refused : FnScope ["_law_cell_here", "_law_top", "_law_bottom", "_law_base", "_law_far", "_law_way", "_law_bad"] ["_law_cell_here", "_law_top", "_law_bottom", "_law_base"] (defScope s__law_refused) := ⟨rfl, rfl, rfl, by decide +kernel, rfl, by decide +kernel, by decide +kernel⟩
theorem sc_law : FnScope ["_law_script", "_law_cell_here", "_law_k", "_law_drawn", "_law_numbers", "_law_bottom", "_law_top", "_law_base"] ["_law_script"] (defScope s_law) := ⟨rfl, rfl, rfl, by decide +kernel, rfl, by decide +kernel, by decide +kernel⟩
section
variable {P : Program} {w : World} {K : PySem.W.Frag} {mg : Str -> Option Value} {base : Heap}
theorem d__law_cell {fa : Addr} {fd : FuncData} {dV : Value} (F : FunD K "_law_cell" "_law_cell" s__law_cell dV fa fd)
  (b_len : mg "len" = none) : FnOk P w K mg base CX0 1 fa fd ["_law_script", "_law_k"] (spI K 2 p__law_cell) := by
 refine fn_iD (k := 0) F sc__law_cell 2 3 b__law_cell rfl rfl fun cdv A outer s H E B hr => ?_
 have nd := sc__law_cell.nd
 refine s_cons ?_ ?_
 ·exact s_if (i_cmpT op_lt sem_ltI (toP (i_var 1)) (toP (i_len b_len (toP (i_var 0)))) (nomark _)) (s_one (s_ret (i_mod (toP (i_ix hr.units (toP (i_var 0)) (toP (i_var 1)))) (toP (i_pow (toP (i_int)) (toP (i_int))))))) (s_nil)
 refine s_cons ?_ ?_
 ·exact s_set 2 (i_int) nd
 refine s_cons ?_ ?_
 ·exact s_if (i_cmpT op_gt sem_gt (toP (i_len b_len (toP (i_var 0)))) (toP (i_int)) (nomark _)) (s_one (s_set 2 (i_mod (toP (i_ix hr.units (toP (i_var 0)) (toP (i_mod (toP (i_var 1)) (toP (i_len b_len (toP (i_var 0)))))))) (toP (i_int))) nd)) (s_nil)
 exact s_one (s_ret (i_mod (toP (i_mulI (toP (i_add (toP (i_add (toP (i_mulI (toP (i_var 2)) (toP (i_int)))) (toP (i_mulI (toP (i_int)) (toP (i_var 1)))))) (toP (i_int)))) (toP (i_add (toP (i_var 1)) (toP (i_int)))))) (toP (i_int))))
theorem d__law_pick {fa : Addr} {fd : FuncData} {dV : Value} (F : FunD K "_law_pick" "_law_pick" s__law_pick dV fa fd)
     : FnOk P w K mg base CX0 1 fa fd ["_law_cell_here", "_law_k", "_law_many"] (spI K 3 p__law_pick) := by
 refine fn_iD (k := 0) F sc__law_pick 3 4 b__law_pick rfl rfl fun cdv A outer s H E B hr => ?_
 have nd := sc__law_pick.nd
 refine s_cons ?_ ?_
 ·exact s_set 3 (i_mod (toP (i_add (toP (i_var 0)) (toP (i_mulI (toP (i_int)) (toP (i_var 1)))))) (toP (i_int))) nd
 refine s_cons ?_ ?_
 ·exact s_set 3 (i_mod (toP (i_mulI (toP (i_mod (toP (i_mulI (toP (i_var 3)) (toP (i_var 3)))) (toP (i_int)))) (toP (i_int)))) (toP (i_int))) nd
 exact s_one (s_ret (i_mod (toP (i_fdiv (toP (i_mod (toP (i_mulI (toP (i_var 3)) (toP (i_var 3)))) (toP (i_int)))) (toP (i_int)))) (toP (i_var 2))))
theorem d__law_digits {fa : Addr} {fd : FuncData} {dV : Value} (F : FunD K "_law_digits" "_law_digits" s__law_digits dV fa fd)
     : FnOk P w K mg base CX0 1 fa fd ["_law_cell_here", "_law_sizes"] (spI K 2 p__law_digits) := by
 refine fn_iD (k := 0) F sc__law_digits 2 4 b__law_digits rfl rfl fun cdv A outer s H E B hr => ?_
 have nd := sc__law_digits.nd
 refine s_cons ?_ ?_
 ·exact s_setO 2 (f_lst (a_nil)) nd
 refine s_cons ?_ ?_
 ·exact s_for (it_e (i_var 1)) (g_name 3 nd) (s_cons (by exact s_app 2 (i_mod (toP (i_var 0)) (toP (i_var 3)))) (by exact s_one (s_set 0 (i_fdiv (toP (i_var 0)) (toP (i_var 3))) nd))) PassesOwn.never rfl
 exact s_one (s_fz [2] (s_ret (i_var 2)))
theorem d_is_whole {fa : Addr} {fd : FuncData} {dV : Value} (F : FunD K "is_whole" "is_whole" s_is_whole dV fa fd)
  (b_isinstance : mg "isinstance" = none)
  (b_int : mg "int" = none)
  (b_bool : mg "bool" = none) : FnOk P w K mg base CX0 1 fa fd ["thing"] (spI K 1 p_is_whole) := by
 refine fn_iD (k := 0) F sc_is_whole 1 1 b_is_whole rfl rfl fun cdv A outer s H E B hr => ?_
 have nd := sc_is_whole.nd
 exact s_one (s_ret (i_and (i_isinst ty_int b_isinstance b_int (toP (i_var 0))) (i_and1 (i_not (i_isinst ty_bool b_isinstance b_bool (toP (i_var 0)))))))
theorem d_check_base {fa : Addr} {fd : FuncData} {dV : Value} (F : FunD K "check_base" "check_base" s_check_base dV fa fd)
  (h_is_whole : DefOk P w K mg base "is_whole" 1 1 p_is_whole)
  {X_NoFraction : Addr} {bm_NoFraction : List Value} (e_NoFraction : ExcAt K "NoFraction" X_NoFraction bm_NoFraction)
  (ge_NoFraction : mg (Str.ofString "NoFraction") = some (.ref X_NoFraction))
  {T_BASES : Addr} (gt_BASES : GTup K T_BASES [2, 3])
  (gm_BASES : mg (Str.ofString "BASES") = some (.ref T_BASES)) : FnOk P w K mg base (CX1 P w) 2 fa fd ["thing"] (spE K 1 p_check_base) := by
 refine fn_x (k := 1) (sm := false) F sc_check_base 1 1 b_check_base rfl rfl fun cdv A outer s H E B W hr hL => ?_
 have nd := sc_check_base.nd
 exact x_one (x_any (x_if (s1 := false) (PW.pt (t_or (t_not (i_test (i_callD h_is_whole hr (by decide) (a_cons (i_var 0) (a_nil))))) (t_or1 (t_notInG gt_BASES gm_BASES hr.units (toP (i_var 0)))))) (x_one (x_any (x_raise hL e_NoFraction ge_NoFraction rfl (a_cons (i_str [97, 32, 98, 97, 115, 101, 32, 105, 115, 32, 50, 32, 111, 114, 32, 51]) (a_nil))))) (x_nil)))
theorem d_is_below {fa : Addr} {fd : FuncData} {dV : Value} (F : FunD K "is_below" "is_below" s_is_below dV fa fd)
  (h_is_whole : DefOk P w K mg base "is_whole" 1 1 p_is_whole) : FnOk P w K mg base CX0 2 fa fd ["thing", "limit"] (spI K 2 p_is_below) := by
 refine fn_iD (k := 1) F sc_is_below 2 2 b_is_below rfl rfl fun cdv A outer s H E B hr => ?_
 have nd := sc_is_below.nd
 exact s_one (s_ret (i_and (i_callD h_is_whole hr (by decide) (a_cons (i_var 0) (a_nil))) (i_and (i_cmpG op_ge sem_ge (toP (i_var 0)) (toP (i_int)) (nomark _)) (i_and1 (i_cmpG op_lt sem_ltI (toP (i_var 0)) (toP (i_var 1)) (nomark _))))))
theorem d_check_fraction {fa : Addr} {fd : FuncData} {dV : Value} (F : FunD K "check_fraction" "check_fraction" s_check_fraction dV fa fd)
  (h_check_base : DefOkX P w K mg base "check_base" 2 1 p_check_base)
  (h_is_below : DefOk P w K mg base "is_below" 2 2 p_is_below)
  {X_NoFraction : Addr} {bm_NoFraction : List Value} (e_NoFraction : ExcAt K "NoFraction" X_NoFraction bm_NoFraction)
  (ge_NoFraction : mg (Str.ofString "NoFraction") = some (.ref X_NoFraction))
  {t_MOST_BOTTOM : Tok} (g_MOST_BOTTOM : mg "MOST_BOTTOM" = some (.int 6 t_MOST_BOTTOM)) : FnOk P w K mg base (CX1 P w) 3 fa fd ["top", "bottom", "base"] (spE K 3 p_check_fraction) := by
 refine fn_x (k := 2) (sm := false) F sc_check_fraction 3 3 b_check_fraction rfl rfl fun cdv A outer s H E B W hr hL => ?_
 have nd := sc_check_fraction.nd
 refine x_cons (s1 := false) (s2 := false) ?_ ?_
 ·exact x_any (x_exp (i_callX h_check_base hL hr (by decide) (a_cons (i_var 2) (a_nil))))
 refine x_cons (s1 := false) (s2 := false) ?_ ?_
 ·exact x_any (x_if (s1 := false) (PW.pt (t_or (t_not (i_test (i_callD h_is_below hr (by decide) (a_cons (i_var 1) (a_cons (i_add (toP (i_gint g_MOST_BOTTOM)) (toP (i_int))) (a_nil)))))) (t_or1 (i_cmpT (op_eqD hr.units) sem_eq (toP (i_var 1)) (toP (i_int)) (nomark _))))) (x_one (x_any (x_raise hL e_NoFraction ge_NoFraction rfl (a_cons (i_str [97, 32, 98, 111, 116, 116, 111, 109, 32, 105, 115, 32, 97, 32, 119, 104, 111, 108, 101, 32, 110, 117, 109, 98, 101, 114, 32, 102, 114, 111, 109, 32, 49, 32, 116, 111, 32, 54]) (a_nil))))) (x_nil))
 exact x_one (x_any (x_if (s1 := false) (t_not (i_test (i_callD h_is_below hr (by decide) (a_cons (i_var 0) (a_cons (i_add (toP (i_var 1)) (toP (i_int))) (a_nil)))))) (x_one (x_any (x_raise hL e_NoFraction ge_NoFraction rfl (a_cons (i_str [97, 32, 116, 111, 112, 32, 105, 115, 32, 97, 32, 119, 104, 111, 108, 101, 32, 110, 117, 109, 98, 101, 114, 32, 102, 114, 111, 109, 32, 48, 32, 116, 111, 32, 116, 104, 101, 32, 98, 111, 116, 116, 111, 109]) (a_nil))))) (x_nil)))
theorem d_writing_of {fa : Addr} {fd : FuncData} {dV : Value} (F : FunD K "writing_of" "writing_of" s_writing_of dV fa fd)
  (b_len : mg "len" = none)
  {t_LETTERS : Tok} (g_LETTERS : mg "LETTERS" = some (.str "abc" t_LETTERS)) : FnOk P w K mg base CX0 1 fa fd ["top", "bottom", "base", "least"] (spI K 4 p_writing_of) := by
 refine fn_iD (k := 0) F sc_writing_of 4 7 b_writing_of rfl rfl fun cdv A outer s H E B hr => ?_
 have nd := sc_writing_of.nd
 refine s_cons ?_ ?_
 ·exact s_set 4 (i_str []) nd
 refine s_cons ?_ ?_
 ·exact s_dnewK 5 nd
 refine s_cons ?_ ?_
 ·exact s_while 100000 (i_cmpT (op_notInD hr.units) sem_notIn (toP (i_var 0)) (i_peek 5) rfl) (s_cons (by exact s_dput hr.units 5 (i_var 0) (i_len b_len (toP (i_var 4)))) (by exact s_cons (by exact s_set 6 (i_fdivB (toP (i_sub (toP (i_mulB (toP (i_var 2)) (toP (i_var 0)))) (toP (i_var 3)))) (toP (i_var 1))) nd) (by exact s_cons (by exact s_set 4 (i_add (toP (i_var 4)) (toP (i_ix hr.units (toP (i_gstr [97, 98, 99] g_LETTERS)) (toP (i_var 6))))) nd) (by exact s_one (s_set 0 (i_sub (toP (i_mulB (toP (i_var 2)) (toP (i_var 0)))) (toP (i_mulB (toP (i_var 6)) (toP (i_var 1))))) nd))))) PassesOwn.never
 exact s_one (s_ret (i_tup (a_cons (i_sl (toP (i_var 4)) (o_none) (o_some (toP (i_ix hr.units (i_peek 5) (toP (i_var 0)))))) (a_cons (i_sl (toP (i_var 4)) (o_some (toP (i_ix hr.units (i_peek 5) (toP (i_var 0))))) (o_none)) (a_nil)))))
theorem d_writings_of {fa : Addr} {fd : FuncData} {dV : Value} (F : FunD K "writings_of" "writings_of" s_writings_of dV fa fd)
  (h_check_fraction : DefOkX P w K mg base "check_fraction" 3 3 p_check_fraction)
  (h_writing_of : DefOk P w K mg base "writing_of" 1 4 p_writing_of) : FnOk P w K mg base (CX1 P w) 4 fa fd ["top", "bottom", "base"] (spEF K 3 p_writings_of) := by
 refine fn_xf (k := 3) F sc_writings_of 3 5 3 bi_writings_of rfl rfl fun cdv A outer s H E B W hr hL => ?_
 have nd := sc_writings_of.nd
 exact xf_cons (s1 := false) (by exact x_any (x_exp (i_callX h_check_fraction hL hr (by decide) (a_cons (i_var 0) (a_cons (i_var 1) (a_cons (i_var 2) (a_nil))))))) (by exact xf_cons (s1 := false) (by exact x_lift (s1 := false) (s_setO 3 (f_lst (a_nil)) nd)) (by exact xf_cons (s1 := false) (by exact x_lift (s1 := false) (s_if (i_cmpT op_lt sem_ltI (toP (i_var 0)) (toP (i_var 1)) (nomark _)) (s_one (s_app 3 (i_callD h_writing_of hr (by decide) (a_cons (i_var 0) (a_cons (i_var 1) (a_cons (i_var 2) (a_cons (i_int) (a_nil)))))))) (s_nil))) (by exact xf_cons (s1 := false) (by exact x_lift (s1 := false) (s_if (i_cmpT op_gt sem_gt (toP (i_var 0)) (toP (i_int)) (nomark _)) (s_cons (by exact s_set 4 (i_callD h_writing_of hr (by decide) (a_cons (i_var 0) (a_cons (i_var 1) (a_cons (i_var 2) (a_cons (i_int) (a_nil)))))) nd) (by exact s_one (s_if (i_cmpT (op_notInD hr.units) sem_notIn (toP (i_var 4)) (i_peek 3) rfl) (s_one (s_app 3 (i_var 4))) (s_nil)))) (s_nil))) (by exact xf_ret))))
theorem d__law_ends {fa : Addr} {fd : FuncData} {dV : Value} (F : FunD K "_law_ends" "_law_ends" s__law_ends dV fa fd)
  (b_range : mg "range" = none) : FnOk P w K mg base CX0 1 fa fd ["_law_top", "_law_bottom", "_law_base"] (spI K 3 p__law_ends) := by
 refine fn_iD (k := 0) F sc__law_ends 3 4 b__law_ends rfl rfl fun cdv A outer s H E B hr => ?_
 have nd := sc__law_ends.nd
 refine s_cons ?_ ?_
 ·exact s_for (it_r1 b_range (toP (i_int))) (g_name 3 nd) (s_cons (by exact s_if (i_cmpT (op_eqD hr.units) sem_eq (toP (i_mod (toP (i_var 0)) (toP (i_var 1)))) (toP (i_int)) (nomark _)) (s_one (s_ret (i_bl))) (s_nil)) (by exact s_one (s_set 0 (i_mulB (toP (i_var 0)) (toP (i_var 2))) nd))) PassesOwn.never rfl
 exact s_one (s_ret (i_bl))
theorem d__law_is_word {fa : Addr} {fd : FuncData} {dV : Value} (F : FunD K "_law_is_word" "_law_is_word" s__law_is_word dV fa fd)
  (b_isinstance : mg "isinstance" = none)
  (b_tuple : mg "tuple" = none)
  (b_len : mg "len" = none)
  (b_str : mg "str" = none) : FnOk P w K mg base CX0 1 fa fd ["_law_thing", "_law_base"] (spI K 2 p__law_is_word) := by
 refine fn_iD (k := 0) F sc__law_is_word 2 4 b__law_is_word rfl rfl fun cdv A outer s H E B hr => ?_
 have nd := sc__law_is_word.nd
 refine s_cons ?_ ?_
 ·exact s_if (PW.pt (t_or (t_not (i_test (i_isinst ty_tuple b_isinstance b_tuple (toP (i_var 0))))) (t_or (i_cmpT (op_neD hr.units) sem_ne (toP (i_len b_len (toP (i_var 0)))) (toP (i_int)) (nomark _)) (t_or1 (i_cmpT (op_eqD hr.units) sem_eq (toP (i_ix hr.units (toP (i_var 0)) (toP (i_int)))) (toP (i_str [])) (nomark _)))))) (s_one (s_ret (i_bl))) (s_nil)
 refine s_cons ?_ ?_
 ·exact s_for (it_e (i_var 0)) (g_name 2 nd) (s_one (s_if (PW.pt (t_or (t_not (i_test (i_isinst ty_str b_isinstance b_str (toP (i_var 2))))) (t_or1 (i_cmpT (op_neD hr.units) sem_ne (toP (i_len b_len (toP (i_compif [3] sub_N (.of rfl) (it_e (i_var 2)) (fun _ _ _ _ _ => g_name 3 nd) (fun _ _ _ _ _ => i_cmpT (op_inD hr.units) sem_in (toP (i_var 3)) (toP (i_sl (toP (i_str [97, 98, 99])) (o_none) (o_some (toP (i_var 1))))) rfl) (fun _ _ _ _ _ => i_var 3) rfl)))) (toP (i_len b_len (toP (i_var 2)))) (nomark _))))) (s_one (s_ret (i_bl))) (s_nil))) PassesOwn.never rfl
 exact s_one (s_ret (i_bl))
theorem d__law_is_short {fa : Addr} {fd : FuncData} {dV : Value} (F : FunD K "_law_is_short" "_law_is_short" s__law_is_short dV fa fd)
  (b_range : mg "range" = none)
  (b_len : mg "len" = none) : FnOk P w K mg base CX0 1 fa fd ["_law_word"] (spI K 1 p__law_is_short) := by
 refine fn_iD (k := 0) F sc__law_is_short 1 4 b__law_is_short rfl rfl fun cdv A outer s H E B hr => ?_
 have nd := sc__law_is_short.nd
 refine s_cons ?_ ?_
 ·exact s_tgt (i_var 0) (g_tup rfl (gs_cons 2 (gs_cons 3 (gs_nil) nd) nd))
 refine s_cons ?_ ?_
 ·exact s_for (it_r2 b_range (toP (i_int)) (toP (i_len b_len (toP (i_var 3))))) (g_name 1 nd) (s_one (s_if (PW.pt (t_and (i_cmpT (op_eqD hr.units) sem_eq (toP (i_mod (toP (i_len b_len (toP (i_var 3)))) (toP (i_var 1)))) (toP (i_int)) (nomark _)) (t_and1 (i_cmpT (op_eqD hr.units) sem_eq (toP (i_mulB (toP (i_sl (toP (i_var 3)) (o_none) (o_some (toP (i_var 1))))) (toP (i_fdivB (toP (i_len b_len (toP (i_var 3)))) (toP (i_var 1)))))) (toP (i_var 3)) (nomark _))))) (s_one (s_ret (i_bl))) (s_nil))) PassesOwn.never rfl
 exact s_one (s_ret (i_or (i_cmpG (op_eqD hr.units) sem_eq (toP (i_var 2)) (toP (i_str [])) (nomark _)) (i_or1 (i_cmpG (op_neD hr.units) sem_ne (toP (i_ix hr.units (toP (i_var 2)) (toP (i_neg (toP (i_int)))))) (toP (i_ix hr.units (toP (i_var 3)) (toP (i_neg (toP (i_int)))))) (nomark _)))))
theorem d__law_power {fa : Addr} {fd : FuncData} {dV : Value} (F : FunD K "_law_power" "_law_power" s__law_power dV fa fd)
  (b_range : mg "range" = none) : FnOk P w K mg base CX0 1 fa fd ["_law_base", "_law_many"] (spI K 2 p__law_power) := by
 refine fn_iD (k := 0) F sc__law_power 2 4 b__law_power rfl rfl fun cdv A outer s H E B hr => ?_
 have nd := sc__law_power.nd
 refine s_cons ?_ ?_
 ·exact s_set 2 (i_int) nd
 refine s_cons ?_ ?_
 ·exact s_for (it_r1 b_range (toP (i_var 1))) (g_name 3 nd) (s_one (s_set 2 (i_mulB (toP (i_var 2)) (toP (i_var 0))) nd)) PassesOwn.never rfl
 exact s_one (s_ret (i_var 2))
theorem d__law_number {fa : Addr} {fd : FuncData} {dV : Value} (F : FunD K "_law_number" "_law_number" s__law_number dV fa fd)
     : FnOk P w K mg base CX0 1 fa fd ["_law_text", "_law_base"] (spI K 2 p__law_number) := by
 refine fn_iD (k := 0) F sc__law_number 2 4 b__law_number rfl rfl fun cdv A outer s H E B hr => ?_
 have nd := sc__law_number.nd
 refine s_cons ?_ ?_
 ·exact s_set 2 (i_int) nd
 refine s_cons ?_ ?_
 ·exact s_for (it_e (i_var 0)) (g_name 3 nd) (s_one (s_set 2 (i_add (toP (i_mulB (toP (i_var 2)) (toP (i_var 1)))) (toP (i_index (toP (i_str [97, 98, 99])) (a_cons (i_var 3) (a_nil))))) nd)) PassesOwn.never rfl
 exact s_one (s_ret (i_var 2))
theorem d__law_worth {fa : Addr} {fd : FuncData} {dV : Value} (F : FunD K "_law_worth" "_law_worth" s__law_worth dV fa fd)
  (h__law_power : DefOk P w K mg base "_law_power" 1 2 p__law_power)
  (h__law_number : DefOk P w K mg base "_law_number" 1 2 p__law_number)
  (b_len : mg "len" = none) : FnOk P w K mg base CX0 2 fa fd ["_law_word", "_law_base"] (spI K 2 p__law_worth) := by
 refine fn_iD (k := 1) F sc__law_worth 2 4 b__law_worth rfl rfl fun cdv A outer s H E B hr => ?_
 have nd := sc__law_worth.nd
 refine s_cons ?_ ?_
 ·exact s_set 2 (i_sub (toP (i_callD h__law_power hr (by decide) (a_cons (i_var 1) (a_cons (i_len b_len (toP (i_ix hr.units (toP (i_var 0)) (toP (i_int))))) (a_nil))))) (toP (i_int))) nd
 refine s_cons ?_ ?_
 ·exact s_set 3 (i_add (toP (i_mulB (toP (i_callD h__law_number hr (by decide) (a_cons (i_ix hr.units (toP (i_var 0)) (toP (i_int))) (a_cons (i_var 1) (a_nil))))) (toP (i_var 2)))) (toP (i_callD h__law_number hr (by decide) (a_cons (i_ix hr.units (toP (i_var 0)) (toP (i_int))) (a_cons (i_var 1) (a_nil)))))) nd
 exact s_one (s_ret (i_tup (a_cons (i_var 3) (a_cons (i_mulB (toP (i_callD h__law_power hr (by decide) (a_cons (i_var 1) (a_cons (i_len b_len (toP (i_ix hr.units (toP (i_var 0)) (toP (i_int))))) (a_nil))))) (toP (i_var 2))) (a_nil)))))
theorem d__law_first_unlike {fa : Addr} {fd : FuncData} {dV : Value} (F : FunD K "_law_first_unlike" "_law_first_unlike" s__law_first_unlike dV fa fd)
  (b_zip : mg "zip" = none) : FnOk P w K mg base CX0 1 fa fd ["_law_one", "_law_other"] (spI K 2 p__law_first_unlike) := by
 refine fn_iD (k := 0) F sc__law_first_unlike 2 6 b__law_first_unlike rfl rfl fun cdv A outer s H E B hr => ?_
 have nd := sc__law_first_unlike.nd
 refine s_cons ?_ ?_
 ·exact s_set 2 (i_add (toP (i_ix hr.units (toP (i_var 0)) (toP (i_int)))) (toP (i_mulB (toP (i_ix hr.units (toP (i_var 0)) (toP (i_int)))) (toP (i_int))))) nd
 refine s_cons ?_ ?_
 ·exact s_set 3 (i_add (toP (i_ix hr.units (toP (i_var 1)) (toP (i_int)))) (toP (i_mulB (toP (i_ix hr.units (toP (i_var 1)) (toP (i_int)))) (toP (i_int))))) nd
 refine s_cons ?_ ?_
 ·exact s_for (it_zipS b_zip (i_var 2) (i_var 3)) (g_tup rfl (gs_cons 4 (gs_cons 5 (gs_nil) nd) nd)) (s_one (s_if (i_cmpT (op_neD hr.units) sem_ne (toP (i_var 4)) (toP (i_var 5)) (nomark _)) (s_one (s_ret (i_tup (a_cons (i_var 4) (a_cons (i_var 5) (a_nil)))))) (s_nil))) PassesOwn.never rfl
 exact s_one (s_ret (i_tup (a_cons (i_str []) (a_cons (i_str []) (a_nil)))))
theorem d__law_right {fa : Addr} {fd : FuncData} {dV : Value} (F : FunD K "_law_right" "_law_right" s__law_right dV fa fd)
  (h_writings_of : DefOkXF P w K mg base "writings_of" 4 3 p_writings_of)
  (h__law_ends : DefOk P w K mg base "_law_ends" 1 3 p__law_ends)
  (h__law_is_word : DefOk P w K mg base "_law_is_word" 1 2 p__law_is_word)
  (h__law_is_short : DefOk P w K mg base "_law_is_short" 1 1 p__law_is_short)
  (h__law_worth : DefOk P w K mg base "_law_worth" 2 2 p__law_worth)
  (h__law_first_unlike : DefOk P w K mg base "_law_first_unlike" 1 2 p__law_first_unlike)
  (b_int : mg "int" = none)
  (b_isinstance : mg "isinstance" = none)
  (b_list : mg "list" = none)
  (b_len : mg "len" = none) : FnOk P w K mg base CX0 5 fa fd ["_law_top", "_law_bottom", "_law_base"] (spI K 3 p__law_right) := by
 refine fn_iD (k := 4) F sc__law_right 3 10 b__law_right rfl rfl fun cdv A outer s H E B hr => ?_
 have nd := sc__law_right.nd
 exact s_openV (i := 3) (f_callD (DefOkXF.calm h_writings_of) hr (by decide) (a_cons (i_var 0) (a_cons (i_var 1) (a_cons (i_var 2) (a_nil))))) (by exact v_cons (by exact v_setA 4 (i_add (toP (i_int)) (toP (i_toInt b_int (toP (i_and (i_chain op_lt sem_ltI op_lt sem_ltI (toP (i_int)) (toP (i_var 0)) (toP (i_var 1))) (i_and1 (i_callD h__law_ends hr (by decide) (a_cons (i_var 0) (a_cons (i_var 1) (a_cons (i_var 2) (a_nil))))))))))) nd) (by exact v_cons (by exact v_if (PW.pt (t_or (t_not (i_test (i_isinst ty_list b_isinstance b_list (toP (i_var 3))))) (t_or1 (i_cmpT (op_neD hr.units) sem_ne (toP (i_len b_len (toP (i_var 3)))) (toP (i_var 4)) (nomark _))))) (v_one (by exact v_ret (i_bl))) (v_nil)) (by exact v_cons (by exact v_for 5 (v_cons (by exact v_if (PW.pt (t_or (t_not (i_test (i_callD h__law_is_word hr (by decide) (a_cons (i_var 5) (a_cons (i_var 2) (a_nil)))))) (t_or1 (t_not (i_test (i_callD h__law_is_short hr (by decide) (a_cons (i_var 5) (a_nil)))))))) (v_one (by exact v_ret (i_bl))) (v_nil)) (by exact v_cons (by exact v_set 7 (fun _ => i_callD h__law_worth hr (by decide) (a_cons (i_var 5) (a_cons (i_var 2) (a_nil)))) nd) (by exact v_one (by exact v_if (i_cmpT (op_neD hr.units) sem_ne (toP (i_mulB (toP (i_ix hr.units (toP (i_var 7)) (toP (i_int)))) (toP (i_var 1)))) (toP (i_mulB (toP (i_var 0)) (toP (i_ix hr.units (toP (i_var 7)) (toP (i_int)))))) (nomark _)) (v_one (by exact v_ret (i_bl))) (v_nil))))) PassesOwn.never rfl nd) (by exact v_cons (by exact v_if (i_cmpT (op_eqD hr.units) sem_eq (toP (i_var 4)) (toP (i_int)) (nomark _)) (v_cons (by exact v_two 8 9 (i_callD h__law_first_unlike hr (by decide) (a_cons (i_ix hr.units (toP (i_var 3)) (toP (i_int))) (a_cons (i_ix hr.units (toP (i_var 3)) (toP (i_int))) (a_nil)))) nd rfl) (by exact v_one (by exact v_if (i_cmpT op_leS sem_leS (toP (i_var 8)) (toP (i_var 9)) (nomark _)) (v_one (by exact v_ret (i_bl))) (v_nil)))) (v_nil)) (by exact v_cons (by exact v_list 6 b_list nd) (by exact v_gone (s_cons (by exact s_if (PW.pt (t_and (i_cmpT op_le sem_le (toP (i_var 1)) (toP (i_int)) (nomark _)) (t_and1 (i_cmpT (op_neD hr.units) sem_ne (toP (i_callD (DefOkX.calm (DefOkXF.plain h_writings_of)) hr (by decide) (a_cons (i_mulB (toP (i_int)) (toP (i_var 0))) (a_cons (i_mulB (toP (i_int)) (toP (i_var 1))) (a_cons (i_var 2) (a_nil)))))) (toP (i_var 6)) (nomark _))))) (s_one (s_ret (i_bl))) (s_nil)) (by exact s_one (s_ret (i_cmpG (op_eqD hr.units) sem_eq (toP (i_callD (DefOkX.calm (DefOkXF.plain h_writings_of)) hr (by decide) (a_cons (i_var 0) (a_cons (i_var 1) (a_cons (i_var 2) (a_nil)))))) (toP (i_var 6)) (nomark _))))))))))) nd
theorem d_room_from_on {fa : Addr} {fd : FuncData} {dV : Value} (F : FunD K "room_from_on" "room_from_on" s_room_from_on dV fa fd)
  (b_max : mg "max" = none)
  {t_OUT : Tok} (g_OUT : mg "OUT" = some (.int 7 t_OUT)) : FnOk P w K mg base CX0 1 fa fd ["rest", "bottom"] (spI K 2 p_room_from_on) := by
 refine fn_iD (k := 0) F sc_room_from_on 2 2 b_room_from_on rfl rfl fun cdv A outer s H E B hr => ?_
 have nd := sc_room_from_on.nd
 refine s_cons ?_ ?_
 ·exact s_if (i_cmpT op_gt sem_gt (toP (i_var 0)) (toP (i_var 1)) (nomark _)) (s_one (s_ret (i_gint g_OUT))) (s_nil)
 exact s_one (s_ret (i_max2 b_max rfl (toP (i_var 0)) (toP (i_int))))
theorem d_room_up_to {fa : Addr} {fd : FuncData} {dV : Value} (F : FunD K "room_up_to" "room_up_to" s_room_up_to dV fa fd)
  (b_min : mg "min" = none)
  {t_OUT : Tok} (g_OUT : mg "OUT" = some (.int 7 t_OUT)) : FnOk P w K mg base CX0 1 fa fd ["rest", "bottom"] (spI K 2 p_room_up_to) := by
 refine fn_iD (k := 0) F sc_room_up_to 2 2 b_room_up_to rfl rfl fun cdv A outer s H E B hr => ?_
 have nd := sc_room_up_to.nd
 refine s_cons ?_ ?_
 ·exact s_if (i_cmpT op_lt sem_ltI (toP (i_var 0)) (toP (i_int)) (nomark _)) (s_one (s_ret (i_gint g_OUT))) (s_nil)
 exact s_one (s_ret (i_min2 b_min rfl (toP (i_var 0)) (toP (i_var 1))))
theorem d_ways_from {fa : Addr} {fd : FuncData} {dV : Value} (F : FunD K "ways_from" "ways_from" s_ways_from dV fa fd)
  (b_len : mg "len" = none)
  (b_zip : mg "zip" = none)
  {t_LETTERS : Tok} (g_LETTERS : mg "LETTERS" = some (.str "abc" t_LETTERS)) : FnOk P w K mg base CX0 1 fa fd ["steps", "start", "allowed"] (spI K 3 p_ways_from) := by
 refine fn_iD (k := 0) F sc_ways_from 3 9 b_ways_from rfl rfl fun cdv A outer s H E B hr => ?_
 have nd := sc_ways_from.nd
 refine s_cons ?_ ?_
 ·exact s_dnew1 3 (i_var 1) (i_str []) nd
 refine s_cons ?_ ?_
 ·exact s_setO 4 (f_lst (a_cons (i_var 1) (a_nil))) nd
 refine s_cons ?_ ?_
 ·exact s_set 5 (i_int) nd
 refine s_cons ?_ ?_
 ·exact s_while 100000 (i_cmpT op_lt sem_ltI (toP (i_var 5)) (toP (i_len b_len (i_peek 4))) (nomark _)) (s_cons (by exact s_set 6 (i_ix hr.units (i_peek 4) (toP (i_var 5))) nd) (by exact s_cons (by exact s_for (it_zip b_zip (i_gstr [97, 98, 99] g_LETTERS) (i_ix hr.units (toP (i_var 0)) (toP (i_var 6)))) (g_tup rfl (gs_cons 7 (gs_cons 8 (gs_nil) nd) nd)) (s_one (s_if (PW.pt (t_and (i_cmpT (op_inD hr.units) sem_in (toP (i_var 8)) (toP (i_var 2)) rfl) (t_and1 (i_cmpT (op_notInD hr.units) sem_notIn (toP (i_var 8)) (i_peek 3) rfl)))) (s_cons (by exact s_dput hr.units 3 (i_var 8) (i_add (toP (i_ix hr.units (i_peek 3) (toP (i_var 6)))) (toP (i_var 7)))) (by exact s_one (s_app 4 (i_var 8)))) (s_nil))) PassesOwn.never rfl) (by exact s_one (s_set 5 (i_add (toP (i_var 5)) (toP (i_int))) nd)))) PassesOwn.never
 exact s_one (s_fz [3] (s_ret (i_var 3)))
theorem d_is_filled_list {fa : Addr} {fd : FuncData} {dV : Value} (F : FunD K "is_filled_list" "is_filled_list" s_is_filled_list dV fa fd)
  (b_isinstance : mg "isinstance" = none)
  (b_list : mg "list" = none)
  (b_len : mg "len" = none) : FnOk P w K mg base CX0 1 fa fd ["thing", "most"] (spI K 2 p_is_filled_list) := by
 refine fn_iD (k := 0) F sc_is_filled_list 2 2 b_is_filled_list rfl rfl fun cdv A outer s H E B hr => ?_
 have nd := sc_is_filled_list.nd
 exact s_one (s_ret (i_and (i_isinst ty_list b_isinstance b_list (toP (i_var 0))) (i_and (i_cmpG op_ge sem_ge (toP (i_len b_len (toP (i_var 0)))) (toP (i_int)) (nomark _)) (i_and1 (i_cmpG op_le sem_le (toP (i_len b_len (toP (i_var 0)))) (toP (i_var 1)) (nomark _))))))
theorem d_is_row {fa : Addr} {fd : FuncData} {dV : Value} (F : FunD K "is_row" "is_row" s_is_row dV fa fd)
  (h_is_below : DefOk P w K mg base "is_below" 2 2 p_is_below)
  (b_len : mg "len" = none)
  (b_all : mg "all" = none) : FnOk P w K mg base CX0 3 fa fd ["thing", "letters", "rooms"] (spI K 3 p_is_row) := by
 refine fn_iD (k := 2) F sc_is_row 3 4 b_is_row rfl rfl fun cdv A outer s H E B hr => ?_
 have nd := sc_is_row.nd
 exact s_one (s_ret (i_and (i_cmpG (op_eqD hr.units) sem_eq (toP (i_len b_len (toP (i_var 0)))) (toP (i_var 1)) (nomark _)) (i_and1 (i_all b_all rfl (toP (i_comp [3] sub_N (.of rfl) (it_e (i_var 0)) (fun _ _ _ _ _ => g_name 3 nd) (fun _ _ _ _ _ => i_callD h_is_below hr (by decide) (a_cons (i_var 3) (a_cons (i_var 2) (a_nil)))) rfl))))))
theorem d_are_steps {fa : Addr} {fd : FuncData} {dV : Value} (F : FunD K "are_steps" "are_steps" s_are_steps dV fa fd)
  (h_is_filled_list : DefOk P w K mg base "is_filled_list" 1 2 p_is_filled_list)
  (h_is_row : DefOk P w K mg base "is_row" 3 3 p_is_row)
  (b_all : mg "all" = none)
  (b_len : mg "len" = none)
  {t_MOST_ROOMS : Tok} (g_MOST_ROOMS : mg "MOST_ROOMS" = some (.int 8 t_MOST_ROOMS))
  {t_MOST_LETTERS : Tok} (g_MOST_LETTERS : mg "MOST_LETTERS" = some (.int 3 t_MOST_LETTERS)) : FnOk P w K mg base CX0 4 fa fd ["thing"] (spI K 1 p_are_steps) := by
 refine fn_iD (k := 3) F sc_are_steps 1 2 b_are_steps rfl rfl fun cdv A outer s H E B hr => ?_
 have nd := sc_are_steps.nd
 refine s_cons ?_ ?_
 ·exact s_if (t_not (i_test (i_callD h_is_filled_list hr (by decide) (a_cons (i_var 0) (a_cons (i_gint g_MOST_ROOMS) (a_nil)))))) (s_one (s_ret (i_bl))) (s_nil)
 refine s_cons ?_ ?_
 ·exact s_if (t_not (i_test (i_all b_all rfl (toP (i_comp [1] sub_N (.of rfl) (it_e (i_var 0)) (fun _ _ _ _ _ => g_name 1 nd) (fun _ _ _ _ _ => i_callD h_is_filled_list hr (by decide) (a_cons (i_var 1) (a_cons (i_gint g_MOST_LETTERS) (a_nil)))) rfl))))) (s_one (s_ret (i_bl))) (s_nil)
 exact s_one (s_ret (i_all b_all rfl (toP (i_comp [1] sub_N (.of rfl) (it_e (i_var 0)) (fun _ _ _ _ _ => g_name 1 nd) (fun _ _ _ _ _ => i_callD h_is_row hr (by decide) (a_cons (i_var 1) (a_cons (i_len b_len (toP (i_ix hr.units (toP (i_var 0)) (toP (i_int))))) (a_cons (i_len b_len (toP (i_var 0))) (a_nil))))) rfl))))
theorem d_are_ranks {fa : Addr} {fd : FuncData} {dV : Value} (F : FunD K "are_ranks" "are_ranks" s_are_ranks dV fa fd)
  (h_is_whole : DefOk P w K mg base "is_whole" 1 1 p_is_whole)
  (b_isinstance : mg "isinstance" = none)
  (b_list : mg "list" = none)
  (b_len : mg "len" = none)
  (b_all : mg "all" = none) : FnOk P w K mg base CX0 2 fa fd ["thing", "rooms"] (spI K 2 p_are_ranks) := by
 refine fn_iD (k := 1) F sc_are_ranks 2 3 b_are_ranks rfl rfl fun cdv A outer s H E B hr => ?_
 have nd := sc_are_ranks.nd
 refine s_cons ?_ ?_
 ·exact s_if (PW.pt (t_or (t_not (i_test (i_isinst ty_list b_isinstance b_list (toP (i_var 0))))) (t_or1 (i_cmpT (op_neD hr.units) sem_ne (toP (i_len b_len (toP (i_var 0)))) (toP (i_var 1)) (nomark _))))) (s_one (s_ret (i_bl))) (s_nil)
 exact s_one (s_ret (i_all b_all rfl (toP (i_comp [2] sub_N (.of rfl) (it_e (i_var 0)) (fun _ _ _ _ _ => g_name 2 nd) (fun _ _ _ _ _ => i_and (i_callD h_is_whole hr (by decide) (a_cons (i_var 2) (a_nil))) (i_and1 (i_cmpG op_ge sem_ge (toP (i_var 2)) (toP (i_int)) (nomark _)))) rfl))))
theorem d_Machine___init__ {fa : Addr} {fd : FuncData} (F : Fun K "__init__" "Machine.__init__" s_Machine___init__ fa fd)
  (h_are_steps : DefOk P w K mg base "are_steps" 4 1 p_are_steps)
  (h_are_ranks : DefOk P w K mg base "are_ranks" 2 2 p_are_ranks)
  {A_Machine : Addr} (c_Machine : ClsAt K "Machine" A_Machine)
  (na_Machine_steps : NoAttr K A_Machine (Str.ofString "steps"))
  (na_Machine_ranks : NoAttr K A_Machine (Str.ofString "ranks"))
  (na_Machine_many : NoAttr K A_Machine (Str.ofString "many"))
  (na_Machine_letters : NoAttr K A_Machine (Str.ofString "letters"))
  (b_len : mg "len" = none)
  (b_list : mg "list" = none) : FnOk P w K mg base CX0 5 fa fd ["self", "steps", "ranks"] (spM K "Machine" 2 p_Machine___init__) := by
 refine fn_init (k := 4) F sc_Machine___init__ "Machine" 2 4 b_Machine___init__ rfl rfl fun cdv A outer s H E B hr => ?_
 have nd := sc_Machine___init__.nd
 refine s_cons ?_ ?_
 ·exact s_if (t_not (i_test (i_callD h_are_steps hr (by decide) (a_cons (i_var 1) (a_nil))))) (s_one (s_never)) (s_nil)
 refine s_cons ?_ ?_
 ·exact s_if (t_not (i_test (i_callD h_are_ranks hr (by decide) (a_cons (i_var 2) (a_cons (i_len b_len (toP (i_var 1))) (a_nil)))))) (s_one (s_never)) (s_nil)
 refine s_cons ?_ ?_
 ·exact s_fldO 0 c_Machine na_Machine_steps (i_comp [3] sub_N (.of rfl) (it_e (i_var 1)) (fun _ _ _ _ _ => g_name 3 nd) (fun _ _ _ _ _ => i_list b_list (toP (i_var 3))) rfl)
 refine s_cons ?_ ?_
 ·exact s_fldO 0 c_Machine na_Machine_ranks (i_list b_list (toP (i_var 2)))
 refine s_cons ?_ ?_
 ·exact s_fldO 0 c_Machine na_Machine_many (i_len b_len (toP (i_var 1)))
 exact s_one (s_fldO 0 c_Machine na_Machine_letters (i_len b_len (toP (i_ix hr.units (toP (i_var 1)) (toP (i_int))))))
theorem d_machine_of {fa : Addr} {fd : FuncData} {dV : Value} (F : FunD K "machine_of" "machine_of" s_machine_of dV fa fd)
  (h_check_fraction : DefOkX P w K mg base "check_fraction" 3 3 p_check_fraction)
  (h_room_from_on : DefOk P w K mg base "room_from_on" 1 2 p_room_from_on)
  (h_room_up_to : DefOk P w K mg base "room_up_to" 1 2 p_room_up_to)
  (h_ways_from : DefOk P w K mg base "ways_from" 1 3 p_ways_from)
  (k_Machine : MakeOk P w K mg base "Machine" 5 2 p_Machine___init__)
  (b_range : mg "range" = none)
  (b_list : mg "list" = none)
  {t_OUT : Tok} (g_OUT : mg "OUT" = some (.int 7 t_OUT)) : FnOk P w K mg base (CX1 P w) 7 fa fd ["top", "bottom", "base", "room_for"] (spE K 4 p_machine_of) := by
 refine fn_x (k := 6) (sm := false) F sc_machine_of 4 10 b_machine_of rfl rfl fun cdv A outer s H E B W hr hL => ?_
 have nd := sc_machine_of.nd
 refine x_cons (s1 := false) (s2 := false) ?_ ?_
 ·exact x_any (x_exp (i_callX h_check_fraction hL hr (by decide) (a_cons (i_var 0) (a_cons (i_var 1) (a_cons (i_var 2) (a_nil))))))
 refine x_cons (s1 := false) (s2 := false) ?_ ?_
 ·exact x_lift (s1 := false) (s_dnewV 4 (i_gint g_OUT) (i_repL (a_cons (i_gint g_OUT) (a_nil)) (toP (i_var 2))) nd)
 refine x_cons (s1 := false) (s2 := false) ?_ ?_
 ·exact x_lift (s1 := false) (s_for (it_r1 b_range (toP (i_add (toP (i_var 1)) (toP (i_int))))) (g_name 5 nd) (s_one (s_dput hr.units 4 (i_var 5) (i_comp [8] sub_N (.of rfl) (it_r1 b_range (toP (i_var 2))) (fun _ _ _ _ _ => g_name 8 nd) (fun _ _ _ _ _ => i_callV2 3 h_room_from_on h_room_up_to hr (by decide) (by decide) (a_cons (i_sub (toP (i_mulB (toP (i_var 2)) (toP (i_var 5)))) (toP (i_mulB (toP (i_var 8)) (toP (i_var 1))))) (a_cons (i_var 1) (a_nil)))) rfl))) PassesOwn.leaving rfl)
 refine x_cons (s1 := false) (s2 := false) ?_ ?_
 ·exact x_lift (s1 := false) (s_fz [4] (s_set 6 (i_listD b_list rfl (i_callD h_ways_from hr (by decide) (a_cons (i_var 4) (a_cons (i_var 0) (a_cons (i_listD b_list rfl (i_var 4)) (a_nil)))))) nd))
 refine x_cons (s1 := false) (s2 := false) ?_ ?_
 ·exact x_lift (s1 := false) (s_setC 7 [5] sub_N (.of rfl) (it_e (i_var 6)) (fun _ _ _ _ _ => g_name 5 nd) (fun _ _ _ _ _ => i_ifx (i_cmpT (op_eqD hr.units) sem_eq (toP (i_var 5)) (toP (i_gint g_OUT)) (nomark _)) (i_int) (i_int)) rfl nd)
 exact x_one (x_lift (s1 := false) (s_ret (i_make k_Machine hr (by decide) (a_cons (i_comp [5] sub_N (.of rfl) (it_e (i_var 6)) (fun _ _ _ _ _ => g_name 5 nd) (fun _ _ _ _ _ => i_comp [9] sub_N (.of rfl) (it_e (i_ix hr.units (i_peek 4) (toP (i_var 5)))) (fun _ _ _ _ _ => g_name 9 nd) (fun _ _ _ _ _ => i_lindex (toP (i_var 6)) (a_cons (i_var 9) (a_nil))) rfl) rfl) (a_cons (i_var 7) (a_nil))))))
theorem d_up_to {fa : Addr} {fd : FuncData} {dV : Value} (F : FunD K "up_to" "up_to" s_up_to dV fa fd)
  (h_machine_of : DefOkX P w K mg base "machine_of" 7 4 p_machine_of)
  {V_room_up_to : Addr} (fv_room_up_to : PySem.W.nsIn K mainGlobals (Str.ofString "room_up_to") = some (some (.ref V_room_up_to)))
  (fm_room_up_to : mg (Str.ofString "room_up_to") = some (.ref V_room_up_to)) : FnOk P w K mg base (CX1 P w) 8 fa fd ["top", "bottom", "base"] (spE K 3 p_up_to) := by
 refine fn_x (k := 7) (sm := false) F sc_up_to 3 3 b_up_to rfl rfl fun cdv A outer s H E B W hr hL => ?_
 have nd := sc_up_to.nd
 exact x_one (x_any (x_ret (i_callX h_machine_of hL hr (by decide) (a_cons (i_var 0) (a_cons (i_var 1) (a_cons (i_var 2) (a_cons (i_gfn fv_room_up_to fm_room_up_to) (a_nil))))))))
theorem d_from_on {fa : Addr} {fd : FuncData} {dV : Value} (F : FunD K "from_on" "from_on" s_from_on dV fa fd)
  (h_machine_of : DefOkX P w K mg base "machine_of" 7 4 p_machine_of)
  {V_room_from_on : Addr} (fv_room_from_on : PySem.W.nsIn K mainGlobals (Str.ofString "room_from_on") = some (some (.ref V_room_from_on)))
  (fm_room_from_on : mg (Str.ofString "room_from_on") = some (.ref V_room_from_on)) : FnOk P w K mg base (CX1 P w) 8 fa fd ["top", "bottom", "base"] (spE K 3 p_from_on) := by
 refine fn_x (k := 7) (sm := false) F sc_from_on 3 3 b_from_on rfl rfl fun cdv A outer s H E B W hr hL => ?_
 have nd := sc_from_on.nd
 exact x_one (x_any (x_ret (i_callX h_machine_of hL hr (by decide) (a_cons (i_var 0) (a_cons (i_var 1) (a_cons (i_var 2) (a_cons (i_gfn fv_room_from_on fm_room_from_on) (a_nil))))))))
theorem d__law_no_fraction {fa : Addr} {fd : FuncData} {dV : Value} (F : FunD K "_law_no_fraction" "_law_no_fraction" s__law_no_fraction dV fa fd)
  (h_writings_of : DefOkXF P w K mg base "writings_of" 4 3 p_writings_of)
  (h_up_to : DefOkX P w K mg base "up_to" 8 3 p_up_to)
  (h_from_on : DefOkX P w K mg base "from_on" 8 3 p_from_on)
  {X_NoFraction : Addr} {bm_NoFraction : List Value} (e_NoFraction : ExcAt K "NoFraction" X_NoFraction bm_NoFraction)
  (ge_NoFraction : mg (Str.ofString "NoFraction") = some (.ref X_NoFraction))
  (ia_NoFraction_NoFraction : IsA K X_NoFraction true "NoFraction")
  (ia_NoFraction_NoMachine : IsA K X_NoFraction false "NoMachine") : FnOk P w K mg base CX0 9 fa fd ["_law_way", "_law_top", "_law_bottom", "_law_base"] (spI K 4 p__law_no_fraction) := by
 refine fn_iD (k := 8) F sc__law_no_fraction 4 5 b__law_no_fraction rfl rfl fun cdv A outer s H E B hr => ?_
 have nd := sc__law_no_fraction.nd
 refine s_cons ?_ ?_
 ·exact s_set 4 (i_bl) nd
 refine s_cons ?_ ?_
 ·exact s_try (fun _ _ _ hL1 => x_one (x_if (s1 := true) (i_cmpT (op_eqD hr.units) sem_eq (toP (i_var 0)) (toP (i_int)) (nomark _)) (x_one (x_exp (i_callX (DefOkXF.plain h_writings_of) hL1 hr (by decide) (a_cons (i_var 1) (a_cons (i_var 2) (a_cons (i_var 3) (a_nil))))))) (x_one (x_if (s1 := true) (i_cmpT (op_eqD hr.units) sem_eq (toP (i_var 0)) (toP (i_int)) (nomark _)) (x_one (x_exp (i_callX h_up_to hL1 hr (by decide) (a_cons (i_var 1) (a_cons (i_var 2) (a_cons (i_var 3) (a_nil))))))) (x_one (x_exp (i_callX h_from_on hL1 hr (by decide) (a_cons (i_var 1) (a_cons (i_var 2) (a_cons (i_var 3) (a_nil))))))))))) (phd_cons e_NoFraction ge_NoFraction (by intro c hc; simp only [List.mem_cons, List.not_mem_nil, or_false] at hc; rcases hc with rfl <;> assumption) (by intro c hc; simp only [List.mem_cons, List.not_mem_nil, or_false] at hc; rcases hc with rfl <;> assumption) (fun _ => s_one (s_set 4 (i_bl) nd)) (phd_nil))
 exact s_one (s_ret (i_var 4))
theorem d__law_refused {fa : Addr} {fd : FuncData} {dV : Value} (F : FunD K "_law_refused" "_law_refused" s__law_refused dV fa fd)
  (h__law_pick : DefOk P w K mg base "_law_pick" 1 3 p__law_pick)
  (h__law_no_fraction : DefOk P w K mg base "_law_no_fraction" 9 4 p__law_no_fraction)
  (b_range : mg "range" = none) : FnOk P w K mg base CX0 10 fa fd ["_law_cell_here", "_law_top", "_law_bottom", "_law_base"] (spI K 4 p__law_refused) := by
 refine fn_iD (k := 9) F sc__law_refused 4 7 b__law_refused rfl rfl fun cdv A outer s H E B hr => ?_
 have nd := sc__law_refused.nd
 refine s_cons ?_ ?_
 ·exact s_set 4 (i_add (toP (i_int)) (toP (i_mulB (toP (i_callD h__law_pick hr (by decide) (a_cons (i_var 0) (a_cons (i_int) (a_cons (i_pow (toP (i_int)) (toP (i_int))) (a_nil)))))) (toP (i_pow (toP (i_int)) (toP (i_int))))))) nd
 refine s_cons ?_ ?_
 ·exact s_for (it_r1 b_range (toP (i_int))) (g_name 5 nd) (s_cons (by exact s_for (it_e (i_lst (a_cons (i_int) (a_cons (i_int) (a_cons (i_int) (a_cons (i_neg (toP (i_int))) (a_cons (i_var 4) (a_cons (i_bl) (a_cons (i_non) (a_cons (i_str [50]) (a_nil))))))))))) (g_name 6 nd) (s_one (s_if (t_not (i_test (i_callD h__law_no_fraction hr (by decide) (a_cons (i_var 5) (a_cons (i_var 1) (a_cons (i_var 2) (a_cons (i_var 6) (a_nil)))))))) (s_one (s_ret (i_bl))) (s_nil))) PassesOwn.never rfl) (by exact s_cons (by exact s_for (it_e (i_lst (a_cons (i_int) (a_cons (i_neg (toP (i_int))) (a_cons (i_int) (a_cons (i_var 4) (a_cons (i_bl) (a_cons (i_non) (a_cons (i_str [51]) (a_cons (i_lst (a_cons (i_int) (a_nil))) (a_nil))))))))))) (g_name 6 nd) (s_one (s_if (t_not (i_test (i_callD h__law_no_fraction hr (by decide) (a_cons (i_var 5) (a_cons (i_int) (a_cons (i_var 6) (a_cons (i_var 3) (a_nil)))))))) (s_one (s_ret (i_bl))) (s_nil))) PassesOwn.never rfl) (by exact s_one (s_for (it_e (i_lst (a_cons (i_neg (toP (i_int))) (a_cons (i_add (toP (i_var 2)) (toP (i_int))) (a_cons (i_var 4) (a_cons (i_bl) (a_cons (i_non) (a_cons (i_str [49]) (a_cons (i_tup (a_cons (i_int) (a_nil))) (a_nil)))))))))) (g_name 6 nd) (s_one (s_if (t_not (i_test (i_callD h__law_no_fraction hr (by decide) (a_cons (i_var 5) (a_cons (i_var 6) (a_cons (i_var 2) (a_cons (i_var 3) (a_nil)))))))) (s_one (s_ret (i_bl))) (s_nil))) PassesOwn.never rfl)))) PassesOwn.never rfl
 exact s_one (s_ret (i_bl))
theorem d_law {fa : Addr} {fd : FuncData} {dV : Value} (F : FunD K "law" "law" s_law dV fa fd)
  (h__law_cell : DefOk P w K mg base "_law_cell" 1 2 p__law_cell)
  (h__law_pick : DefOk P w K mg base "_law_pick" 1 3 p__law_pick)
  (h__law_digits : DefOk P w K mg base "_law_digits" 1 2 p__law_digits)
  (h__law_right : DefOk P w K mg base "_law_right" 5 3 p__law_right)
  (h__law_refused : DefOk P w K mg base "_law_refused" 10 4 p__law_refused)
  (b_range : mg "range" = none)
  (b_max : mg "max" = none)
  (b_min : mg "min" = none)
  (b_len : mg "len" = none) : FnOk P w K mg base CX0 11 fa fd ["_law_script"] (spI K 1 p_law) := by
 refine fn_iD (k := 10) F sc_law 1 8 b_law rfl rfl fun cdv A outer s H E B hr => ?_
 have nd := sc_law.nd
 refine s_cons ?_ ?_
 ·exact s_set 1 (i_callD h__law_cell hr (by decide) (a_cons (i_var 0) (a_cons (i_int) (a_nil)))) nd
 refine s_cons ?_ ?_
 ·exact s_for (it_r2 b_range (toP (i_int)) (toP (i_max2 b_max rfl (toP (i_int)) (toP (i_min2 b_min rfl (toP (i_len b_len (toP (i_var 0)))) (toP (i_int))))))) (g_name 2 nd) (s_cons (by exact s_set 3 (i_callD h__law_cell hr (by decide) (a_cons (i_var 0) (a_cons (i_var 2) (a_nil)))) nd) (by exact s_cons (by exact s_set 4 (i_lst (a_cons (i_callD h__law_pick hr (by decide) (a_cons (i_var 3) (a_cons (i_int) (a_cons (i_int) (a_nil))))) (a_cons (i_callD h__law_pick hr (by decide) (a_cons (i_var 3) (a_cons (i_int) (a_cons (i_int) (a_nil))))) (a_cons (i_callD h__law_pick hr (by decide) (a_cons (i_var 3) (a_cons (i_int) (a_cons (i_int) (a_nil))))) (a_nil))))) nd) (by exact s_cons (by exact s_if (i_cmpT (op_eqD hr.units) sem_eq (toP (i_mod (toP (i_var 3)) (toP (i_int)))) (toP (i_int)) (nomark _)) (s_one (s_set 4 (i_callD h__law_digits hr (by decide) (a_cons (i_fdivB (toP (i_var 3)) (toP (i_int))) (a_cons (i_lst (a_cons (i_int) (a_cons (i_int) (a_cons (i_int) (a_nil))))) (a_nil)))) nd)) (s_nil)) (by exact s_cons (by exact s_set 5 (i_add (toP (i_int)) (toP (i_ix hr.units (toP (i_var 4)) (toP (i_int))))) nd) (by exact s_cons (by exact s_set 6 (i_mod (toP (i_ix hr.units (toP (i_var 4)) (toP (i_int)))) (toP (i_add (toP (i_var 5)) (toP (i_int))))) nd) (by exact s_cons (by exact s_set 7 (i_add (toP (i_int)) (toP (i_ix hr.units (toP (i_var 4)) (toP (i_int))))) nd) (by exact s_cons (by exact s_if (t_not (i_test (i_callD h__law_right hr (by decide) (a_cons (i_var 6) (a_cons (i_var 5) (a_cons (i_var 7) (a_nil))))))) (s_one (s_ret (i_bl))) (s_nil)) (by exact s_one (s_if (PW.pt (t_and (i_cmpT (op_eqD hr.units) sem_eq (toP (i_var 2)) (toP (i_int)) (nomark _)) (t_and1 (t_not (i_test (i_callD h__law_refused hr (by decide) (a_cons (i_var 1) (a_cons (i_var 6) (a_cons (i_var 5) (a_cons (i_var 7) (a_nil))))))))))) (s_one (s_ret (i_bl))) (s_nil)))))))))) PassesOwn.never rfl
 exact s_one (s_ret (i_bl))
end
theorem all_mk {l : PySem.W.OpenLaw} {w : World} {K : PySem.W.Frag} {h : Heap} {mg : Str -> Option Value} {fa : Addr} {BE newE initE : String} {bmE : List Value} (FE : ExcBaseFacts BE newE initE bmE) (X : K.In h) (G : h.Ns mainGlobals mg) (hfa : mg "law" = some (.ref fa))
  {A_Machine : Addr} {X_NoFraction : Addr} {X_NoMachine : Addr} {f1 : Addr} {od1 an1 : Option Addr} {sl1 : Array (Option Value)} {oc1 kV1 dc1 pm1 cd1 ct1 : Value} {f2 : Addr} {od2 an2 : Option Addr} {sl2 : Array (Option Value)} {oc2 kV2 dc2 pm2 cd2 ct2 : Value} {f3 : Addr} {od3 an3 : Option Addr} {sl3 : Array (Option Value)} {oc3 kV3 dc3 pm3 cd3 ct3 : Value} {f4 : Addr} {od4 an4 : Option Addr} {sl4 : Array (Option Value)} {oc4 kV4 dc4 pm4 cd4 ct4 : Value} {f5 : Addr} {od5 an5 : Option Addr} {sl5 : Array (Option Value)} {oc5 kV5 dc5 pm5 cd5 ct5 : Value} {f6 : Addr} {od6 an6 : Option Addr} {sl6 : Array (Option Value)} {oc6 kV6 dc6 pm6 cd6 ct6 : Value} {f7 : Addr} {od7 an7 : Option Addr} {sl7 : Array (Option Value)} {oc7 kV7 dc7 pm7 cd7 ct7 : Value} {f8 : Addr} {od8 an8 : Option Addr} {sl8 : Array (Option Value)} {oc8 kV8 dc8 pm8 cd8 ct8 : Value} {f9 : Addr} {od9 an9 : Option Addr} {sl9 : Array (Option Value)} {oc9 kV9 dc9 pm9 cd9 ct9 : Value} {f10 : Addr} {od10 an10 : Option Addr} {sl10 : Array (Option Value)} {oc10 kV10 dc10 pm10 cd10 ct10 : Value} {f11 : Addr} {od11 an11 : Option Addr} {sl11 : Array (Option Value)} {oc11 kV11 dc11 pm11 cd11 ct11 : Value} {f12 : Addr} {od12 an12 : Option Addr} {sl12 : Array (Option Value)} {oc12 kV12 dc12 pm12 cd12 ct12 : Value} {f13 : Addr} {od13 an13 : Option Addr} {sl13 : Array (Option Value)} {oc13 kV13 dc13 pm13 cd13 ct13 : Value} {f14 : Addr} {od14 an14 : Option Addr} {sl14 : Array (Option Value)} {oc14 kV14 dc14 pm14 cd14 ct14 : Value} {f15 : Addr} {od15 an15 : Option Addr} {sl15 : Array (Option Value)} {oc15 kV15 dc15 pm15 cd15 ct15 : Value} {f16 : Addr} {od16 an16 : Option Addr} {sl16 : Array (Option Value)} {oc16 kV16 dc16 pm16 cd16 ct16 : Value} {f17 : Addr} {od17 an17 : Option Addr} {sl17 : Array (Option Value)} {oc17 kV17 dc17 pm17 cd17 ct17 : Value} {f18 : Addr} {od18 an18 : Option Addr} {sl18 : Array (Option Value)} {oc18 kV18 dc18 pm18 cd18 ct18 : Value} {f19 : Addr} {od19 an19 : Option Addr} {sl19 : Array (Option Value)} {oc19 kV19 dc19 pm19 cd19 ct19 : Value} {f20 : Addr} {od20 an20 : Option Addr} {sl20 : Array (Option Value)} {oc20 kV20 dc20 pm20 cd20 ct20 : Value} {f21 : Addr} {od21 an21 : Option Addr} {sl21 : Array (Option Value)} {oc21 kV21 dc21 pm21 cd21 ct21 : Value} {f22 : Addr} {od22 an22 : Option Addr} {sl22 : Array (Option Value)} {oc22 kV22 dc22 pm22 cd22 ct22 : Value} {f23 : Addr} {od23 an23 : Option Addr} {sl23 : Array (Option Value)} {oc23 kV23 dc23 pm23 cd23 ct23 : Value} {f24 : Addr} {od24 an24 : Option Addr} {sl24 : Array (Option Value)} {oc24 kV24 dc24 pm24 cd24 ct24 : Value} {f25 : Addr} {od25 an25 : Option Addr} {sl25 : Array (Option Value)} {oc25 kV25 dc25 pm25 cd25 ct25 : Value} {f26 : Addr} {od26 an26 : Option Addr} {sl26 : Array (Option Value)} {oc26 kV26 dc26 pm26 cd26 ct26 : Value} {f27 : Addr} {od27 an27 : Option Addr} {sl27 : Array (Option Value)} {oc27 kV27 dc27 pm27 cd27 ct27 : Value} {f28 : Addr} {od28 an28 : Option Addr} {sl28 : Array (Option Value)} {oc28 kV28 dc28 pm28 cd28 ct28 : Value} {f29 : Addr} {od29 an29 : Option Addr} {sl29 : Array (Option Value)} {oc29 kV29 dc29 pm29 cd29 ct29 : Value} {f30 : Addr} {od30 an30 : Option Addr} {sl30 : Array (Option Value)} {oc30 kV30 dc30 pm30 cd30 ct30 : Value} {f31 : Addr} {od31 an31 : Option Addr} {sl31 : Array (Option Value)} {oc31 kV31 dc31 pm31 cd31 ct31 : Value} {t_LETTERS : Tok} {t_MOST_BOTTOM : Tok} {t_MOST_LETTERS : Tok} {t_MOST_ROOMS : Tok} {t_OUT : Tok} {T_BASES : Addr} {God_BASES : Option Addr} {Gsl_BASES : Array (Option Value)} {Gn_BASES : Nat} {Gk0_BASES : Tok} {Gk1_BASES : Tok}
  (x_Machine : PySem.W.nsIn K mainGlobals (Str.ofString "Machine") = some (some (.ref A_Machine)))
  (x1_Machine : PySem.W.plainGet K A_Machine Str.empty = true)
  (x2_Machine : PySem.W.hasDictIn K A_Machine = true)
  (x3_Machine : PySem.W.plainOver K A_Machine = true)
  (x4_Machine : PySem.W.findIn K (.ref A_Machine) "__setattr__" = some (some (.builtin "object.__setattr__")))
  (x5_Machine : PySem.W.makesIn K A_Machine = true)
  (x6_Machine : PySem.W.keepIn K (.ref A_Machine) = true)
  (w_Machine_letters : PySem.W.findIn K (.ref A_Machine) (Str.ofString "letters") = some none)
  (w_Machine_many : PySem.W.findIn K (.ref A_Machine) (Str.ofString "many") = some none)
  (w_Machine_ranks : PySem.W.findIn K (.ref A_Machine) (Str.ofString "ranks") = some none)
  (w_Machine_steps : PySem.W.findIn K (.ref A_Machine) (Str.ofString "steps") = some none)
  (y3 : PySem.W.specialIn K (.builtin "object.__class__") "__get__" = some (some (.builtin "getset_descriptor.__get__")))
  (y4 : PySem.W.takesIn K (.builtin "object.__class__") = some true)
  (y_NoFraction : PySem.W.nsIn K mainGlobals (Str.ofString "NoFraction") = some (some (.ref X_NoFraction)))
  (y0_NoFraction : PySem.W.excIn K X_NoFraction bmE newE = true)
  (y1_NoFraction : PySem.W.findIn K (.ref X_NoFraction) "__getattribute__" = some (some (.builtin "BaseException.__getattribute__")))
  (y6_NoFraction : PySem.W.findIn K (.ref X_NoFraction) "__getattr__" = some none)
  (y7_NoFraction : PySem.W.mroIn K X_NoFraction (.type "BaseException") = some true)
  (y2_NoFraction : PySem.W.findIn K (.ref X_NoFraction) "__class__" = some (some (.builtin "object.__class__")))
  (y5_NoFraction : PySem.W.mroIn K X_NoFraction (.type "object") = some true)
  (y_NoMachine : PySem.W.nsIn K mainGlobals (Str.ofString "NoMachine") = some (some (.ref X_NoMachine)))
  (y0_NoMachine : PySem.W.excIn K X_NoMachine bmE newE = true)
  (y1_NoMachine : PySem.W.findIn K (.ref X_NoMachine) "__getattribute__" = some (some (.builtin "BaseException.__getattribute__")))
  (y6_NoMachine : PySem.W.findIn K (.ref X_NoMachine) "__getattr__" = some none)
  (y7_NoMachine : PySem.W.mroIn K X_NoMachine (.type "BaseException") = some true)
  (y2_NoMachine : PySem.W.findIn K (.ref X_NoMachine) "__class__" = some (some (.builtin "object.__class__")))
  (y5_NoMachine : PySem.W.mroIn K X_NoMachine (.type "object") = some true)
  (ja_NoFraction_NoFraction : PySem.W.mroIn K X_NoFraction (.ref X_NoFraction) = some true)
  (ja_NoFraction_NoMachine : PySem.W.mroIn K X_NoMachine (.ref X_NoFraction) = some false)
  (a1 : PySem.W.nsIn K mainGlobals "_law_cell" = some (some (.ref f1)))
  (l1 : K.lookup f1 = some ⟨oc1, od1, .func (PySem.W.fnOf "_law_cell" "_law_cell" (defArgs s__law_cell) (defBody s__law_cell) (defScope s__law_cell) .none kV1 dc1 pm1 an1 cd1 ct1), sl1⟩)
  (c1 : PySem.W.codeIn K cd1 "_law_cell" = true)
  (k1 : PySem.W.keepIn K (.ref f1) = true)
  (a2 : PySem.W.nsIn K mainGlobals "_law_pick" = some (some (.ref f2)))
  (l2 : K.lookup f2 = some ⟨oc2, od2, .func (PySem.W.fnOf "_law_pick" "_law_pick" (defArgs s__law_pick) (defBody s__law_pick) (defScope s__law_pick) .none kV2 dc2 pm2 an2 cd2 ct2), sl2⟩)
  (c2 : PySem.W.codeIn K cd2 "_law_pick" = true)
  (k2 : PySem.W.keepIn K (.ref f2) = true)
  (a3 : PySem.W.nsIn K mainGlobals "_law_digits" = some (some (.ref f3)))
  (l3 : K.lookup f3 = some ⟨oc3, od3, .func (PySem.W.fnOf "_law_digits" "_law_digits" (defArgs s__law_digits) (defBody s__law_digits) (defScope s__law_digits) .none kV3 dc3 pm3 an3 cd3 ct3), sl3⟩)
  (c3 : PySem.W.codeIn K cd3 "_law_digits" = true)
  (k3 : PySem.W.keepIn K (.ref f3) = true)
  (a4 : PySem.W.nsIn K mainGlobals "is_whole" = some (some (.ref f4)))
  (l4 : K.lookup f4 = some ⟨oc4, od4, .func (PySem.W.fnOf "is_whole" "is_whole" (defArgs s_is_whole) (defBody s_is_whole) (defScope s_is_whole) .none kV4 dc4 pm4 an4 cd4 ct4), sl4⟩)
  (c4 : PySem.W.codeIn K cd4 "is_whole" = true)
  (k4 : PySem.W.keepIn K (.ref f4) = true)
  (a5 : PySem.W.nsIn K mainGlobals "check_base" = some (some (.ref f5)))
  (l5 : K.lookup f5 = some ⟨oc5, od5, .func (PySem.W.fnOf "check_base" "check_base" (defArgs s_check_base) (defBody s_check_base) (defScope s_check_base) .none kV5 dc5 pm5 an5 cd5 ct5), sl5⟩)
  (c5 : PySem.W.codeIn K cd5 "check_base" = true)
  (k5 : PySem.W.keepIn K (.ref f5) = true)
  (a6 : PySem.W.nsIn K mainGlobals "is_below" = some (some (.ref f6)))
  (l6 : K.lookup f6 = some ⟨oc6, od6, .func (PySem.W.fnOf "is_below" "is_below" (defArgs s_is_below) (defBody s_is_below) (defScope s_is_below) .none kV6 dc6 pm6 an6 cd6 ct6), sl6⟩)
  (c6 : PySem.W.codeIn K cd6 "is_below" = true)
  (k6 : PySem.W.keepIn K (.ref f6) = true)
  (a7 : PySem.W.nsIn K mainGlobals "check_fraction" = some (some (.ref f7)))
  (l7 : K.lookup f7 = some ⟨oc7, od7, .func (PySem.W.fnOf "check_fraction" "check_fraction" (defArgs s_check_fraction) (defBody s_check_fraction) (defScope s_check_fraction) .none kV7 dc7 pm7 an7 cd7 ct7), sl7⟩)
  (c7 : PySem.W.codeIn K cd7 "check_fraction" = true)
  (k7 : PySem.W.keepIn K (.ref f7) = true)
  (a8 : PySem.W.nsIn K mainGlobals "writing_of" = some (some (.ref f8)))
  (l8 : K.lookup f8 = some ⟨oc8, od8, .func (PySem.W.fnOf "writing_of" "writing_of" (defArgs s_writing_of) (defBody s_writing_of) (defScope s_writing_of) .none kV8 dc8 pm8 an8 cd8 ct8), sl8⟩)
  (c8 : PySem.W.codeIn K cd8 "writing_of" = true)
  (k8 : PySem.W.keepIn K (.ref f8) = true)
  (a9 : PySem.W.nsIn K mainGlobals "writings_of" = some (some (.ref f9)))
  (l9 : K.lookup f9 = some ⟨oc9, od9, .func (PySem.W.fnOf "writings_of" "writings_of" (defArgs s_writings_of) (defBody s_writings_of) (defScope s_writings_of) .none kV9 dc9 pm9 an9 cd9 ct9), sl9⟩)
  (c9 : PySem.W.codeIn K cd9 "writings_of" = true)
  (k9 : PySem.W.keepIn K (.ref f9) = true)
  (a10 : PySem.W.nsIn K mainGlobals "_law_ends" = some (some (.ref f10)))
  (l10 : K.lookup f10 = some ⟨oc10, od10, .func (PySem.W.fnOf "_law_ends" "_law_ends" (defArgs s__law_ends) (defBody s__law_ends) (defScope s__law_ends) .none kV10 dc10 pm10 an10 cd10 ct10), sl10⟩)
  (c10 : PySem.W.codeIn K cd10 "_law_ends" = true)
  (k10 : PySem.W.keepIn K (.ref f10) = true)
  (a11 : PySem.W.nsIn K mainGlobals "_law_is_word" = some (some (.ref f11)))
  (l11 : K.lookup f11 = some ⟨oc11, od11, .func (PySem.W.fnOf "_law_is_word" "_law_is_word" (defArgs s__law_is_word) (defBody s__law_is_word) (defScope s__law_is_word) .none kV11 dc11 pm11 an11 cd11 ct11), sl11⟩)
  (c11 : PySem.W.codeIn K cd11 "_law_is_word" = true)
  (k11 : PySem.W.keepIn K (.ref f11) = true)
  (a12 : PySem.W.nsIn K mainGlobals "_law_is_short" = some (some (.ref f12)))
  (l12 : K.lookup f12 = some ⟨oc12, od12, .func (PySem.W.fnOf "_law_is_short" "_law_is_short" (defArgs s__law_is_short) (defBody s__law_is_short) (defScope s__law_is_short) .none kV12 dc12 pm12 an12 cd12 ct12), sl12⟩)
  (c12 : PySem.W.codeIn K cd12 "_law_is_short" = true)
  (k12 : PySem.W.keepIn K (.ref f12) = true)
  (a13 : PySem.W.nsIn K mainGlobals "_law_power" = some (some (.ref f13)))
  (l13 : K.lookup f13 = some ⟨oc13, od13, .func (PySem.W.fnOf "_law_power" "_law_power" (defArgs s__law_power) (defBody s__law_power) (defScope s__law_power) .none kV13 dc13 pm13 an13 cd13 ct13), sl13⟩)
  (c13 : PySem.W.codeIn K cd13 "_law_power" = true)
  (k13 : PySem.W.keepIn K (.ref f13) = true)
  (a14 : PySem.W.nsIn K mainGlobals "_law_number" = some (some (.ref f14)))
  (l14 : K.lookup f14 = some ⟨oc14, od14, .func (PySem.W.fnOf "_law_number" "_law_number" (defArgs s__law_number) (defBody s__law_number) (defScope s__law_number) .none kV14 dc14 pm14 an14 cd14 ct14), sl14⟩)
  (c14 : PySem.W.codeIn K cd14 "_law_number" = true)
  (k14 : PySem.W.keepIn K (.ref f14) = true)
  (a15 : PySem.W.nsIn K mainGlobals "_law_worth" = some (some (.ref f15)))
  (l15 : K.lookup f15 = some ⟨oc15, od15, .func (PySem.W.fnOf "_law_worth" "_law_worth" (defArgs s__law_worth) (defBody s__law_worth) (defScope s__law_worth) .none kV15 dc15 pm15 an15 cd15 ct15), sl15⟩)
  (c15 : PySem.W.codeIn K cd15 "_law_worth" = true)
  (k15 : PySem.W.keepIn K (.ref f15) = true)
  (a16 : PySem.W.nsIn K mainGlobals "_law_first_unlike" = some (some (.ref f16)))
  (l16 : K.lookup f16 = some ⟨oc16, od16, .func (PySem.W.fnOf "_law_first_unlike" "_law_first_unlike" (defArgs s__law_first_unlike) (defBody s__law_first_unlike) (defScope s__law_first_unlike) .none kV16 dc16 pm16 an16 cd16 ct16), sl16⟩)
  (c16 : PySem.W.codeIn K cd16 "_law_first_unlike" = true)
  (k16 : PySem.W.keepIn K (.ref f16) = true)
  (a17 : PySem.W.nsIn K mainGlobals "_law_right" = some (some (.ref f17)))
  (l17 : K.lookup f17 = some ⟨oc17, od17, .func (PySem.W.fnOf "_law_right" "_law_right" (defArgs s__law_right) (defBody s__law_right) (defScope s__law_right) .none kV17 dc17 pm17 an17 cd17 ct17), sl17⟩)
  (c17 : PySem.W.codeIn K cd17 "_law_right" = true)
  (k17 : PySem.W.keepIn K (.ref f17) = true)
  (a18 : PySem.W.nsIn K mainGlobals "room_from_on" = some (some (.ref f18)))
  (l18 : K.lookup f18 = some ⟨oc18, od18, .func (PySem.W.fnOf "room_from_on" "room_from_on" (defArgs s_room_from_on) (defBody s_room_from_on) (defScope s_room_from_on) .none kV18 dc18 pm18 an18 cd18 ct18), sl18⟩)
  (c18 : PySem.W.codeIn K cd18 "room_from_on" = true)
  (k18 : PySem.W.keepIn K (.ref f18) = true)
  (a19 : PySem.W.nsIn K mainGlobals "room_up_to" = some (some (.ref f19)))
  (l19 : K.lookup f19 = some ⟨oc19, od19, .func (PySem.W.fnOf "room_up_to" "room_up_to" (defArgs s_room_up_to) (defBody s_room_up_to) (defScope s_room_up_to) .none kV19 dc19 pm19 an19 cd19 ct19), sl19⟩)
  (c19 : PySem.W.codeIn K cd19 "room_up_to" = true)
  (k19 : PySem.W.keepIn K (.ref f19) = true)
  (a20 : PySem.W.nsIn K mainGlobals "ways_from" = some (some (.ref f20)))
  (l20 : K.lookup f20 = some ⟨oc20, od20, .func (PySem.W.fnOf "ways_from" "ways_from" (defArgs s_ways_from) (defBody s_ways_from) (defScope s_ways_from) .none kV20 dc20 pm20 an20 cd20 ct20), sl20⟩)
  (c20 : PySem.W.codeIn K cd20 "ways_from" = true)
  (k20 : PySem.W.keepIn K (.ref f20) = true)
  (a21 : PySem.W.nsIn K mainGlobals "is_filled_list" = some (some (.ref f21)))
  (l21 : K.lookup f21 = some ⟨oc21, od21, .func (PySem.W.fnOf "is_filled_list" "is_filled_list" (defArgs s_is_filled_list) (defBody s_is_filled_list) (defScope s_is_filled_list) .none kV21 dc21 pm21 an21 cd21 ct21), sl21⟩)
  (c21 : PySem.W.codeIn K cd21 "is_filled_list" = true)
  (k21 : PySem.W.keepIn K (.ref f21) = true)
  (a22 : PySem.W.nsIn K mainGlobals "is_row" = some (some (.ref f22)))
  (l22 : K.lookup f22 = some ⟨oc22, od22, .func (PySem.W.fnOf "is_row" "is_row" (defArgs s_is_row) (defBody s_is_row) (defScope s_is_row) .none kV22 dc22 pm22 an22 cd22 ct22), sl22⟩)
  (c22 : PySem.W.codeIn K cd22 "is_row" = true)
  (k22 : PySem.W.keepIn K (.ref f22) = true)
  (a23 : PySem.W.nsIn K mainGlobals "are_steps" = some (some (.ref f23)))
  (l23 : K.lookup f23 = some ⟨oc23, od23, .func (PySem.W.fnOf "are_steps" "are_steps" (defArgs s_are_steps) (defBody s_are_steps) (defScope s_are_steps) .none kV23 dc23 pm23 an23 cd23 ct23), sl23⟩)
  (c23 : PySem.W.codeIn K cd23 "are_steps" = true)
  (k23 : PySem.W.keepIn K (.ref f23) = true)
  (a24 : PySem.W.nsIn K mainGlobals "are_ranks" = some (some (.ref f24)))
  (l24 : K.lookup f24 = some ⟨oc24, od24, .func (PySem.W.fnOf "are_ranks" "are_ranks" (defArgs s_are_ranks) (defBody s_are_ranks) (defScope s_are_ranks) .none kV24 dc24 pm24 an24 cd24 ct24), sl24⟩)
  (c24 : PySem.W.codeIn K cd24 "are_ranks" = true)
  (k24 : PySem.W.keepIn K (.ref f24) = true)
  (a25 : PySem.W.findIn K (.ref A_Machine) (Str.ofString "__init__") = some (some (.ref f25)))
  (e25 : PySem.W.isFn K (.ref f25) = true)
  (l25 : K.lookup f25 = some ⟨oc25, od25, .func (PySem.W.fnOf "__init__" "Machine.__init__" (defArgs s_Machine___init__) (defBody s_Machine___init__) (defScope s_Machine___init__) .none kV25 dc25 pm25 an25 cd25 ct25), sl25⟩)
  (c25 : PySem.W.codeIn K cd25 "Machine.__init__" = true)
  (k25 : PySem.W.keepIn K (.ref f25) = true)
  (a26 : PySem.W.nsIn K mainGlobals "machine_of" = some (some (.ref f26)))
  (l26 : K.lookup f26 = some ⟨oc26, od26, .func (PySem.W.fnOf "machine_of" "machine_of" (defArgs s_machine_of) (defBody s_machine_of) (defScope s_machine_of) .none kV26 dc26 pm26 an26 cd26 ct26), sl26⟩)
  (c26 : PySem.W.codeIn K cd26 "machine_of" = true)
  (k26 : PySem.W.keepIn K (.ref f26) = true)
  (a27 : PySem.W.nsIn K mainGlobals "up_to" = some (some (.ref f27)))
  (l27 : K.lookup f27 = some ⟨oc27, od27, .func (PySem.W.fnOf "up_to" "up_to" (defArgs s_up_to) (defBody s_up_to) (defScope s_up_to) .none kV27 dc27 pm27 an27 cd27 ct27), sl27⟩)
  (c27 : PySem.W.codeIn K cd27 "up_to" = true)
  (k27 : PySem.W.keepIn K (.ref f27) = true)
  (a28 : PySem.W.nsIn K mainGlobals "from_on" = some (some (.ref f28)))
  (l28 : K.lookup f28 = some ⟨oc28, od28, .func (PySem.W.fnOf "from_on" "from_on" (defArgs s_from_on) (defBody s_from_on) (defScope s_from_on) .none kV28 dc28 pm28 an28 cd28 ct28), sl28⟩)
  (c28 : PySem.W.codeIn K cd28 "from_on" = true)
  (k28 : PySem.W.keepIn K (.ref f28) = true)
  (a29 : PySem.W.nsIn K mainGlobals "_law_no_fraction" = some (some (.ref f29)))
  (l29 : K.lookup f29 = some ⟨oc29, od29, .func (PySem.W.fnOf "_law_no_fraction" "_law_no_fraction" (defArgs s__law_no_fraction) (defBody s__law_no_fraction) (defScope s__law_no_fraction) .none kV29 dc29 pm29 an29 cd29 ct29), sl29⟩)
  (c29 : PySem.W.codeIn K cd29 "_law_no_fraction" = true)
  (k29 : PySem.W.keepIn K (.ref f29) = true)
  (a30 : PySem.W.nsIn K mainGlobals "_law_refused" = some (some (.ref f30)))
  (l30 : K.lookup f30 = some ⟨oc30, od30, .func (PySem.W.fnOf "_law_refused" "_law_refused" (defArgs s__law_refused) (defBody s__law_refused) (defScope s__law_refused) .none kV30 dc30 pm30 an30 cd30 ct30), sl30⟩)
  (c30 : PySem.W.codeIn K cd30 "_law_refused" = true)
  (k30 : PySem.W.keepIn K (.ref f30) = true)
  (a31 : PySem.W.nsIn K mainGlobals "law" = some (some (.ref f31)))
  (l31 : K.lookup f31 = some ⟨oc31, od31, .func (PySem.W.fnOf "law" "law" (defArgs s_law) (defBody s_law) (defScope s_law) .none kV31 dc31 pm31 an31 cd31 ct31), sl31⟩)
  (c31 : PySem.W.codeIn K cd31 "law" = true)
  (k31 : PySem.W.keepIn K (.ref f31) = true)
  (v_LETTERS : PySem.W.nsIn K mainGlobals "LETTERS" = some (some (.str "abc" t_LETTERS)))
  (v_MOST_BOTTOM : PySem.W.nsIn K mainGlobals "MOST_BOTTOM" = some (some (.int 6 t_MOST_BOTTOM)))
  (v_MOST_LETTERS : PySem.W.nsIn K mainGlobals "MOST_LETTERS" = some (some (.int 3 t_MOST_LETTERS)))
  (v_MOST_ROOMS : PySem.W.nsIn K mainGlobals "MOST_ROOMS" = some (some (.int 8 t_MOST_ROOMS)))
  (v_OUT : PySem.W.nsIn K mainGlobals "OUT" = some (some (.int 7 t_OUT)))
  (v_BASES : PySem.W.nsIn K mainGlobals "BASES" = some (some (.ref T_BASES)))
  (u_BASES : K.lookup T_BASES = some ⟨.type "tuple", God_BASES, .seq #[.int 2 Gk0_BASES, .int 3 Gk1_BASES] Gn_BASES, Gsl_BASES⟩)
  (z_all : PySem.W.nsIn K mainGlobals "all" = some none)
  (z_bool : PySem.W.nsIn K mainGlobals "bool" = some none)
  (z_int : PySem.W.nsIn K mainGlobals "int" = some none)
  (z_isinstance : PySem.W.nsIn K mainGlobals "isinstance" = some none)
  (z_len : PySem.W.nsIn K mainGlobals "len" = some none)
  (z_list : PySem.W.nsIn K mainGlobals "list" = some none)
  (z_max : PySem.W.nsIn K mainGlobals "max" = some none)
  (z_min : PySem.W.nsIn K mainGlobals "min" = some none)
  (z_range : PySem.W.nsIn K mainGlobals "range" = some none)
  (z_str : PySem.W.nsIn K mainGlobals "str" = some none)
  (z_tuple : PySem.W.nsIn K mainGlobals "tuple" = some none)
  (z_zip : PySem.W.nsIn K mainGlobals "zip" = some none) :
  ∃ fd : FuncData, (∀ (s : Shared) (v : Value), BindsTo s fd ⟨[v], []⟩ [("_law_script", v)]) /\ ∀ base : Heap, K.In base -> base.Ns mainGlobals mg -> FnOk l.prog w K mg base CX0 11 fa fd ["_law_script"] (spI K 1 p_law) := by
 have e := hfa.symm.trans (PySem.W.mg_of X G a31)
 cases e
 have c_Machine : ClsAt K "Machine" A_Machine := ⟨x_Machine, x1_Machine, x2_Machine, x3_Machine, x4_Machine⟩
 have na_Machine_letters : NoAttr K A_Machine (Str.ofString "letters") := w_Machine_letters
 have na_Machine_many : NoAttr K A_Machine (Str.ofString "many") := w_Machine_many
 have na_Machine_ranks : NoAttr K A_Machine (Str.ofString "ranks") := w_Machine_ranks
 have na_Machine_steps : NoAttr K A_Machine (Str.ofString "steps") := w_Machine_steps
 obtain ⟨bm_NoFraction, e_NoFraction⟩ := excAt_mk FE y_NoFraction y0_NoFraction y1_NoFraction y6_NoFraction y7_NoFraction y2_NoFraction y3 y4 y5_NoFraction
 have ge_NoFraction := PySem.W.mg_of X G y_NoFraction
 obtain ⟨bm_NoMachine, e_NoMachine⟩ := excAt_mk FE y_NoMachine y0_NoMachine y1_NoMachine y6_NoMachine y7_NoMachine y2_NoMachine y3 y4 y5_NoMachine
 have ge_NoMachine := PySem.W.mg_of X G y_NoMachine
 have ia_NoFraction_NoFraction : IsA K X_NoFraction true "NoFraction" := isA_mk X y_NoFraction ja_NoFraction_NoFraction
 have ia_NoFraction_NoMachine : IsA K X_NoFraction false "NoMachine" := isA_mk X y_NoMachine ja_NoFraction_NoMachine
 have F1 := funD_mk (st := s__law_cell) l1 c1 k1
 have b1 := F1.binds0 (ps := ["_law_script", "_law_k"]) fun _ _ _ _ _ _ => of_len2 (fun _ _ => rfl)
 have F2 := funD_mk (st := s__law_pick) l2 c2 k2
 have b2 := F2.binds0 (ps := ["_law_cell_here", "_law_k", "_law_many"]) fun _ _ _ _ _ _ => of_len3 (fun _ _ _ => rfl)
 have F3 := funD_mk (st := s__law_digits) l3 c3 k3
 have b3 := F3.binds0 (ps := ["_law_cell_here", "_law_sizes"]) fun _ _ _ _ _ _ => of_len2 (fun _ _ => rfl)
 have F4 := funD_mk (st := s_is_whole) l4 c4 k4
 have b4 := F4.binds0 (ps := ["thing"]) fun _ _ _ _ _ _ => of_len1 (fun _ => rfl)
 have F5 := funD_mk (st := s_check_base) l5 c5 k5
 have b5 := F5.binds0 (ps := ["thing"]) fun _ _ _ _ _ _ => of_len1 (fun _ => rfl)
 have F6 := funD_mk (st := s_is_below) l6 c6 k6
 have b6 := F6.binds0 (ps := ["thing", "limit"]) fun _ _ _ _ _ _ => of_len2 (fun _ _ => rfl)
 have F7 := funD_mk (st := s_check_fraction) l7 c7 k7
 have b7 := F7.binds0 (ps := ["top", "bottom", "base"]) fun _ _ _ _ _ _ => of_len3 (fun _ _ _ => rfl)
 have F8 := funD_mk (st := s_writing_of) l8 c8 k8
 have b8 := F8.binds0 (ps := ["top", "bottom", "base", "least"]) fun _ _ _ _ _ _ => of_len4 (fun _ _ _ _ => rfl)
 have F9 := funD_mk (st := s_writings_of) l9 c9 k9
 have b9 := F9.binds0 (ps := ["top", "bottom", "base"]) fun _ _ _ _ _ _ => of_len3 (fun _ _ _ => rfl)
 have F10 := funD_mk (st := s__law_ends) l10 c10 k10
 have b10 := F10.binds0 (ps := ["_law_top", "_law_bottom", "_law_base"]) fun _ _ _ _ _ _ => of_len3 (fun _ _ _ => rfl)
 have F11 := funD_mk (st := s__law_is_word) l11 c11 k11
 have b11 := F11.binds0 (ps := ["_law_thing", "_law_base"]) fun _ _ _ _ _ _ => of_len2 (fun _ _ => rfl)
 have F12 := funD_mk (st := s__law_is_short) l12 c12 k12
 have b12 := F12.binds0 (ps := ["_law_word"]) fun _ _ _ _ _ _ => of_len1 (fun _ => rfl)
 have F13 := funD_mk (st := s__law_power) l13 c13 k13
 have b13 := F13.binds0 (ps := ["_law_base", "_law_many"]) fun _ _ _ _ _ _ => of_len2 (fun _ _ => rfl)
 have F14 := funD_mk (st := s__law_number) l14 c14 k14
 have b14 := F14.binds0 (ps := ["_law_text", "_law_base"]) fun _ _ _ _ _ _ => of_len2 (fun _ _ => rfl)
 have F15 := funD_mk (st := s__law_worth) l15 c15 k15
 have b15 := F15.binds0 (ps := ["_law_word", "_law_base"]) fun _ _ _ _ _ _ => of_len2 (fun _ _ => rfl)
 have F16 := funD_mk (st := s__law_first_unlike) l16 c16 k16
 have b16 := F16.binds0 (ps := ["_law_one", "_law_other"]) fun _ _ _ _ _ _ => of_len2 (fun _ _ => rfl)
 have F17 := funD_mk (st := s__law_right) l17 c17 k17
 have b17 := F17.binds0 (ps := ["_law_top", "_law_bottom", "_law_base"]) fun _ _ _ _ _ _ => of_len3 (fun _ _ _ => rfl)
 have F18 := funD_mk (st := s_room_from_on) l18 c18 k18
 have b18 := F18.binds0 (ps := ["rest", "bottom"]) fun _ _ _ _ _ _ => of_len2 (fun _ _ => rfl)
 have F19 := funD_mk (st := s_room_up_to) l19 c19 k19
 have b19 := F19.binds0 (ps := ["rest", "bottom"]) fun _ _ _ _ _ _ => of_len2 (fun _ _ => rfl)
 have F20 := funD_mk (st := s_ways_from) l20 c20 k20
 have b20 := F20.binds0 (ps := ["steps", "start", "allowed"]) fun _ _ _ _ _ _ => of_len3 (fun _ _ _ => rfl)
 have F21 := funD_mk (st := s_is_filled_list) l21 c21 k21
 have b21 := F21.binds0 (ps := ["thing", "most"]) fun _ _ _ _ _ _ => of_len2 (fun _ _ => rfl)
 have F22 := funD_mk (st := s_is_row) l22 c22 k22
 have b22 := F22.binds0 (ps := ["thing", "letters", "rooms"]) fun _ _ _ _ _ _ => of_len3 (fun _ _ _ => rfl)
 have F23 := funD_mk (st := s_are_steps) l23 c23 k23
 have b23 := F23.binds0 (ps := ["thing"]) fun _ _ _ _ _ _ => of_len1 (fun _ => rfl)
 have F24 := funD_mk (st := s_are_ranks) l24 c24 k24
 have b24 := F24.binds0 (ps := ["thing", "rooms"]) fun _ _ _ _ _ _ => of_len2 (fun _ _ => rfl)
 have F25 := fun_mk (st := s_Machine___init__) l25 c25 k25
 have b25 := F25.binds (ps := ["self", "steps", "ranks"]) fun _ _ _ _ _ _ => of_len3 (fun _ _ _ => rfl)
 have F26 := funD_mk (st := s_machine_of) l26 c26 k26
 have b26 := F26.binds0 (ps := ["top", "bottom", "base", "room_for"]) fun _ _ _ _ _ _ => of_len4 (fun _ _ _ _ => rfl)
 have F27 := funD_mk (st := s_up_to) l27 c27 k27
 have b27 := F27.binds0 (ps := ["top", "bottom", "base"]) fun _ _ _ _ _ _ => of_len3 (fun _ _ _ => rfl)
 have F28 := funD_mk (st := s_from_on) l28 c28 k28
 have b28 := F28.binds0 (ps := ["top", "bottom", "base"]) fun _ _ _ _ _ _ => of_len3 (fun _ _ _ => rfl)
 have F29 := funD_mk (st := s__law_no_fraction) l29 c29 k29
 have b29 := F29.binds0 (ps := ["_law_way", "_law_top", "_law_bottom", "_law_base"]) fun _ _ _ _ _ _ => of_len4 (fun _ _ _ _ => rfl)
 have F30 := funD_mk (st := s__law_refused) l30 c30 k30
 have b30 := F30.binds0 (ps := ["_law_cell_here", "_law_top", "_law_bottom", "_law_base"]) fun _ _ _ _ _ _ => of_len4 (fun _ _ _ _ => rfl)
 have F31 := funD_mk (st := s_law) l31 c31 k31
 have b31 := F31.binds0 (ps := ["_law_script"]) fun _ _ _ _ _ _ => of_len1 (fun _ => rfl)
 have b_all := PySem.W.mg_none_of X G z_all
 have b_bool := PySem.W.mg_none_of X G z_bool
 have b_int := PySem.W.mg_none_of X G z_int
 have b_isinstance := PySem.W.mg_none_of X G z_isinstance
 have b_len := PySem.W.mg_none_of X G z_len
 have b_list := PySem.W.mg_none_of X G z_list
 have b_max := PySem.W.mg_none_of X G z_max
 have b_min := PySem.W.mg_none_of X G z_min
 have b_range := PySem.W.mg_none_of X G z_range
 have b_str := PySem.W.mg_none_of X G z_str
 have b_tuple := PySem.W.mg_none_of X G z_tuple
 have b_zip := PySem.W.mg_none_of X G z_zip
 have g_LETTERS := PySem.W.mg_of X G v_LETTERS
 have g_MOST_BOTTOM := PySem.W.mg_of X G v_MOST_BOTTOM
 have g_MOST_LETTERS := PySem.W.mg_of X G v_MOST_LETTERS
 have g_MOST_ROOMS := PySem.W.mg_of X G v_MOST_ROOMS
 have g_OUT := PySem.W.mg_of X G v_OUT
 have gt_BASES : GTup K T_BASES [2, 3] := ⟨_, _, _, u_BASES, rfl, rfl, (show 2 <= sizeLine by decide), .cons ⟨_, rfl⟩ (.cons ⟨_, rfl⟩ (.nil))⟩
 have gm_BASES := PySem.W.mg_of X G v_BASES
 have fv_room_from_on := a18
 have fm_room_from_on := PySem.W.mg_of X G a18
 have fv_room_up_to := a19
 have fm_room_up_to := PySem.W.mg_of X G a19
 refine ⟨PySem.W.fnOf "law" "law" (defArgs s_law) (defBody s_law) (defScope s_law) .none kV31 dc31 pm31 an31 cd31 ct31, fun s v => .of_eq rfl, fun base _ _ => ?_⟩
 have f__law_cell := d__law_cell (P := l.prog) (w := w) (mg := mg) (base := base) F1 b_len
 have h__law_cell := DefOk.of f__law_cell (PySem.W.mg_of X G a1) F1.kp b1 runD_len
 have f__law_pick := d__law_pick (P := l.prog) (w := w) (mg := mg) (base := base) F2 
 have h__law_pick := DefOk.of f__law_pick (PySem.W.mg_of X G a2) F2.kp b2 runD_len
 have f__law_digits := d__law_digits (P := l.prog) (w := w) (mg := mg) (base := base) F3 
 have h__law_digits := DefOk.of f__law_digits (PySem.W.mg_of X G a3) F3.kp b3 runD_len
 have f_is_whole := d_is_whole (P := l.prog) (w := w) (mg := mg) (base := base) F4 b_isinstance b_int b_bool
 have h_is_whole := DefOk.of f_is_whole (PySem.W.mg_of X G a4) F4.kp b4 runD_len
 have f_check_base := d_check_base (P := l.prog) (w := w) (mg := mg) (base := base) F5 h_is_whole e_NoFraction ge_NoFraction gt_BASES gm_BASES
 have h_check_base := DefOkX.of f_check_base (PySem.W.mg_of X G a5) F5.kp b5
 have f_is_below := d_is_below (P := l.prog) (w := w) (mg := mg) (base := base) F6 h_is_whole
 have h_is_below := DefOk.of f_is_below (PySem.W.mg_of X G a6) F6.kp b6 runD_len
 have f_check_fraction := d_check_fraction (P := l.prog) (w := w) (mg := mg) (base := base) F7 h_check_base h_is_below e_NoFraction ge_NoFraction g_MOST_BOTTOM
 have h_check_fraction := DefOkX.of f_check_fraction (PySem.W.mg_of X G a7) F7.kp b7
 have f_writing_of := d_writing_of (P := l.prog) (w := w) (mg := mg) (base := base) F8 b_len g_LETTERS
 have h_writing_of := DefOk.of f_writing_of (PySem.W.mg_of X G a8) F8.kp b8 runD_len
 have f_writings_of := d_writings_of (P := l.prog) (w := w) (mg := mg) (base := base) F9 h_check_fraction h_writing_of
 have h_writings_of := DefOkXF.of f_writings_of (PySem.W.mg_of X G a9) F9.kp b9
 have f__law_ends := d__law_ends (P := l.prog) (w := w) (mg := mg) (base := base) F10 b_range
 have h__law_ends := DefOk.of f__law_ends (PySem.W.mg_of X G a10) F10.kp b10 runD_len
 have f__law_is_word := d__law_is_word (P := l.prog) (w := w) (mg := mg) (base := base) F11 b_isinstance b_tuple b_len b_str
 have h__law_is_word := DefOk.of f__law_is_word (PySem.W.mg_of X G a11) F11.kp b11 runD_len
 have f__law_is_short := d__law_is_short (P := l.prog) (w := w) (mg := mg) (base := base) F12 b_range b_len
 have h__law_is_short := DefOk.of f__law_is_short (PySem.W.mg_of X G a12) F12.kp b12 runD_len
 have f__law_power := d__law_power (P := l.prog) (w := w) (mg := mg) (base := base) F13 b_range
 have h__law_power := DefOk.of f__law_power (PySem.W.mg_of X G a13) F13.kp b13 runD_len
 have f__law_number := d__law_number (P := l.prog) (w := w) (mg := mg) (base := base) F14 
 have h__law_number := DefOk.of f__law_number (PySem.W.mg_of X G a14) F14.kp b14 runD_len
 have f__law_worth := d__law_worth (P := l.prog) (w := w) (mg := mg) (base := base) F15 h__law_power h__law_number b_len
 have h__law_worth := DefOk.of f__law_worth (PySem.W.mg_of X G a15) F15.kp b15 runD_len
 have f__law_first_unlike := d__law_first_unlike (P := l.prog) (w := w) (mg := mg) (base := base) F16 b_zip
 have h__law_first_unlike := DefOk.of f__law_first_unlike (PySem.W.mg_of X G a16) F16.kp b16 runD_len
 have f__law_right := d__law_right (P := l.prog) (w := w) (mg := mg) (base := base) F17 h_writings_of h__law_ends h__law_is_word h__law_is_short h__law_worth h__law_first_unlike b_int b_isinstance b_list b_len
 have h__law_right := DefOk.of f__law_right (PySem.W.mg_of X G a17) F17.kp b17 runD_len
 have f_room_from_on := d_room_from_on (P := l.prog) (w := w) (mg := mg) (base := base) F18 b_max g_OUT
 have h_room_from_on := DefOk.of f_room_from_on (PySem.W.mg_of X G a18) F18.kp b18 runD_len
 have f_room_up_to := d_room_up_to (P := l.prog) (w := w) (mg := mg) (base := base) F19 b_min g_OUT
 have h_room_up_to := DefOk.of f_room_up_to (PySem.W.mg_of X G a19) F19.kp b19 runD_len
 have f_ways_from := d_ways_from (P := l.prog) (w := w) (mg := mg) (base := base) F20 b_len b_zip g_LETTERS
 have h_ways_from := DefOk.of f_ways_from (PySem.W.mg_of X G a20) F20.kp b20 runD_len
 have f_is_filled_list := d_is_filled_list (P := l.prog) (w := w) (mg := mg) (base := base) F21 b_isinstance b_list b_len
 have h_is_filled_list := DefOk.of f_is_filled_list (PySem.W.mg_of X G a21) F21.kp b21 runD_len
 have f_is_row := d_is_row (P := l.prog) (w := w) (mg := mg) (base := base) F22 h_is_below b_len b_all
 have h_is_row := DefOk.of f_is_row (PySem.W.mg_of X G a22) F22.kp b22 runD_len
 have f_are_steps := d_are_steps (P := l.prog) (w := w) (mg := mg) (base := base) F23 h_is_filled_list h_is_row b_all b_len g_MOST_ROOMS g_MOST_LETTERS
 have h_are_steps := DefOk.of f_are_steps (PySem.W.mg_of X G a23) F23.kp b23 runD_len
 have f_are_ranks := d_are_ranks (P := l.prog) (w := w) (mg := mg) (base := base) F24 h_is_whole b_isinstance b_list b_len b_all
 have h_are_ranks := DefOk.of f_are_ranks (PySem.W.mg_of X G a24) F24.kp b24 runD_len
 have f_Machine___init__ := d_Machine___init__ (P := l.prog) (w := w) (mg := mg) (base := base) F25 h_are_steps h_are_ranks c_Machine na_Machine_steps na_Machine_ranks na_Machine_many na_Machine_letters b_len b_list
 have k_Machine := MakeOk.of c_Machine ⟨x5_Machine, a25, e25, x6_Machine⟩ f_Machine___init__ b25 (PySem.W.mg_of X G x_Machine)
 have f_machine_of := d_machine_of (P := l.prog) (w := w) (mg := mg) (base := base) F26 h_check_fraction h_room_from_on h_room_up_to h_ways_from k_Machine b_range b_list g_OUT
 have h_machine_of := DefOkX.of f_machine_of (PySem.W.mg_of X G a26) F26.kp b26
 have f_up_to := d_up_to (P := l.prog) (w := w) (mg := mg) (base := base) F27 h_machine_of fv_room_up_to fm_room_up_to
 have h_up_to := DefOkX.of f_up_to (PySem.W.mg_of X G a27) F27.kp b27
 have f_from_on := d_from_on (P := l.prog) (w := w) (mg := mg) (base := base) F28 h_machine_of fv_room_from_on fm_room_from_on
 have h_from_on := DefOkX.of f_from_on (PySem.W.mg_of X G a28) F28.kp b28
 have f__law_no_fraction := d__law_no_fraction (P := l.prog) (w := w) (mg := mg) (base := base) F29 h_writings_of h_up_to h_from_on e_NoFraction ge_NoFraction ia_NoFraction_NoFraction ia_NoFraction_NoMachine
 have h__law_no_fraction := DefOk.of f__law_no_fraction (PySem.W.mg_of X G a29) F29.kp b29 runD_len
 have f__law_refused := d__law_refused (P := l.prog) (w := w) (mg := mg) (base := base) F30 h__law_pick h__law_no_fraction b_range
 have h__law_refused := DefOk.of f__law_refused (PySem.W.mg_of X G a30) F30.kp b30 runD_len
 have f_law := d_law (P := l.prog) (w := w) (mg := mg) (base := base) F31 h__law_cell h__law_pick h__law_digits h__law_right h__law_refused b_range b_max b_min b_len
 exact f_law
theorem walkX_z {q : Program} {loose : List Str} {XP : (Str -> Option Value) -> Heap -> Prop} {K : Params -> PySem.W.Frag} {as : List Addr} {n t : Nat} {r : PySem.W.RowW} {d : DefRec} {kwd : List (Str × Expr)} {run : Value -> List Value -> Sem Value} (e : ∀ P, as = (K P).map (·.1)) (h : PySem.W.WalkO q loose XP (PySem.W.InK K) r d kwd run) : PySem.W.WalkX q loose XP (PySem.W.X.obsZ as) (PySem.W.X.valZ K n t) r d kwd run :=
 fun w s₀ s₁ mg mb G y a o pm cd doc dV kV h1 h2 h3 h4 h5 h6 args vals as' L h7 h8 h9 h10 h11 => h w s₀ s₁ mg mb G (PySem.W.InK.keeps w _ _ (PySem.W.X.z_facts e y).2.1 L.keeps) a o pm cd doc dV kV h1 h2 h3 h4 h5 h6 args vals as' h7 h8 h9 h10 h11
theorem walk {l : PySem.W.OpenLaw} {q : Program} {loose : List Str} {XP : (Str -> Option Value) -> Heap -> Prop} {YP : World -> Heap -> Prop} {d : DefRec} {K : Params -> PySem.W.Frag} (hn : l.most = some 63) (hdf : d.params.defaults = [])
  (hY : ∀ (w : World) (h : Heap), YP w h -> (K w.params).In h)
  (hlaw : ∀ ns : List Int, ns.length <= 63 -> p_law [.lst (ns.map D.int)] = .ok (.bl true))
  (F : ∀ (w : World) (mg : Str -> Option Value) (fa : Addr) (h : Heap), (K w.params).In h -> h.Ns mainGlobals mg -> mg d.name = some (.ref fa) ->
   ∃ fd : FuncData, (∀ (s : Shared) (u : Value), BindsTo s fd ⟨[u], []⟩ [("_law_script", u)]) /\ ∀ base : Heap, (K w.params).In base -> base.Ns mainGlobals mg -> FnOk l.prog w (K w.params) mg base CX0 11 fa fd ["_law_script"] (spI (K w.params) 1 p_law)) :
  PySem.W.WalkO q loose XP YP l.row.toRowW d [] (fun f vs => PySem.call f vs) :=
 L2.walk_of (n := 63) (k := 11) (x := "_law_script") (CX := fun _ => CX0) (sp := fun w => spI (K w.params) 1 p_law) hn (by decide) hdf ⟨rfl, by decide, by decide⟩ hY F (fun _ _ a ns hl _ hS => law_sp hS (hlaw ns hl)) fun _ _ _ _ _ z => z
end Pu
namespace PySem.W.Fast
def tw12020818486988677637:=0
def tw17124204394059563566:=0
def tw8907987372458009431:=0
def tw16277502877858164009:=0
def tw7763995990841428645:=0
def tw16553637053412345760:=0
def tw13770686701340987959:=0
def tw16557574873557772819:=0
def tw7479892318082198908:=0
def tw17663453098332618114:=0
def tw18224383882109503552:=0
def tw616179238730315566:=0
def tw4195648891862348573:=0
def tw103789581156329792:=0
def tw12205187872682730756:=0
def tw13984098440977763785:=0
def tw5353020627183477976:=0
def tw15937034641286677580:=0
def tw13962361241019635127:=0
def tw13766530453468207704:=0
def tw11658290809161080255:=0
def tw2162253437045292541:=0
def tw3244045035554169507:=0
def tw5311756667030344443:=0
def tw10970369240100279366:=0
def tw8902009936238417935:=0
def tw12861294613559425891:=0
def tw8753085506848886476:=0
def tw18191048705747719181:=0
def tw13529262902683966434:=0
def tw2952149575543705973:=0
def tw11138772445994905704:=0
def tw3928777856578159445:=0
def tw8315887249730025372:=0
def tw11495997196340814951:=0
def tw8567870337686498211:=0
def tw11968569972159870221:=0
def tw11441063925714496067:=0
def tw7257326404780590773:=0
def tw14309482560375138045:=0
def tw65750302632736201:=0
def tw7317551780243174232:=0
def tw13414541961258722650:=0
def tw16664888957227415570:=0
def tw14710586669732365832:=0
def tw11723012503624449993:=0
def tw10526542745664485055:=0
def tw11243233780362469188:=0
def tw1610680180108835508:=0
def tw5642594703808994609:=0
def tw10434685593164676673:=0
def tw11849258239195058880:=0
def tw1083579211509914272:=0
def tw2456509702923779194:=0
def tw11481346432213722698:=0
def tw6724000120208233647:=0
def tw11486825602789672249:=0
def tw4212516511003866832:=0
def tw5747370890730446088:=0
def tw17302940117794636957:=0
def tw10262919442945019682:=0
def tw8616964780431626248:=0
def tw13523330463573649724:=0
end PySem.W.Fast
open PySem PySem.W PyProof.Rows
set_option maxRecDepth 100000 in
set_option maxHeartbeats 0 in
theorem PySem.Challenge.cw_looprank_k82_writings_holds : PySem.Challenge.rw_looprank_k82_writings.Holds := by
 w_on; o_law; z_head; (case hw => w_witness2)
 k_fill
 refine Pu.walkX_z (fun P => by kernel_rfl) (Pu.walk (l := PySem.Challenge.rw_looprank_k82_writings) rfl rfl (fun w h Y => Y) Pu.law_true ?F)
 case F =>
  intro w mg fa h KX G hmg
  refine' Pu.all_mk PySem.F.excBase_ValueError KX G hmg ?x_Machine ?x1_Machine ?x2_Machine ?x3_Machine ?x4_Machine ?x5_Machine ?x6_Machine ?w_Machine_letters ?w_Machine_many ?w_Machine_ranks ?w_Machine_steps ?y3 ?y4 ?y_NoFraction ?y0_NoFraction ?y1_NoFraction ?y6_NoFraction ?y7_NoFraction ?y2_NoFraction ?y5_NoFraction ?y_NoMachine ?y0_NoMachine ?y1_NoMachine ?y6_NoMachine ?y7_NoMachine ?y2_NoMachine ?y5_NoMachine ?ja_NoFraction_NoFraction ?ja_NoFraction_NoMachine ?a1 ?l1 ?c1 ?k1 ?a2 ?l2 ?c2 ?k2 ?a3 ?l3 ?c3 ?k3 ?a4 ?l4 ?c4 ?k4 ?a5 ?l5 ?c5 ?k5 ?a6 ?l6 ?c6 ?k6 ?a7 ?l7 ?c7 ?k7 ?a8 ?l8 ?c8 ?k8 ?a9 ?l9 ?c9 ?k9 ?a10 ?l10 ?c10 ?k10 ?a11 ?l11 ?c11 ?k11 ?a12 ?l12 ?c12 ?k12 ?a13 ?l13 ?c13 ?k13 ?a14 ?l14 ?c14 ?k14 ?a15 ?l15 ?c15 ?k15 ?a16 ?l16 ?c16 ?k16 ?a17 ?l17 ?c17 ?k17 ?a18 ?l18 ?c18 ?k18 ?a19 ?l19 ?c19 ?k19 ?a20 ?l20 ?c20 ?k20 ?a21 ?l21 ?c21 ?k21 ?a22 ?l22 ?c22 ?k22 ?a23 ?l23 ?c23 ?k23 ?a24 ?l24 ?c24 ?k24 ?a25 ?e25 ?l25 ?c25 ?k25 ?a26 ?l26 ?c26 ?k26 ?a27 ?l27 ?c27 ?k27 ?a28 ?l28 ?c28 ?k28 ?a29 ?l29 ?c29 ?k29 ?a30 ?l30 ?c30 ?k30 ?a31 ?l31 ?c31 ?k31 ?v_LETTERS ?v_MOST_BOTTOM ?v_MOST_LETTERS ?v_MOST_ROOMS ?v_OUT ?v_BASES ?u_BASES ?z_all ?z_bool ?z_int ?z_isinstance ?z_len ?z_list ?z_max ?z_min ?z_range ?z_str ?z_tuple ?z_zip
  (case x_Machine => k_is)
  (case x1_Machine => k_is)
  (case x2_Machine => k_is)
  (case x3_Machine => k_is)
  (case x4_Machine => k_is)
  (case x5_Machine => k_is)
  (case x6_Machine => k_is)
  (case w_Machine_letters => k_is)
  (case w_Machine_many => k_is)
  (case w_Machine_ranks => k_is)
  (case w_Machine_steps => k_is)
  (case y3 => k_is)
  (case y4 => k_is)
  (case y_NoFraction => k_is)
  (case y0_NoFraction => k_exc)
  (case y1_NoFraction => k_is)
  (case y6_NoFraction => k_is)
  (case y7_NoFraction => k_is)
  (case y2_NoFraction => k_is)
  (case y5_NoFraction => k_is)
  (case y_NoMachine => k_is)
  (case y0_NoMachine => k_exc)
  (case y1_NoMachine => k_is)
  (case y6_NoMachine => k_is)
  (case y7_NoMachine => k_is)
  (case y2_NoMachine => k_is)
  (case y5_NoMachine => k_is)
  (case ja_NoFraction_NoFraction => k_is)
  (case ja_NoFraction_NoMachine => k_is)
  (case a1 => k_is)
  (case l1 => k_is)
  (case c1 => k_is)
  (case k1 => k_is)
  (case a2 => k_is)
  (case l2 => k_is)
  (case c2 => k_is)
  (case k2 => k_is)
  (case a3 => k_is)
  (case l3 => k_is)
  (case c3 => k_is)
  (case k3 => k_is)
  (case a4 => k_is)
  (case l4 => k_is)
  (case c4 => k_is)
  (case k4 => k_is)
  (case a5 => k_is)
  (case l5 => k_is)
  (case c5 => k_is)
  (case k5 => k_is)
  (case a6 => k_is)
  (case l6 => k_is)
  (case c6 => k_is)
  (case k6 => k_is)
  (case a7 => k_is)
  (case l7 => k_is)
  (case c7 => k_is)
  (case k7 => k_is)
  (case a8 => k_is)
  (case l8 => k_is)
  (case c8 => k_is)
  (case k8 => k_is)
  (case a9 => k_is)
  (case l9 => k_is)
  (case c9 => k_is)
  (case k9 => k_is)
  (case a10 => k_is)
  (case l10 => k_is)
  (case c10 => k_is)
  (case k10 => k_is)
  (case a11 => k_is)
  (case l11 => k_is)
  (case c11 => k_is)
  (case k11 => k_is)
  (case a12 => k_is)
  (case l12 => k_is)
  (case c12 => k_is)
  (case k12 => k_is)
  (case a13 => k_is)
  (case l13 => k_is)
  (case c13 => k_is)
  (case k13 => k_is)
  (case a14 => k_is)
  (case l14 => k_is)
  (case c14 => k_is)
  (case k14 => k_is)
  (case a15 => k_is)
  (case l15 => k_is)
  (case c15 => k_is)
  (case k15 => k_is)
  (case a16 => k_is)
  (case l16 => k_is)
  (case c16 => k_is)
  (case k16 => k_is)
  (case a17 => k_is)
  (case l17 => k_is)
  (case c17 => k_is)
  (case k17 => k_is)
  (case a18 => k_is)
  (case l18 => k_is)
  (case c18 => k_is)
  (case k18 => k_is)
  (case a19 => k_is)
  (case l19 => k_is)
  (case c19 => k_is)
  (case k19 => k_is)
  (case a20 => k_is)
  (case l20 => k_is)
  (case c20 => k_is)
  (case k20 => k_is)
  (case a21 => k_is)
  (case l21 => k_is)
  (case c21 => k_is)
  (case k21 => k_is)
  (case a22 => k_is)
  (case l22 => k_is)
  (case c22 => k_is)
  (case k22 => k_is)
  (case a23 => k_is)
  (case l23 => k_is)
  (case c23 => k_is)
  (case k23 => k_is)
  (case a24 => k_is)
  (case l24 => k_is)
  (case c24 => k_is)
  (case k24 => k_is)
  (case a25 => k_is)
  (case e25 => k_is)
  (case l25 => k_is)
  (case c25 => k_is)
  (case k25 => k_is)
  (case a26 => k_is)
  (case l26 => k_is)
  (case c26 => k_is)
  (case k26 => k_is)
  (case a27 => k_is)
  (case l27 => k_is)
  (case c27 => k_is)
  (case k27 => k_is)
  (case a28 => k_is)
  (case l28 => k_is)
  (case c28 => k_is)
  (case k28 => k_is)
  (case a29 => k_is)
  (case l29 => k_is)
  (case c29 => k_is)
  (case k29 => k_is)
  (case a30 => k_is)
  (case l30 => k_is)
  (case c30 => k_is)
  (case k30 => k_is)
  (case a31 => k_is)
  (case l31 => k_is)
  (case c31 => k_is)
  (case k31 => k_is)
  (case v_LETTERS => k_is)
  (case v_MOST_BOTTOM => k_is)
  (case v_MOST_LETTERS => k_is)
  (case v_MOST_ROOMS => k_is)
  (case v_OUT => k_is)
  (case v_BASES => k_is)
  (case u_BASES => k_is)
  (case z_all => k_is)
  (case z_bool => k_is)
  (case z_int => k_is)
  (case z_isinstance => k_is)
  (case z_len => k_is)
  (case z_list => k_is)
  (case z_max => k_is)
  (case z_min => k_is)
  (case z_range => k_is)
  (case z_str => k_is)
  (case z_tuple => k_is)
  (case z_zip => k_is)
