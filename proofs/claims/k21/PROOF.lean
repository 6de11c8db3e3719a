import PyProof.Rows.All
import Wide.All
import OpenK.AllK
import Wide.FinOn
import Lean
import PyProof.EqAt
import PyProof.EqKinds
import PyProof.TupleCall
import PyProof.P3Eq
import PyProof.NeKinds
import PyProof.NsDelKeeps
import PyProof.RulesAs
import PyProof.ExcAttrAll.ValueError
import PySem.Challenge.RW_looprank_k21_sets_of_rooms
set_option Elab.async false
set_option linter.all false
set_option maxRecDepth 100000
namespace L2
open PySem PySem.Spec PyProof.Rows
abbrev Key := Sum Int Str
def keyIs : Key -> Value -> Bool
 | .inl k, v => Value.isInt k v
 | .inr x, v => Value.isStrOf x v
def keyH (w : World) : Key -> Int
 | .inl k => hashInt k
 | .inr x => hashStr w x
theorem keyIs_shape : ∀ {k : Key} {v : Value}, keyIs k v = true -> (∃ i t, k = Sum.inl i /\ v = Value.int i t) \/ (∃ x t, k = Sum.inr x /\ v = Value.str x t)
 | .inl i, v, h => by
  obtain ⟨t, e⟩ := Value.isInt_shape (k := i) (v := v) h
  exact .inl ⟨i, t, rfl, e⟩
 | .inr x, v, h => by
  obtain ⟨t, e⟩ := Value.isStrOf_shape (x := x) (v := v) h
  exact .inr ⟨x, t, rfl, e⟩
theorem keyIs_int (i : Int) (t : Tok) : keyIs (.inl i) (.int i t) = true := by simp [keyIs, Value.isInt]
theorem keyIs_str (x : Str) (t : Tok) : keyIs (.inr x) (.str x t) = true := by simp [keyIs, Value.isStrOf]
theorem key_ll (a b : Int) : decide ((Sum.inl a : Key) = Sum.inl b) = (a == b) := by
 by_cases e : a = b
 ·subst e; simp
 ·have h : ¬ (Sum.inl a : Key) = Sum.inl b := fun q => e (Sum.inl.inj q)
  rw [decide_eq_false h]
  exact (beq_eq_false_iff_ne.mpr e).symm
theorem key_rr (a b : Str) : decide ((Sum.inr a : Key) = Sum.inr b) = decide (a = b) := by
 by_cases e : a = b
 ·subst e; simp
 ·have h : ¬ (Sum.inr a : Key) = Sum.inr b := fun q => e (Sum.inr.inj q)
  rw [decide_eq_false h, decide_eq_false e]
theorem key_lr (a : Int) (b : Str) : decide ((Sum.inl a : Key) = Sum.inr b) = false := decide_eq_false (fun q => nomatch q)
theorem key_rl (a : Str) (b : Int) : decide ((Sum.inr a : Key) = Sum.inl b) = false := decide_eq_false (fun q => nomatch q)
def mixKind (prog : Program) (w : World) : PySem.KeyKind prog w Key where
 is := keyIs
 hash := keyH w
 inj := fun v a b ha hb => by
  rcases keyIs_shape ha with ⟨i, t, rfl, rfl⟩ | ⟨x, t, rfl, rfl⟩
  ·rcases keyIs_shape hb with ⟨j, u, rfl, e⟩ | ⟨y, u, rfl, e⟩
   ·injection e with e1 _; rw [e1]
   ·exact nomatch e
  ·rcases keyIs_shape hb with ⟨j, u, rfl, e⟩ | ⟨y, u, rfl, e⟩
   ·exact nomatch e
   ·injection e with e1 _; rw [e1]
 byValue := fun k v h => by
  rcases keyIs_shape h with ⟨i, t, rfl, rfl⟩ | ⟨x, t, rfl, rfl⟩ <;> rfl
 pyHash := fun hv h => by
  rcases keyIs_shape hv with ⟨i, t, rfl, rfl⟩ | ⟨x, t, rfl, rfl⟩
  ·exact wpAny_pyHash_int h
  ·exact wpAny_pyHash_str h
 eqBool := fun hu hv h => by
  rcases keyIs_shape hu with ⟨i, t, rfl, rfl⟩ | ⟨x, t, rfl, rfl⟩
  ·rcases keyIs_shape hv with ⟨j, u, rfl, rfl⟩ | ⟨y, u, rfl, rfl⟩
   ·rw [key_ll] at h; exact wpAny_eqBool_int h
   ·rw [key_lr] at h; exact SeqAt.EqAt.int_str i t y u _ _ _ _ h
  ·rcases keyIs_shape hv with ⟨j, u, rfl, rfl⟩ | ⟨y, u, rfl, rfl⟩
   ·rw [key_rl] at h; exact SeqAt.EqAt.str_int x t j u _ _ _ _ h
   ·rw [key_rr] at h; exact wpAny_eqBool_str h
 «strs» := fun k x t v h => by
  rcases keyIs_shape h with ⟨i, u, rfl, e⟩ | ⟨y, u, rfl, e⟩
  ·exact nomatch e
  ·injection e with e1 _
   subst e1
   cases v <;> rfl
theorem mixKind_int (prog : Program) (w : World) (i : Int) (t : Tok) : (mixKind prog w).is (.inl i) (.int i t) = true := keyIs_int i t
theorem mixKind_str (prog : Program) (w : World) (x : Str) (t : Tok) : (mixKind prog w).is (.inr x) (.str x t) = true := keyIs_str x t
end L2
namespace L2
open PySem PySem.Spec PyProof.Rows
inductive V where
 | non | bl (b : Bool) | int (i : Int) | str (x : Str) | byt (b : Array UInt8) | flt (b : UInt64) | ref (a : Addr) | ty (n : String)
 deriving DecidableEq
def RelV : V -> Value -> Prop
 | .non, u => u = Value.none
 | .bl b, u => u = Value.bool b
 | .int i, u => ∃ t, u = Value.int i t
 | .str x, u => ∃ t, u = Value.str x t
 | .byt b, u => ∃ t, u = Value.bytes b t
 | .flt b, u => ∃ t, u = Value.float b t
 | .ref a, u => u = Value.ref a
 | .ty n, u => u = Value.type n
abbrev Vals : List V -> List Value -> Prop := Paired RelV
theorem Vals.length {xs : List V} {us : List Value} (r : Vals xs us) : xs.length = us.length := Paired.length r
theorem Vals.get : ∀ {xs : List V} {us : List Value} {i : Nat} {x : V}, Vals xs us -> xs[i]? = some x -> ∃ u, us[i]? = some u /\ RelV x u
 | _, _, _, _, .nil, e => by simp at e
 | _, _, 0, _, .cons r _, e => by simp at e; subst e; exact ⟨_, rfl, r⟩
 | _, _, i + 1, x, .cons _ t, e => by
  obtain ⟨u, h1, h2⟩ := Vals.get (i := i) (x := x) t (by simpa using e)
  exact ⟨u, by simpa using h1, h2⟩
theorem Vals.set {x : V} {u : Value} (r : RelV x u) : ∀ {xs : List V} {us : List Value} (i : Nat), Vals xs us -> Vals (xs.set i x) (us.set i u)
 | _, _, _, .nil => .nil
 | _, _, 0, .cons _ t => .cons r t
 | _, _, i + 1, .cons q t => .cons q (Vals.set r i t)
theorem Vals.append : ∀ {xs ys : List V} {us ws : List Value}, Vals xs us -> Vals ys ws -> Vals (xs ++ ys) (us ++ ws)
 | _, _, _, _, .nil, s => s
 | _, _, _, _, .cons r t, s => .cons r (Vals.append t s)
theorem Vals.take : ∀ {xs : List V} {us : List Value} (n : Nat), Vals xs us -> Vals (xs.take n) (us.take n)
 | _, _, 0, _ => .nil
 | _, _, _ + 1, .nil => .nil
 | _, _, n + 1, .cons r t => .cons r (Vals.take n t)
theorem Vals.drop : ∀ {xs : List V} {us : List Value} (n : Nat), Vals xs us -> Vals (xs.drop n) (us.drop n)
 | _, _, 0, r => r
 | _, _, _ + 1, .nil => .nil
 | _, _, n + 1, .cons _ t => Vals.drop n t
def RelO : Option V -> Option Value -> Prop
 | some v, some u => RelV v u
 | none, none => True
 | _, _ => False
def KV {κ : Type} : List (κ × V) -> List (κ × Value) -> Prop := Paired fun (p : κ × V) (q : κ × Value) => p.1 = q.1 /\ RelV p.2 q.2
def kV : Key -> V
 | .inl i => .int i
 | .inr x => .str x
inductive HO where
 | lst (xs : List V)
 | tup (xs : List V)
 | dK (kvs : List (Key × V)) | dT (kvs : List (List Key × V))
 | set (S : Int -> Bool) (n : Nat)
 | ins (C dx : Addr) (fs : List (Str × V))
 | own (x : Addr)
 | xd (fs : List (Str × V))
 | met (f x : Addr)
 | rng (lo hi : Int)
 | frz (o : Obj) (u : HO)
 | tbl (ps : Array Value)
 | ext (φ : Heap -> Prop)
abbrev Hp := Addr -> Option HO
def upd (H : Hp) (a : Addr) (o : HO) : Hp := fun b => if b = a then some o else H b
theorem upd_same {H : Hp} {a : Addr} {o : HO} : upd H a o a = some o := by unfold upd; rw [if_pos rfl]
theorem upd_ne {H : Hp} {a b : Addr} {o : HO} (h : b ≠ a) : upd H a o b = H b := by unfold upd; rw [if_neg h]
theorem ne_of {H : Hp} {a b : Addr} {o u : HO} (h : H a = some o) (h' : H b = some u) (d : o ≠ u) : a ≠ b := by
 intro e; subst e; rw [h] at h'; exact d (Option.some.inj h')
theorem ne_of_none {H : Hp} {a b : Addr} {o : HO} (h : H a = some o) (h' : H b = none) : a ≠ b := by
 intro e; subst e; rw [h] at h'; cases h'
section
variable (P : Program) (w : World)
def ObjOk (H : Hp) (h : Heap) (a : Addr) : HO -> Prop
 | .lst xs => xs.length <= sizeLine /\ ∃ (its : List Value) (n : Nat), Vals xs its /\ h.get? a = some { cls := .type "list", data := .seq its.toArray n }
 | .tup xs => xs.length <= sizeLine /\ ∃ its : List Value, Vals xs its /\ IsTup h a its.toArray
 | .dK kvs => kvs.length <= sizeLine /\ (a == sysModules) = false /\ ∃ vs, KV kvs vs /\ h.DictOf (mixKind P w) a vs
 | .dT kvs => kvs.length <= sizeLine /\ (a == sysModules) = false /\ ∃ xs : List (List Key × Addr × Value),
   Paired (fun (p : List Key × V) (q : List Key × Addr × Value) => p.1 = q.1 /\ H q.2.1 = some (.tup (p.1.map kV)) /\ RelV p.2 q.2.2) kvs xs /\
   ∃ o es ep, h.get? a = some o /\ o.ExactDict /\ o.data = .dict es ep /\ es.toList = xs.map (entryOfKey (tupleKind (mixKind P w))) /\ (xs.map (·.1)).Nodup
 | .set S n => h.SetOf (intKind P w) a S n
 | .ins C dx fs => H dx = some (.own a) /\ fs.length <= 1000 /\ dx ≠ a /\ h.get? a = some (PySem.W.instObj C dx) /\
   ∃ mA, h.Ns1 dx mA /\ (∀ f, RelO (fs.lookup f) (mA f)) /\ PySem.Within mA (fs.map (·.1))
 | .own _ => ∃ o, h.get? a = some o
 | .xd fs => ∃ mA, h.Ns1 a mA /\ ∀ f, RelO (fs.lookup f) (mA f)
 | .rng lo hi => ∃ t u v, h.get? a = some { cls := .type "range", data := .fields #[.int lo t, .int hi u, .int 1 v] }
 | .frz o u => h.get? a = some o /\ ObjOk H h a u
 | .tbl ps => h.get? a = some { cls := .none, data := .fields ps }
 | .met f x => h.get? a = some (PySem.W.methodObj (.ref f) (.ref x))
 | .ext φ => φ h /\ (∃ o, h.get? a = some o) /\ ∀ h1 h2 : Heap, φ h1 -> (∀ o, h1.get? a = some o -> h2.get? a = some o) -> φ h2
def HOk (H : Hp) (h : Heap) : Prop := ∀ a o, H a = some o -> ObjOk P w H h a o
end
section
variable {P : Program} {w : World} {H H' : Hp} {h h' : Heap} {a : Addr} {o : HO}
theorem ObjOk.lt (x : ObjOk P w H h a o) : a < h.objs.size := by
 cases o with
 | lst xs => obtain ⟨_, _, _, _, e⟩ := x; exact Heap.lt_size e
 | tup xs => obtain ⟨_, _, _, p⟩ := x; exact p.lt
 | dK kvs => obtain ⟨_, _, _, _, o, _, _, e, _⟩ := x; exact Heap.lt_size e
 | dT kvs => obtain ⟨_, _, _, _, o, _, _, e, _⟩ := x; exact Heap.lt_size e
 | set S n => obtain ⟨o, _, _, _, e, _⟩ := x; exact Heap.lt_size e
 | ins C dx fs => obtain ⟨_, _, _, e, _⟩ := x; exact Heap.lt_size e
 | own y => obtain ⟨_, e⟩ := x; exact Heap.lt_size e
 | xd fs => obtain ⟨_, ⟨_, _, _, e, _⟩, _⟩ := x; exact Heap.lt_size e
 | rng lo hi => obtain ⟨_, _, _, e⟩ := x; exact Heap.lt_size e
 | frz ob u => obtain ⟨e, _⟩ := x; exact Heap.lt_size e
 | tbl ps => exact Heap.lt_size (show h.get? a = some _ from x)
 | met f y => exact Heap.lt_size (show h.get? a = some _ from x)
 | ext φ => obtain ⟨_, ⟨_, e⟩, _⟩ := x; exact Heap.lt_size e
theorem Paired.mapP {α β : Type} {F G : α -> β -> Prop} : ∀ {l₁ : List α} {l₂ : List β}, Paired F l₁ l₂ -> (∀ a b, F a b -> G a b) -> Paired G l₁ l₂
 | _, _, .nil, _ => .nil
 | _, _, .cons r t, f => .cons (f _ _ r) (Paired.mapP t f)
theorem ObjOk.stay (x : ObjOk P w H h a o) (k : ∀ b u, (b = a \/ H b = some (.own a)) -> h.get? b = some u -> h'.get? b = some u)
  (ho : ∀ b, H b = some (.own a) -> H' b = some (.own a)) (ht : ∀ b xs, H b = some (.tup xs) -> H' b = some (.tup xs)) : ObjOk P w H' h' a o := by
 induction o with
 | lst xs => obtain ⟨z, its, n, r, e⟩ := x; exact ⟨z, its, n, r, k _ _ (.inl rfl) e⟩
 | tup xs => obtain ⟨z, its, r, ob, e, c⟩ := x; exact ⟨z, its, r, ob, k _ _ (.inl rfl) e, c⟩
 | dK kvs => obtain ⟨z, y, vs, r, ob, es, ep, e, c⟩ := x; exact ⟨z, y, vs, r, ob, es, ep, k _ _ (.inl rfl) e, c⟩
 | dT kvs =>
  obtain ⟨z, y, xs, r, ob, es, ep, e, c⟩ := x
  exact ⟨z, y, xs, Paired.mapP r fun p q z => ⟨z.1, ht _ _ z.2.1, z.2.2⟩, ob, es, ep, k _ _ (.inl rfl) e, c⟩
 | set S n => obtain ⟨ob, es, ep, t, e, c⟩ := x; exact ⟨ob, es, ep, t, k _ _ (.inl rfl) e, c⟩
 | ins C dx fs =>
  obtain ⟨d, z, ne, e, mA, ⟨od, es, ep, e2, c⟩, r⟩ := x
  exact ⟨ho _ d, z, ne, k _ _ (.inl rfl) e, mA, ⟨od, es, ep, k _ _ (.inr d) e2, c⟩, r⟩
 | own y => obtain ⟨ob, e⟩ := x; exact ⟨ob, k _ _ (.inl rfl) e⟩
 | xd fs => obtain ⟨mA, ⟨od, es, ep, e, c⟩, r⟩ := x; exact ⟨mA, ⟨od, es, ep, k _ _ (.inl rfl) e, c⟩, r⟩
 | rng lo hi => obtain ⟨t, u, v, e⟩ := x; exact ⟨t, u, v, k _ _ (.inl rfl) e⟩
 | frz ob u ih => obtain ⟨e, q⟩ := x; exact ⟨k _ _ (.inl rfl) e, ih q⟩
 | tbl ps =>
  have e : h.get? a = some { cls := .none, data := .fields ps } := x
  show h'.get? a = some { cls := .none, data := .fields ps }
  exact k a _ (.inl rfl) e
 | met f y =>
  have e : h.get? a = some (PySem.W.methodObj (.ref f) (.ref y)) := x
  show h'.get? a = some (PySem.W.methodObj (.ref f) (.ref y))
  exact k a _ (.inl rfl) e
 | ext φ => obtain ⟨p, ⟨o, e⟩, st⟩ := x; exact ⟨st _ _ p fun o q => k _ _ (.inl rfl) q, ⟨o, k _ _ (.inl rfl) e⟩, st⟩
theorem HOk.lt (x : HOk P w H h) (e : H a = some o) : a < h.objs.size := (x a o e).lt
theorem HOk.fresh (x : HOk P w H h) (e : h.objs.size <= a) : H a = none := by
 cases q : H a with
 | none => rfl
 | some u => exact absurd (Nat.lt_of_lt_of_le (x.lt q) e) (Nat.lt_irrefl _)
theorem HOk.kept (x : HOk P w H h) (k : ∀ b u, h.get? b = some u -> h'.get? b = some u) : HOk P w H h' := fun a o e =>
 (x a o e).stay (fun b u _ q => k b u q) (fun _ q => q) fun _ _ q => q
theorem HOk.laid (x : HOk P w H h) (k : ∀ b u, h.get? b = some u -> h'.get? b = some u) (hp : h.objs.size <= a) (new : ObjOk P w (upd H a o) h' a o) : HOk P w (upd H a o) h' := fun b u e => by
 have hn := x.fresh hp
 by_cases hb : b = a
 ·subst hb; rw [upd_same] at e; cases e; exact new
 ·rw [upd_ne hb] at e
  exact (x b u e).stay (fun c v _ q => k c v q) (fun c q => by rw [upd_ne (ne_of_none q hn)]; exact q) fun c xs q => by rw [upd_ne (ne_of_none q hn)]; exact q
end
def Rd (H : Hp) (a : Addr) (u : HO) : Prop := H a = some u \/ ∃ o, H a = some (.frz o u)
theorem Rd.of {H : Hp} {a : Addr} {u : HO} (h : H a = some u) : Rd H a u := .inl h
theorem Rd.ok {P : Program} {w : World} {H : Hp} {h : Heap} {a : Addr} {u : HO} (r : Rd H a u) (x : HOk P w H h) : ObjOk P w H h a u := by
 rcases r with r | ⟨o, r⟩
 ·exact x a u r
 ·obtain ⟨_, q⟩ := x a _ r
  exact q
def Mut : Option HO -> Prop
 | some (.lst _) => True
 | some (.dK _) => True
 | some (.dT _) => True
 | some (.set _ _) => True
 | some (.ins _ _ _) => True
 | some (.ext _) => True
 | _ => False
section
variable {P : Program} {w : World} {H : Hp} {h h' : Heap} {x e : Addr} {o' : HO}
theorem HOk.write (ok : HOk P w H h) (mu : Mut (H x)) (he : e = x \/ H e = some (.own x)) (k : ∀ b u, b ≠ e -> h.get? b = some u -> h'.get? b = some u) (heo : ∃ u, h'.get? e = some u)
  (new : ObjOk P w (upd H x o') h' x o') : HOk P w (upd H x o') h' := fun b u q => by
 have nown : ∀ c y, H c = some (.own y) -> c ≠ x := fun c y r z => by subst z; rw [r] at mu; exact mu
 have ntup : ∀ c xs, H c = some (.tup xs) -> c ≠ x := fun c xs r z => by subst z; rw [r] at mu; exact mu
 by_cases hb : b = x
 ·subst hb; rw [upd_same] at q; cases q; exact new
 ·rw [upd_ne hb] at q
  by_cases hbe : b = e
  ·have q' : H b = some (.own x) := by
    rcases he with z | z
    ·exact absurd (hbe.trans z) hb
    ·rw [hbe]; exact z
   rw [q] at q'; cases q'
   obtain ⟨v, hv⟩ := heo
   exact ⟨v, by rw [hbe]; exact hv⟩
  ·refine (ok b u q).stay (fun c v hc r => k c v ?_ r) (fun c r => by rw [upd_ne (nown c b r)]; exact r) fun c xs r => by rw [upd_ne (ntup c xs r)]; exact r
   rcases hc with rfl | hc
   ·exact hbe
   ·rintro rfl
    rcases he with z | z
    ·exact nown c b hc z
    ·rw [hc] at z; cases z; exact hb rfl
end
structure Un (fs ex : List Addr) (H H' : Hp) (h h' : Heap) : Prop where
 keep : ∀ b o, h.get? b = some o -> H b = none -> b ∉ fs -> b ∉ ex -> h'.get? b = some o
 slot : ∀ b o, h.get? b = some o -> H b = none -> b ∈ fs -> b ∉ ex -> ∃ sl, h'.get? b = some { o with slots := sl }
 free : ∀ b o, h.get? b = some o -> H b = none -> b ∉ ex -> H' b = none
 there : ∀ b o, h.get? b = some o -> b ∉ ex -> ∃ o', h'.get? b = some o'
 tups : ∀ b xs, H b = some (.tup xs) -> H' b = some (.tup xs)
 frzs : ∀ b o u, H b = some (.frz o u) -> H' b = some (.frz o u)
 tbls : ∀ b ps, H b = some (.tbl ps) -> ∃ more, H' b = some (.tbl (ps ++ more))
section
variable {fs fs' ex ex' : List Addr} {H H1 H2 : Hp} {h h1 h2 h' : Heap} {a x e : Addr} {o : HO}
theorem Un.any (u : Un fs ex H H1 h h1) {b : Addr} {ob : Obj} (q : h.get? b = some ob) (n : H b = none) (hx : b ∉ ex) : ∃ sl, h1.get? b = some { ob with slots := sl } := by
 by_cases hb : b ∈ fs
 ·exact u.slot b ob q n hb hx
 ·exact ⟨ob.slots, u.keep b ob q n hb hx⟩
theorem Un.trans (a : Un fs ex H H1 h h1) (b : Un fs ex H1 H2 h1 h2) : Un fs ex H H2 h h2 where
 keep := fun c ob q n hc hx => b.keep c ob (a.keep c ob q n hc hx) (a.free c ob q n hx) hc hx
 slot := fun c ob q n hc hx => by
  obtain ⟨sl, e1⟩ := a.slot c ob q n hc hx
  obtain ⟨sl', e2⟩ := b.slot c _ e1 (a.free c ob q n hx) hc hx
  exact ⟨sl', e2⟩
 free := fun c ob q n hx => by
  obtain ⟨o', e1⟩ := a.there c ob q hx
  exact b.free c o' e1 (a.free c ob q n hx) hx
 there := fun c ob q hx => by
  obtain ⟨o', e1⟩ := a.there c ob q hx
  exact b.there c o' e1 hx
 tups := fun c xs q => b.tups c xs (a.tups c xs q)
 frzs := fun c ob xs q => b.frzs c ob xs (a.frzs c ob xs q)
 tbls := fun c ps q => by
  obtain ⟨m1, e1⟩ := a.tbls c ps q
  obtain ⟨m2, e2⟩ := b.tbls c _ e1
  exact ⟨m1 ++ m2, by rw [e2, Array.append_assoc]⟩
theorem Un.kept (k : ∀ b u, h.get? b = some u -> h'.get? b = some u) : Un fs ex H H h h' :=
 ⟨fun b ob q _ _ _ => k b ob q, fun b ob q _ _ _ => ⟨ob.slots, k b ob q⟩, fun _ _ _ n _ => n, fun b ob q _ => ⟨ob, k b ob q⟩, fun _ _ q => q, fun _ _ _ q => q, fun _ ps q => ⟨#[], by rw [q]; simp⟩⟩
theorem Un.refl : Un fs ex H H h h := Un.kept fun _ _ q => q
theorem Un.laid (k : ∀ b u, h.get? b = some u -> h'.get? b = some u) (hp : h.objs.size <= a) (hn : H a = none) : Un fs ex H (upd H a o) h h' where
 keep := fun b u q _ _ _ => k b u q
 slot := fun b u q _ _ _ => ⟨u.slots, k b u q⟩
 free := fun b u q n _ => by rw [upd_ne (Nat.ne_of_lt (Nat.lt_of_lt_of_le (Heap.lt_size q) hp))]; exact n
 there := fun b u q _ => ⟨u, k b u q⟩
 tups := fun b xs q => by rw [upd_ne (ne_of_none q hn)]; exact q
 frzs := fun b u xs q => by rw [upd_ne (ne_of_none q hn)]; exact q
 tbls := fun b ps q => ⟨#[], by rw [upd_ne (ne_of_none q hn), q]; simp⟩
theorem Un.write (mu : Mut (H x)) (he : e = x \/ H e = some (.own x)) (k : ∀ b u, b ≠ e -> h.get? b = some u -> h'.get? b = some u) (heo : ∃ u, h'.get? e = some u) : Un fs ex H (upd H x o) h h' := by
 have hx : ∀ b, H b = none -> b ≠ x := fun b n z => by subst z; rw [n] at mu; exact mu
 have hb : ∀ b, H b = none -> b ≠ e := fun b n z => by
  subst z
  rcases he with r | r
  ·exact hx b n r
  ·rw [n] at r; cases r
 have hm : ∀ b u, H b = some u -> ¬ Mut (some u) -> b ≠ x := fun b u q nm z => by subst z; rw [q] at mu; exact nm mu
 refine ⟨fun b u q n _ _ => k b u (hb b n) q, fun b u q n _ _ => ⟨u.slots, k b u (hb b n) q⟩, fun b u q n _ => by rw [upd_ne (hx b n)]; exact n, fun b u q _ => ?_,
  fun b xs q => by rw [upd_ne (hm b _ q fun z => z)]; exact q, fun b u xs q => by rw [upd_ne (hm b _ q fun z => z)]; exact q, fun b ps q => ⟨#[], by rw [upd_ne (hm b _ q fun z => z), q]; simp⟩⟩
 by_cases hbe : b = e
 ·subst hbe; exact heo
 ·exact ⟨u, k b u hbe q⟩
theorem Un.mono (u : Un fs ex H H1 h h1) (hs : ∀ b ∈ fs, b ∈ fs') (hx : ∀ b ∈ ex, b ∈ ex') : Un fs' ex' H H1 h h1 :=
 ⟨fun b ob q n hb he => u.keep b ob q n (fun z => hb (hs b z)) fun z => he (hx b z), fun _ _ q n _ he => u.any q n fun z => he (hx _ z), fun b ob q n he => u.free b ob q n fun z => he (hx b z), fun b ob q he => u.there b ob q fun z => he (hx b z), u.tups, u.frzs, u.tbls⟩
end
def trk (h : Heap) (H : Hp) : List Addr := (List.range h.objs.size).filter fun a => (H a).isSome
def hidT (h : Heap) (H : Hp) : Heap := PySem.W.hideAll h (trk h H)
theorem hidT_size (h : Heap) (H : Hp) : (hidT h H).objs.size = h.objs.size := PySem.W.hideAll_size _ _
theorem hidT_get {h : Heap} {H : Hp} {b : Addr} {o : Obj} (e : h.get? b = some o) (n : H b = none) : (hidT h H).get? b = some o :=
 PySem.W.hideAll_get _ e fun hm => by
  have q : (H b).isSome = true := (List.mem_filter.mp hm).2
  rw [n] at q; simp at q
theorem of_hidT {h : Heap} {H : Hp} {b : Addr} {o : Obj} (e : (hidT h H).get? b = some o) : h.get? b = some o /\ H b = none := by
 have e' : h.get? b = some o := PySem.W.of_hideAll (trk h H) e
 refine ⟨e', ?_⟩
 cases q : H b with
 | none => rfl
 | some x =>
  have hm : b ∈ trk h H := List.mem_filter.mpr ⟨List.mem_range.mpr (Heap.lt_size e'), by simp [q]⟩
  have z : (hidT h H).get? b = none := PySem.W.hideAll_none (trk h H) hm
  rw [z] at e; cases e
def allNews (g h : Heap) (L : Addr) : List (Addr × Obj) := (List.range h.objs.size).filterMap fun a => if a = L \/ (g.get? a).isSome = true then none else (h.get? a).map fun o => (a, o)
def rest (g h : Heap) (L d : Addr) : List (Addr × Obj) := (allNews g h L).filter fun p => decide (p.1 ≠ d)
end L2
namespace L2
open PySem PySem.Spec PyProof.Rows
structure Mod (K : PySem.W.Frag) (mg : Str -> Option Value) (base : Heap) : Prop where
 kin : K.In base
 glob : base.Ns mainGlobals mg
 blt : ∃ mb, base.Ns builtinsNs mb /\ ∀ x : Str, x ≠ "__name__" -> mb x = bootBuiltins x
 nolimit : base.NoLimit
structure Cx where
 prog : Program
 w : World
 K : PySem.W.Frag
 mg : Str -> Option Value
 base : Heap
 A : Around
 N : List Str
 s₀ : Shared
 H₀ : Hp
 env : Env
 outer : List Env
 stack : List Env
 ex : List Addr
 fn : Str -> Bool
 calm : Bool
 pn : List (Addr × Obj)
 xe : Value -> Shared -> Prop
def frs (l : List Env) : List Addr := l.filterMap (·.frame)
abbrev Cx.fs (X : Cx) : List Addr := frs X.outer
def Vis (sc : Scope) (x : Str) : Prop := sc.names.lookup x = some .local \/ sc.names.lookup x = some .cell \/ sc.names.lookup x = some .free
def Loc (sc : Scope) (x : Str) : Prop := sc.names.lookup x = some .local \/ sc.names.lookup x = some .cell
def Look (env : Env) (h : Heap) (m : Str -> Option Value) (x : Str) (u : Value) : Prop :=
 (env.kindOf x = some .local /\ m x = some u) \/ ((env.kindOf x = some .cell \/ env.kindOf x = some .free) /\ ∃ c, env.cells.lookup x = some c /\ h.IsCell c (some u))
structure Cx.Ok (X : Cx) : Prop where
 mod : Mod X.K X.mg X.base
 kind : X.env.scope.kind = .function
 glob : X.env.globals = mainGlobals
 blt : X.env.builtins = builtinsNs
 above : X.s₀.heap.objs.size <= X.env.locals
 inj : ∀ x y c, X.env.cells.lookup x = some c -> X.env.cells.lookup y = some c -> x = y
 has : ∀ x, (X.env.kindOf x = some .cell \/ X.env.kindOf x = some .free) -> ∃ c, X.env.cells.lookup x = some c
 cab : ∀ x c, X.fn x = true -> X.env.cells.lookup x = some c -> X.s₀.heap.objs.size <= c
 hd : X.calm = true -> X.A.handled = none
 frames : X.A.frames = some X.stack
 stk : X.stack = X.outer \/ (X.stack = X.env :: X.outer /\ X.env.frame = some X.env.locals)
 exf : ∀ b ∈ X.ex, b ≠ X.env.locals /\ ∀ x c, X.env.cells.lookup x = some c -> c ≠ b
 bs : ∀ b o, X.base.get? b = some o -> X.s₀.heap.get? b = some o /\ X.H₀ b = none
 bsz : X.base.objs.size <= X.s₀.heap.objs.size
 noex : ∀ b o, X.base.get? b = some o -> b ∉ X.ex
 exfs : ∀ b ∈ X.ex, b ∉ X.fs
 funs : X.s₀.heap.FunFrames X.base X.outer
 frf : ∀ b ∈ X.fs, X.H₀ b = none
structure Inv (X : Cx) (pins : List (Addr × Obj)) (σ : List (Option V)) (H : Hp) (s : Shared) : Prop where
 ok : X.Ok
 os : s.os = X.s₀.os
 bare : AllBare s.gens
 base : Un X.fs X.ex X.H₀ H X.s₀.heap s.heap
 loc : ∃ m, s.heap.Ns X.env.locals m /\ ∀ (i : Nat) (x : Str) (v : V), X.N[i]? = some x -> σ[i]? = some (some v) -> Vis X.env.scope x -> ∃ u, RelV v u /\ Look X.env s.heap m x u
 cell : ∀ x c, X.env.cells.lookup x = some c -> ∃ v, s.heap.IsCell c v
 free : H X.env.locals = none
 freeC : ∀ x c, X.env.cells.lookup x = some c -> H c = none
 pin : ∀ p ∈ X.pn ++ pins, s.heap.get? p.1 = some p.2 /\ H p.1 = none /\ p.1 ≠ X.env.locals /\ p.1 ∉ X.fs /\ ∀ v, p.2.data ≠ .cell v
 hok : HOk X.prog X.w H s.heap
 len : σ.length = X.N.length
section
variable {X : Cx} {pins : List (Addr × Obj)} {σ : List (Option V)} {H H' : Hp} {s : Shared} {h' : Heap}
theorem Cx.Ok.nofr (ok : X.Ok) {b : Addr} {o : Obj} (e : X.base.get? b = some o) : b ∉ X.fs := fun hb => by
 have := (ok.funs.mem hb).1
 rw [e] at this; cases this
theorem Inv.bs (I : Inv X pins σ H s) : ∀ b o, X.base.get? b = some o -> s.heap.get? b = some o /\ H b = none := fun b o e =>
 ⟨I.base.keep b o (I.ok.bs b o e).1 (I.ok.bs b o e).2 (I.ok.nofr e) (I.ok.noex b o e), I.base.free b o (I.ok.bs b o e).1 (I.ok.bs b o e).2 (I.ok.noex b o e)⟩
theorem Inv.bk (I : Inv X pins σ H s) : ∀ b o, X.base.get? b = some o -> s.heap.get? b = some o := fun b o e => (I.bs b o e).1
theorem Inv.mod (I : Inv X pins σ H s) : Mod X.K X.mg X.base := I.ok.mod
theorem Inv.kIn (I : Inv X pins σ H s) : X.K.In s.heap := I.ok.mod.kin.keeps I.bk
theorem Inv.nolimit (I : Inv X pins σ H s) : s.heap.NoLimit := I.ok.mod.nolimit.keeps I.bk
theorem Inv.fr (I : Inv X pins σ H s) : ∃ m, Fr X.base X.env.locals s.heap m :=
 let ⟨m, hn, _⟩ := I.loc
 ⟨m, hn, I.bk, Nat.le_trans I.ok.bsz I.ok.above⟩
theorem Inv.lt (I : Inv X pins σ H s) : X.env.locals < s.heap.objs.size := let ⟨_, hn, _⟩ := I.loc; hn.lt
theorem Inv.sz (I : Inv X pins σ H s) : X.s₀.heap.objs.size <= s.heap.objs.size := Nat.le_trans I.ok.above (Nat.le_of_lt I.lt)
theorem Inv.nofs (I : Inv X pins σ H s) {a : Addr} (h : s.heap.objs.size <= a) : a ∉ X.fs := fun hb => by
 obtain ⟨_, o, ho, _⟩ := I.ok.funs.mem hb
 exact absurd (Nat.lt_of_lt_of_le (Heap.lt_size ho) (Nat.le_trans I.sz h)) (Nat.lt_irrefl _)
theorem Inv.cne (I : Inv X pins σ H s) : ∀ x c, X.env.cells.lookup x = some c -> c ≠ X.env.locals := fun x c e z => by
 obtain ⟨v, o, ho, hd⟩ := I.cell x c e
 obtain ⟨m, ⟨o', es, ep, ho', hd', _⟩, _⟩ := I.loc
 rw [z, ho'] at ho; cases ho; rw [hd'] at hd; cases hd
theorem Inv.funs (I : Inv X pins σ H s) : s.heap.FunFrames X.base X.outer := by
 have all : ∀ (l : List Env), (∀ b ∈ frs l, b ∈ X.fs) -> X.s₀.heap.FunFrames X.base l -> s.heap.FunFrames X.base l := by
  intro l
  induction l with
  | nil => intro _ _; trivial
  | cons env r ih =>
   intro hs hl
   obtain ⟨hk, ⟨L, o, hf, hn, ho, hd⟩, hr⟩ := hl
   have hL : L ∈ X.fs := hs L (by unfold frs; rw [List.filterMap_cons, hf]; exact List.mem_cons_self)
   obtain ⟨sl, e⟩ := I.base.slot L o ho (I.ok.frf L hL) hL fun z => I.ok.exfs L z hL
   exact ⟨hk, ⟨L, _, hf, hn, e, hd⟩, ih (fun b hb => hs b (by unfold frs; rw [List.filterMap_cons, hf]; exact List.mem_cons_of_mem _ hb)) hr⟩
 exact all X.outer (fun _ hb => hb) I.ok.funs
theorem Inv.stack (I : Inv X pins σ H s) : s.heap.FunFrames X.base X.stack := by
 rcases I.ok.stk with e | ⟨e, hf⟩
 ·rw [e]; exact I.funs
 ·rw [e]
  obtain ⟨m, hn, _⟩ := I.loc
  refine .cons (by rw [I.ok.kind]; decide) hf hn ?_ I.funs
  exact Heap.get?_none_of_le (Nat.le_trans I.ok.bsz I.ok.above)
theorem Inv.stkSub (I : Inv X pins σ H s) : ∀ b ∈ frs X.stack, b ∈ X.env.locals :: X.fs := fun b hb => by
 rcases I.ok.stk with e | ⟨e, hf⟩
 ·rw [e] at hb; exact List.mem_cons_of_mem _ hb
 ·rw [e] at hb
  unfold frs at hb
  rw [List.filterMap_cons, hf] at hb
  exact hb
theorem Inv.stkFree (I : Inv X pins σ H s) : ∀ b ∈ frs X.stack, H b = none := fun b hb => by
 rcases List.mem_cons.mp (I.stkSub b hb) with e | hb
 ·rw [e]; exact I.free
 ·obtain ⟨_, o, ho, _⟩ := I.ok.funs.mem hb
  exact I.base.free b o ho (I.ok.frf b hb) fun z => I.ok.exfs b z hb
theorem Inv.step {g' : Array GenState} {t' : Nat} {d' : Drawn} {ch : List Addr} (I : Inv X pins σ H s)
  (hch : ∀ b ∈ ch, (b ∈ X.ex \/ X.s₀.heap.objs.size <= b) /\ b ≠ X.env.locals /\ (∀ x c, X.env.cells.lookup x = some c -> c ≠ b) /\ ∀ p ∈ X.pn ++ pins, p.1 ≠ b)
  (keep : ∀ b o, b ≠ X.env.locals -> b ∉ X.fs -> b ∉ ch -> s.heap.get? b = some o -> H b = none -> h'.get? b = some o)
  (slot : ∀ b o, b ≠ X.env.locals -> b ∈ X.fs -> b ∉ ch -> s.heap.get? b = some o -> H b = none -> ∃ sl, h'.get? b = some { o with slots := sl }) (free : ∀ b o, b ∉ ch -> s.heap.get? b = some o -> H b = none -> H' b = none)
  (there : ∀ b o, b ∉ ch -> s.heap.get? b = some o -> ∃ o', h'.get? b = some o')
  (tups : ∀ b xs, H b = some (.tup xs) -> H' b = some (.tup xs)) (frzs : ∀ b o u, H b = some (.frz o u) -> H' b = some (.frz o u)) (tbls : ∀ b ps, H b = some (.tbl ps) -> ∃ more, H' b = some (.tbl (ps ++ more)))
  (ns : ∀ m, s.heap.Ns X.env.locals m -> h'.Ns X.env.locals m) (hok : HOk X.prog X.w H' h') (hg : AllBare g') :
  Inv X pins σ H' { s with heap := h', gens := g', drawn := d', toks := t' } := by
 have neL : ∀ b o, X.s₀.heap.get? b = some o -> b ≠ X.env.locals := fun b o e => Nat.ne_of_lt (Nat.lt_of_lt_of_le (Heap.lt_size e) I.ok.above)
 have neC : ∀ b o, X.s₀.heap.get? b = some o -> b ∉ X.ex -> b ∉ ch := fun b o e hx hb => by
  rcases (hch b hb).1 with z | z
  ·exact hx z
  ·exact absurd (Nat.lt_of_lt_of_le (Heap.lt_size e) z) (Nat.lt_irrefl _)
 have cellK : ∀ x c, X.env.cells.lookup x = some c -> ∀ v, s.heap.IsCell c v -> h'.IsCell c v := fun x c e v ⟨o, ho, hd⟩ => by
  have nch : c ∉ ch := fun z => (hch c z).2.2.1 x c e rfl
  by_cases hc : c ∈ X.fs
  ·obtain ⟨sl, q⟩ := slot c o (I.cne x c e) hc nch ho (I.freeC x c e)
   exact ⟨_, q, hd⟩
  ·exact ⟨o, keep c o (I.cne x c e) hc nch ho (I.freeC x c e), hd⟩
 refine ⟨I.ok, I.os, hg, ⟨fun b o e n hb hx => ?_, fun b o e n hb hx => ?_, fun b o e n hx => ?_, fun b o e hx => ?_, fun b xs e => tups b xs (I.base.tups b xs e), fun b o xs e => frzs b o xs (I.base.frzs b o xs e), fun b ps e => ?_⟩, ?_, fun x c e => ?_, ?_, fun x c e => ?_, fun p hp => ?_, hok, I.len⟩
 ·exact keep b o (neL b o e) hb (neC b o e hx) (I.base.keep b o e n hb hx) (I.base.free b o e n hx)
 ·obtain ⟨sl, e1⟩ := I.base.slot b o e n hb hx
  obtain ⟨sl', e2⟩ := slot b _ (neL b o e) hb (neC b o e hx) e1 (I.base.free b o e n hx)
  exact ⟨sl', e2⟩
 ·obtain ⟨o', e1⟩ := I.base.there b o e hx
  exact free b o' (neC b o e hx) e1 (I.base.free b o e n hx)
 ·obtain ⟨o', e1⟩ := I.base.there b o e hx
  exact there b o' (neC b o e hx) e1
 ·obtain ⟨m1, e1⟩ := I.base.tbls b ps e
  obtain ⟨m2, e2⟩ := tbls b _ e1
  exact ⟨m1 ++ m2, by rw [e2, Array.append_assoc]⟩
 ·obtain ⟨m, hn, hl⟩ := I.loc
  refine ⟨m, ns m hn, fun i x v e1 e2 e3 => ?_⟩
  obtain ⟨u, r, l⟩ := hl i x v e1 e2 e3
  refine ⟨u, r, ?_⟩
  rcases l with l | ⟨k, c, e, z⟩
  ·exact .inl l
  ·exact .inr ⟨k, c, e, cellK x c e _ z⟩
 ·obtain ⟨v, z⟩ := I.cell x c e
  exact ⟨v, cellK x c e v z⟩
 ·obtain ⟨m, ⟨o, _, _, ho, _⟩, _⟩ := I.loc
  exact free _ o (fun z => (hch _ z).2.1 rfl) ho I.free
 ·obtain ⟨v, o, ho, hd⟩ := I.cell x c e
  exact free c o (fun z => (hch c z).2.2.1 x c e rfl) ho (I.freeC x c e)
 ·obtain ⟨e, n, ne, nf, d⟩ := I.pin p hp
  have nch : p.1 ∉ ch := fun z => (hch p.1 z).2.2.2 p hp rfl
  exact ⟨keep p.1 p.2 ne nf nch e n, free p.1 p.2 nch e n, ne, nf, d⟩
theorem Inv.un {t' : Nat} (I : Inv X pins σ H s) (u : Un X.fs [] H H' s.heap h') (hok : HOk X.prog X.w H' h') : Inv X pins σ H' { s with heap := h', toks := t' } := by
 obtain ⟨m, ⟨o, es, ep, ho, r⟩, _⟩ := id I.loc
 obtain ⟨sl, hL⟩ := u.any ho I.free (by simp)
 exact I.step (g' := s.gens) (d' := s.drawn) (ch := []) (fun _ z => nomatch z) (fun b o _ hb _ e n => u.keep b o e n hb (by simp)) (fun b o _ hb _ e n => u.slot b o e n hb (by simp)) (fun b o _ e n => u.free b o e n (by simp)) (fun b o _ e => u.there b o e (by simp)) u.tups u.frzs u.tbls (fun m' hm => by
  obtain ⟨o', es', ep', ho', r'⟩ := hm
  rw [ho] at ho'; cases ho'
  exact ⟨_, es', ep', hL, r'⟩) hok I.bare
theorem Inv.call {g' : Array GenState} {t' : Nat} {d' : Drawn} {ch : List Addr} (I : Inv X pins σ H s) (u : Un (frs X.stack) ch H H' s.heap h') (hok : HOk X.prog X.w H' h') (hg : AllBare g')
  (hch : ∀ b ∈ ch, (b ∈ X.ex \/ X.s₀.heap.objs.size <= b) /\ b ≠ X.env.locals /\ (∀ x c, X.env.cells.lookup x = some c -> c ≠ b) /\ ∀ p ∈ X.pn ++ pins, p.1 ≠ b) :
  Inv X pins σ H' { s with heap := h', gens := g', drawn := d', toks := t' } := by
 obtain ⟨m, ⟨o, es, ep, ho, r⟩, _⟩ := id I.loc
 obtain ⟨sl, hL⟩ := u.any ho I.free fun z => (hch _ z).2.1 rfl
 exact I.step (ch := ch) hch (fun b o hL hb hc e n => u.keep b o e n (fun z => (List.mem_cons.mp (I.stkSub b z)).elim hL hb) hc) (fun b o _ _ hc e n => u.any e n hc) (fun b o hc e n => u.free b o e n hc) (fun b o hc e => u.there b o e hc) u.tups u.frzs u.tbls (fun m' hm => by
  obtain ⟨o', es', ep', ho', r'⟩ := hm
  rw [ho] at ho'; cases ho'
  exact ⟨_, es', ep', hL, r'⟩) hok hg
theorem Inv.turned {t' : Nat} {it : Addr} (I : Inv X pins σ H s) (k : ∀ b o, b ≠ it -> s.heap.get? b = some o -> h'.get? b = some o) (hn : H it = none) (hL : it ≠ X.env.locals)
  (h1 : it ∈ X.ex \/ X.s₀.heap.objs.size <= it) (h2 : ∀ x c, X.env.cells.lookup x = some c -> c ≠ it) (h3 : ∀ p ∈ X.pn ++ pins, p.1 ≠ it) : Inv X pins σ H { s with heap := h', toks := t' } := by
 have nit : ∀ b u, H b = some u -> b ≠ it := fun b u e z => by rw [z, hn] at e; cases e
 refine I.step (g' := s.gens) (d' := s.drawn) (ch := [it]) (fun b hb => ?_) (fun b o _ _ hc e _ => k b o (fun z => hc (by simp [z])) e) (fun b o _ _ hc e _ => ⟨o.slots, k b o (fun z => hc (by simp [z])) e⟩) (fun _ _ _ _ n => n)
  (fun b o hc e => ⟨o, k b o (fun z => hc (by simp [z])) e⟩) (fun _ _ e => e) (fun _ _ _ e => e) (fun b ps e => ⟨#[], by rw [e]; simp⟩) (fun m hm => ?_) (fun b u e => ?_) I.bare
 ·have e : b = it := by simpa using hb
  subst e
  exact ⟨h1, hL, h2, h3⟩
 ·obtain ⟨o, es, ep, ho, r⟩ := hm
  exact ⟨o, es, ep, k _ o (Ne.symm hL) ho, r⟩
 ·refine (I.hok b u e).stay (fun c v hc q => k c v ?_ q) (fun _ q => q) fun _ _ q => q
  rcases hc with z | z
  ·rw [z]; exact nit b u e
  ·exact nit c _ z
theorem Inv.tok (I : Inv X pins σ H s) (t : Nat) : Inv X pins σ H { s with toks := t } := I.un (h' := s.heap) (t' := t) Un.refl I.hok
theorem Inv.kept {t' : Nat} (I : Inv X pins σ H s) (k : ∀ b u, s.heap.get? b = some u -> h'.get? b = some u) : Inv X pins σ H { s with heap := h', toks := t' } := I.un (Un.kept k) (I.hok.kept k)
theorem Inv.laid {a : Addr} {o : HO} {t' : Nat} (I : Inv X pins σ H s) (k : ∀ b u, s.heap.get? b = some u -> h'.get? b = some u) (hp : s.heap.objs.size <= a) (new : ObjOk X.prog X.w (upd H a o) h' a o) :
  Inv X pins σ (upd H a o) { s with heap := h', toks := t' } := I.un (Un.laid k hp (I.hok.fresh hp)) (I.hok.laid k hp new)
theorem Inv.write {x e : Addr} {o : HO} {t' : Nat} (I : Inv X pins σ H s) (mu : Mut (H x)) (he : e = x \/ H e = some (.own x)) (k : ∀ b u, b ≠ e -> s.heap.get? b = some u -> h'.get? b = some u) (heo : ∃ u, h'.get? e = some u)
  (new : ObjOk X.prog X.w (upd H x o) h' x o) : Inv X pins σ (upd H x o) { s with heap := h', toks := t' } := I.un (Un.write mu he k heo) (I.hok.write mu he k heo new)
theorem Inv.pins_of {pins' : List (Addr × Obj)} (I : Inv X pins σ H s) (h : ∀ p ∈ pins', s.heap.get? p.1 = some p.2 /\ H p.1 = none /\ p.1 ≠ X.env.locals /\ p.1 ∉ X.fs /\ ∀ v, p.2.data ≠ .cell v) : Inv X pins' σ H s :=
 ⟨I.ok, I.os, I.bare, I.base, I.loc, I.cell, I.free, I.freeC, fun p hp => (List.mem_append.mp hp).elim (fun z => I.pin p (List.mem_append_left _ z)) (h p), I.hok, I.len⟩
theorem nodup_ix {N : List Str} (hN : N.Nodup) {i j : Nat} {x : Str} (a : N[i]? = some x) (b : N[j]? = some x) : i = j := by
 obtain ⟨h1, e1⟩ := List.getElem?_eq_some_iff.mp a
 obtain ⟨h2, e2⟩ := List.getElem?_eq_some_iff.mp b
 exact (List.getElem_inj hN).mp (e1.trans e2.symm)
theorem store_ok2 {M : Model} {A : Around} {E : Value -> Shared -> Prop} {i : Nat} {x : Str} {v : V} {u : Value} {Q : Unit -> Shared -> Prop} (I : Inv X pins σ H s) (hN : X.N.Nodup) (hi : X.N[i]? = some x) (hx : Loc X.env.scope x) (r : RelV v u)
  (h : ∀ s', Inv X pins (σ.set i (some v)) H s' -> (∃ a, Heap.SameBut a s.heap s'.heap /\ (a = X.env.locals \/ X.env.cells.lookup x = some a)) -> Q () s') (hf : X.fn x = true \/ X.env.scope.names.lookup x = some .local := by first | exact .inl rfl | exact .inr rfl | assumption) : wpAny M A (storeName X.env x u) Q E s := by
 obtain ⟨m, hn, hl⟩ := id I.loc
 have hcls : (X.env.scope.kind == .class || (X.env.scope.kind == .module && X.env.locals != X.env.globals)) = false := by rw [I.ok.kind]; rfl
 have hiσ : i < σ.length := by rw [I.len]; exact (List.getElem?_eq_some_iff.mp hi).1
 have cne := I.cne
 have tracked : ∀ {a : Addr} {h' : Heap}, (∃ o, s.heap.get? a = some o /\ H a = none) -> Heap.SameBut a s.heap h' -> HOk X.prog X.w H h' := fun {a h'} ha hs b ob e => by
  obtain ⟨_, _, hfree⟩ := ha
  refine (I.hok b ob e).stay (fun c w' hc q => (hs.2 c ?_).trans q) (fun _ q => q) fun _ _ q => q
  rintro rfl
  rcases hc with rfl | hc
  ·rw [hfree] at e; cases e
  ·rw [hfree] at hc; cases hc
 rcases hx with hk | hk
 ·refine wpAny_storeName_local hk hn (fun h' hn' hs => ?_) hcls
  obtain ⟨oL, _, _, hoL, _⟩ := id hn
  refine h _ ⟨I.ok, I.os, I.bare, ⟨fun b o e n hb hx => ?_, fun b o e n hb hx => ?_, I.base.free, fun b o e hx => ?_, I.base.tups, I.base.frzs, I.base.tbls⟩, ⟨_, hn', fun j y v' e1 e2 e3 => ?_⟩, fun y c e => ?_, I.free, I.freeC, fun p hp => ?_, tracked ⟨oL, hoL, I.free⟩ hs, by simpa using I.len⟩ ⟨_, hs, .inl rfl⟩
  ·exact (hs.2 b (Nat.ne_of_lt (Nat.lt_of_lt_of_le (Heap.lt_size e) I.ok.above))).trans (I.base.keep b o e n hb hx)
  ·obtain ⟨sl, e1⟩ := I.base.slot b o e n hb hx
   exact ⟨sl, (hs.2 b (Nat.ne_of_lt (Nat.lt_of_lt_of_le (Heap.lt_size e) I.ok.above))).trans e1⟩
  ·obtain ⟨o', e1⟩ := I.base.there b o e hx
   exact ⟨o', (hs.2 b (Nat.ne_of_lt (Nat.lt_of_lt_of_le (Heap.lt_size e) I.ok.above))).trans e1⟩
  ·by_cases hj : j = i
   ·subst hj
    rw [hi] at e1; cases e1
    rw [List.getElem?_set_self hiσ] at e2
    cases e2
    exact ⟨u, r, .inl ⟨hk, by simp⟩⟩
   ·rw [List.getElem?_set_ne (Ne.symm hj)] at e2
    obtain ⟨u', r', q⟩ := hl j y v' e1 e2 e3
    refine ⟨u', r', ?_⟩
    rcases q with ⟨k, e⟩ | ⟨k, c, e, z⟩
    ·refine .inl ⟨k, ?_⟩
     have : y ≠ x := fun e => hj (nodup_ix hN e1 (e ▸ hi))
     simp [this, e]
    ·exact .inr ⟨k, c, e, z.sameBut hs (cne y c e)⟩
  ·obtain ⟨w', z⟩ := I.cell y c e
   exact ⟨w', z.sameBut hs (cne y c e)⟩
  ·obtain ⟨e, n, ne, nf, d⟩ := I.pin p hp
   exact ⟨(hs.2 p.1 ne).trans e, n, ne, nf, d⟩
 ·have hfn : X.fn x = true := by
   rcases hf with z | z
   ·exact z
   ·rw [z] at hk; cases hk
  obtain ⟨c, hc⟩ := I.ok.has x (.inl hk)
  obtain ⟨w', z⟩ := I.cell x c hc
  refine wpAny_storeName_cell I.ok.kind hk hc z (fun h' hc' hs => ?_)
  obtain ⟨oc, hoc, hocd⟩ := id z
  refine h { s with heap := h' } ⟨I.ok, I.os, I.bare, ⟨fun b o e n hb hx => ?_, fun b o e n hb hx => ?_, I.base.free, fun b o e hx => ?_, I.base.tups, I.base.frzs, I.base.tbls⟩, ⟨m, hn.sameBut hs (Ne.symm (cne x c hc)), fun j y v' e1 e2 e3 => ?_⟩, fun y c' e => ?_, I.free, I.freeC, fun p hp => ?_, tracked ⟨oc, hoc, I.freeC x c hc⟩ hs, by simpa using I.len⟩ ⟨c, hs, .inr hc⟩
  ·exact (hs.2 b (Nat.ne_of_lt (Nat.lt_of_lt_of_le (Heap.lt_size e) (I.ok.cab x c hfn hc)))).trans (I.base.keep b o e n hb hx)
  ·obtain ⟨sl, e1⟩ := I.base.slot b o e n hb hx
   exact ⟨sl, (hs.2 b (Nat.ne_of_lt (Nat.lt_of_lt_of_le (Heap.lt_size e) (I.ok.cab x c hfn hc)))).trans e1⟩
  ·obtain ⟨o', e1⟩ := I.base.there b o e hx
   exact ⟨o', (hs.2 b (Nat.ne_of_lt (Nat.lt_of_lt_of_le (Heap.lt_size e) (I.ok.cab x c hfn hc)))).trans e1⟩
  ·by_cases hj : j = i
   ·subst hj
    rw [hi] at e1; cases e1
    rw [List.getElem?_set_self hiσ] at e2
    cases e2
    exact ⟨u, r, .inr ⟨.inl hk, c, hc, hc'⟩⟩
   ·rw [List.getElem?_set_ne (Ne.symm hj)] at e2
    obtain ⟨u', r', q⟩ := hl j y v' e1 e2 e3
    refine ⟨u', r', ?_⟩
    rcases q with q | ⟨k, c', e, z'⟩
    ·exact .inl q
    ·refine .inr ⟨k, c', e, z'.sameBut hs ?_⟩
     rintro rfl
     exact hj (nodup_ix hN e1 (I.ok.inj _ _ _ e hc ▸ hi))
  ·by_cases hcc : c' = c
   ·subst hcc; exact ⟨_, hc'⟩
   ·obtain ⟨w2, z2⟩ := I.cell y c' e
    exact ⟨w2, z2.sameBut hs hcc⟩
  ·obtain ⟨e, n, ne, nf, d⟩ := I.pin p hp
   refine ⟨(hs.2 p.1 ?_).trans e, n, ne, nf, d⟩
   intro q
   rw [q, hoc] at e
   have q' : oc = p.2 := Option.some.inj e
   exact d w' (by rw [<- q']; exact hocd)
theorem store_ok {M : Model} {A : Around} {E : Value -> Shared -> Prop} {i : Nat} {x : Str} {v : V} {u : Value} {Q : Unit -> Shared -> Prop} (I : Inv X pins σ H s) (hN : X.N.Nodup) (hi : X.N[i]? = some x) (hx : Loc X.env.scope x) (r : RelV v u)
  (h : ∀ s', Inv X pins (σ.set i (some v)) H s' -> Q () s') (hf : X.fn x = true \/ X.env.scope.names.lookup x = some .local := by first | exact .inl rfl | exact .inr rfl | assumption) : wpAny M A (storeName X.env x u) Q E s :=
 store_ok2 I hN hi hx r (fun s' I' _ => h s' I') hf
end
abbrev XK := Value -> Option Addr -> Hp -> Prop
abbrev St := List (Option V)
abbrev VK := V -> Hp -> Prop
abbrev TE := St -> Hp -> VK -> Prop
abbrev TT := St -> Hp -> (Bool -> Hp -> Prop) -> Prop
abbrev TA := St -> Hp -> (List V -> Hp -> Prop) -> Prop
structure Ends where
 nx : St -> Hp -> Prop
 rt : VK
 bk : St -> Hp -> Prop := fun _ _ => False
 ct : St -> Hp -> Prop := fun _ _ => False
abbrev TS := Ends -> St -> Hp -> Prop
def EP (X : Cx) (pins : List (Addr × Obj)) (σ : St) (Q : VK) (u : Value) (s' : Shared) : Prop := ∃ v H', Inv X pins σ H' s' /\ RelV v u /\ Q v H'
def TP (X : Cx) (pins : List (Addr × Obj)) (σ : St) (Q : Bool -> Hp -> Prop) (b : Bool) (s' : Shared) : Prop := ∃ H', Inv X pins σ H' s' /\ Q b H'
def AP (X : Cx) (pins : List (Addr × Obj)) (σ : St) (Q : List V -> Hp -> Prop) (us : List Value) (s' : Shared) : Prop := ∃ vs H', Inv X pins σ H' s' /\ Vals vs us /\ Q vs H'
def SP (X : Cx) (pins : List (Addr × Obj)) (D : Ends) (f : Flow) (s' : Shared) : Prop :=
 match f with
 | .next => ∃ σ' H', Inv X pins σ' H' s' /\ D.nx σ' H'
 | .brk => ∃ σ' H', Inv X pins σ' H' s' /\ D.bk σ' H'
 | .cont => ∃ σ' H', Inv X pins σ' H' s' /\ D.ct σ' H'
 | .ret u => ∃ v σ' H', Inv X pins σ' H' s' /\ RelV v u /\ D.rt v H'
def PE (X : Cx) (e : Expr) (t : TE) : Prop :=
 ∀ (pins : List (Addr × Obj)) (s : Shared) (σ : St) (H : Hp) (Q : VK), Inv X pins σ H s -> t σ H Q -> wpAny (model X.prog X.w) X.A (eval e X.env) (EP X pins σ Q) X.xe s
def PT (X : Cx) (e : Expr) (t : TT) : Prop :=
 ∀ (pins : List (Addr × Obj)) (s : Shared) (σ : St) (H : Hp) (Q : Bool -> Hp -> Prop), Inv X pins σ H s -> t σ H Q -> wpAny (model X.prog X.w) X.A (isTrue e X.env (eval e X.env)) (TP X pins σ Q) X.xe s
def PW (X : Cx) (e : Expr) (t : TT) : Prop :=
 ∀ (whole : Sem Value) (pins : List (Addr × Obj)) (s : Shared) (σ : St) (H : Hp) (Q : Bool -> Hp -> Prop), Inv X pins σ H s -> t σ H Q -> wpAny (model X.prog X.w) X.A (isTrue e X.env whole) (TP X pins σ Q) X.xe s
theorem PW.pt {X : Cx} {e : Expr} {t : TT} (h : PW X e t) : PT X e t := h _
def PA (X : Cx) (es : List Expr) (t : TA) : Prop :=
 ∀ (pos : Pos) (pins : List (Addr × Obj)) (s : Shared) (σ : St) (H : Hp) (Q : List V -> Hp -> Prop), Inv X pins σ H s -> t σ H Q -> wpAny (model X.prog X.w) X.A (spliced (backTo pos (starEach es X.env))) (AP X pins σ Q) X.xe s
def PS (X : Cx) (st : Stmt) (t : TS) : Prop :=
 ∀ (pins : List (Addr × Obj)) (s : Shared) (σ : St) (H : Hp) (D : Ends), Inv X pins σ H s -> t D σ H -> wpAny (model X.prog X.w) X.A (exec st X.env) (SP X pins D) X.xe s
def PSs (X : Cx) (st : List Stmt) (t : TS) : Prop :=
 ∀ (pins : List (Addr × Obj)) (s : Shared) (σ : St) (H : Hp) (D : Ends), Inv X pins σ H s -> t D σ H -> wpAny (model X.prog X.w) X.A (execs st X.env) (SP X pins D) X.xe s
theorem thn {α : Type} {t : Sem α} {Q Q' : α -> Shared -> Prop} {M : Model} {A : Around} {E : Value -> Shared -> Prop} {s : Shared} (h : wpAny M A t Q E s) (hQ : ∀ a s, Q a s -> Q' a s) : wpAny M A t Q' E s := wpAny_mono h hQ fun _ _ x => x
end L2
namespace L2
open PySem PySem.Spec PyProof.Rows
section
variable {X : Cx}
def tVar (i : Nat) : TE := fun σ H Q => ∃ v, σ[i]? = some (some v) /\ Q v H
def tC (v : V) : TE := fun _ H Q => Q v H
theorem pe_var {i : Nat} {x : Str} {pos : Pos} (hN : X.N[i]? = some x) (hv : Vis X.env.scope x) (hd : (x == ("__debug__" : Str)) = false := by decide) (hcd : (x == ("__classdict__" : Str)) = false := by decide) : PE X (.Name x pos) (tVar i) := by
 intro pins s σ H Q I h
 obtain ⟨v, e, h⟩ := h
 obtain ⟨m, hn, hl⟩ := I.loc
 obtain ⟨u, r, l⟩ := hl i x v hN e hv
 have fin : EP X pins σ Q u s := ⟨v, H, I, r, h⟩
 rcases l with ⟨hk, hm⟩ | ⟨hk, c, hc, hcell⟩
 ·exact wpAny_Name (wpAny_loadName_local I.ok.kind hk hn hm fin) hd
 ·rcases hk with hk | hk
  ·exact wpAny_Name (wpAny_loadName_cell I.ok.kind hk hc hcell fin) hd
  ·exact wpAny_Name (wpAny_loadName_free I.ok.kind hk hc hcell fin hcd) hd
theorem pe_int {i j pos} : PE X (.Constant (.int i) j pos) (tC (.int i)) := fun _ _ _ H _ I h => wpAny_Constant_int ⟨.int i, H, I.tok _, ⟨_, rfl⟩, h⟩
theorem pe_bl {b j pos} : PE X (.Constant (.bool b) j pos) (tC (.bl b)) := fun _ _ _ H _ I h => Constant_bool ⟨.bl b, H, I, rfl, h⟩
def Gl (X : Cx) (x : Str) : Prop := X.env.kindOf x = some .globalImplicit
theorem ld_glob {E : Value -> Shared -> Prop} {pins : List (Addr × Obj)} {s : Shared} {σ : St} {H : Hp} {x : Str} {u : Value} {pos : Pos} {Q : Value -> Shared -> Prop} (I : Inv X pins σ H s) (hg : Gl X x) (hm : X.mg x = some u) (h : Q u s)
  (hd : (x == ("__debug__" : Str)) = false := by decide) : wpAny (model X.prog X.w) X.A (eval (.Name x pos) X.env) Q E s :=
 Calls.Name_function_global I.ok.kind hg (Calls.loadGlobal_global (by rw [I.ok.glob]; exact I.mod.glob.keeps I.bk) hm h) hd
theorem ld_blt {E : Value -> Shared -> Prop} {pins : List (Addr × Obj)} {s : Shared} {σ : St} {H : Hp} {x : Str} {u : Value} {pos : Pos} {Q : Value -> Shared -> Prop} (I : Inv X pins σ H s) (hg : Gl X x) (hm : X.mg x = none) (hv : bootBuiltins x = some u) (h : Q u s)
  (hn : x ≠ "__name__" := by decide) (hd : (x == ("__debug__" : Str)) = false := by decide) : wpAny (model X.prog X.w) X.A (eval (.Name x pos) X.env) Q E s := by
 obtain ⟨mb, h1, h2⟩ := I.mod.blt
 exact Calls.Name_function_global I.ok.kind hg (Calls.loadGlobal_builtin (by rw [I.ok.glob]; exact I.mod.glob.keeps I.bk) hm (by rw [I.ok.blt]; exact h1.keeps I.bk) ((h2 x hn).trans hv) h) hd
theorem pe_glob {x : Str} {v : V} {u : Value} {pos : Pos} (hg : Gl X x) (hm : X.mg x = some u) (r : RelV v u) (hd : (x == ("__debug__" : Str)) = false := by decide) : PE X (.Name x pos) (tC v) :=
 fun _ _ _ H _ I h => ld_glob I hg hm ⟨v, H, I, r, h⟩ hd
theorem pe_bltn {x : Str} {v : V} {u : Value} {pos : Pos} (hg : Gl X x) (hm : X.mg x = none) (hv : bootBuiltins x = some u) (r : RelV v u) (hn : x ≠ "__name__" := by decide) (hd : (x == ("__debug__" : Str)) = false := by decide) : PE X (.Name x pos) (tC v) :=
 fun _ _ _ H _ I h => ld_blt I hg hm hv ⟨v, H, I, r, h⟩ hn hd
variable {a b : Expr} {ta tb : TE} {pos : Pos}
def tB (t : TE) : TT := fun σ H Q => t σ H fun x H1 => ∃ c, x = .bl c /\ Q c H1
theorem pt_val {e : Expr} {t : TE} (h : PE X e t) (he : ∀ whole, isTrue e X.env whole = (do let v <- whole; standAt e.pos; holding [v] (truthy v)) := by intro _; rfl) : PT X e (tB t) := by
 intro pins s σ H Q I hw
 refine isTrue_plain (thn (h pins s σ H _ I hw) fun v s1 ⟨x, H1, I1, r1, q1⟩ => ?_) (he _)
 obtain ⟨d, rfl, q⟩ := q1
 cases r1
 exact wpAny_truthy_bool ⟨H1, I1, q⟩
variable {tA tB' : TT} {rest : List Expr}
def tAnd (t u : TT) : TT := fun σ H Q => t σ H fun c H1 => if c = true then u σ H1 Q else Q false H1
def tOr (t u : TT) : TT := fun σ H Q => t σ H fun c H1 => if c = true then Q true H1 else u σ H1 Q
def tNot (t : TT) : TT := fun σ H Q => t σ H fun c H1 => Q (!c) H1
theorem pw_and1 (ha : PT X a tA) : PW X (.BoolOp .And [a] pos) tA := by
 intro wh pins s σ H Q I h
 refine isTrue_and (thn (ha pins s σ H Q I h) fun c s1 e => ?_)
 cases c with
 | true => exact isTrue_and_nil e
 | false => exact e
theorem pw_or1 (ha : PT X a tA) : PW X (.BoolOp .Or [a] pos) tA := by
 intro wh pins s σ H Q I h
 refine isTrue_or (thn (ha pins s σ H Q I h) fun c s1 e => ?_)
 cases c with
 | false => exact isTrue_or_nil e
 | true => exact e
theorem pw_and (ha : PT X a tA) (hb : PW X (.BoolOp .And (b :: rest) pos) tB') : PW X (.BoolOp .And (a :: b :: rest) pos) (tAnd tA tB') := by
 intro wh pins s σ H Q I h
 refine isTrue_and (thn (ha pins s σ H _ I h) fun c s1 ⟨H1, I1, q1⟩ => ?_)
 cases c with
 | true => exact hb wh pins s1 σ H1 Q I1 q1
 | false => exact ⟨H1, I1, q1⟩
theorem pw_or (ha : PT X a tA) (hb : PW X (.BoolOp .Or (b :: rest) pos) tB') : PW X (.BoolOp .Or (a :: b :: rest) pos) (tOr tA tB') := by
 intro wh pins s σ H Q I h
 refine isTrue_or (thn (ha pins s σ H _ I h) fun c s1 ⟨H1, I1, q1⟩ => ?_)
 cases c with
 | true => exact ⟨H1, I1, q1⟩
 | false => exact hb wh pins s1 σ H1 Q I1 q1
theorem pt_not (ha : PT X a tA) : PT X (.UnaryOp .Not a pos) (tNot tA) := by
 intro pins s σ H Q I h
 exact isTrue_not (ha pins s σ H (fun c H1 => Q (!c) H1) I h)
def tAndV (ta tb : TE) : TE := fun σ H Q => ta σ H fun x H1 => ∃ c, x = .bl c /\ if c = true then tb σ H1 Q else Q (.bl false) H1
def tOrV (ta tb : TE) : TE := fun σ H Q => ta σ H fun x H1 => ∃ c, x = .bl c /\ if c = true then Q (.bl true) H1 else tb σ H1 Q
def tNotV (ta : TE) : TE := fun σ H Q => ta σ H fun x H1 => ∃ c, x = .bl c /\ Q (.bl (!c)) H1
theorem pe_one {op} {t : TE} (h : PE X a t) : PE X (.BoolOp op [a] pos) t := fun pins s σ H Q I hw => BoolOp_one (h pins s σ H Q I hw)
theorem pe_and (ha : PE X a ta) (hb : PE X (.BoolOp .And (b :: rest) pos) tb) : PE X (.BoolOp .And (a :: b :: rest) pos) (tAndV ta tb) := by
 intro pins s σ H Q I h
 refine BoolOp_and (thn (ha pins s σ H _ I h) fun v s1 ⟨x, H1, I1, r1, q1⟩ => ?_)
 obtain ⟨c, rfl, q1⟩ := q1
 cases r1
 refine wpAny_truthy_bool ?_
 cases c with
 | true => exact hb pins s1 σ H1 Q I1 q1
 | false => exact ⟨.bl false, H1, I1, rfl, q1⟩
theorem pe_or (ha : PE X a ta) (hb : PE X (.BoolOp .Or (b :: rest) pos) tb) : PE X (.BoolOp .Or (a :: b :: rest) pos) (tOrV ta tb) := by
 intro pins s σ H Q I h
 refine BoolOp_or (thn (ha pins s σ H _ I h) fun v s1 ⟨x, H1, I1, r1, q1⟩ => ?_)
 obtain ⟨c, rfl, q1⟩ := q1
 cases r1
 refine wpAny_truthy_bool ?_
 cases c with
 | false => exact hb pins s1 σ H1 Q I1 q1
 | true => exact ⟨.bl true, H1, I1, rfl, q1⟩
theorem pe_not (ha : PE X a ta) : PE X (.UnaryOp .Not a pos) (tNotV ta) := by
 intro pins s σ H Q I h
 refine UnaryOp_ (thn (ha pins s σ H _ I h) fun v s1 ⟨x, H1, I1, r1, q1⟩ => ?_)
 obtain ⟨c, rfl, q1⟩ := q1
 cases r1
 exact not_of (wpAny_truthy_bool ⟨.bl (!c), H1, I1, rfl, q1⟩)
end
end L2
namespace L2
open PySem PySem.Spec PyProof.Rows
def SqL (K : PySem.W.Frag) (H : Hp) (a : Addr) (xs : List V) : Prop :=
 Rd H a (.lst xs) \/
  ∃ (o : Obj) (its : Array Value) (n : Nat), K.lookup a = some o /\ o.cls = .type "list" /\ o.dict = none /\ o.data = .seq its n /\ its.size <= sizeLine /\ Vals xs its.toList
def SqT (K : PySem.W.Frag) (H : Hp) (a : Addr) (xs : List V) : Prop :=
 Rd H a (.tup xs) \/
  ∃ (o : Obj) (its : Array Value) (n : Nat), K.lookup a = some o /\ o.cls = .type "tuple" /\ o.data = .seq its n /\ its.size <= sizeLine /\ Vals xs its.toList
def absV : Value -> Option V
 | .none => some .non
 | .bool b => some (.bl b)
 | .int i _ => some (.int i)
 | .str x _ => some (.str x)
 | .bytes b _ => some (.byt b)
 | .float b _ => some (.flt b)
 | .ref a => some (.ref a)
 | .type n => some (.ty n)
 | _ => none
theorem RelV.abs {x : V} {u : Value} (r : RelV x u) : absV u = some x := by
 cases x with
 | non => cases r; rfl
 | bl _ => cases r; rfl
 | int _ => obtain ⟨t, rfl⟩ := r; rfl
 | str _ => obtain ⟨t, rfl⟩ := r; rfl
 | byt _ => obtain ⟨t, rfl⟩ := r; rfl
 | flt _ => obtain ⟨t, rfl⟩ := r; rfl
 | ref _ => cases r; rfl
 | ty _ => cases r; rfl
theorem RelV.inj {x y : V} {u : Value} (r : RelV x u) (q : RelV y u) : x = y := Option.some.inj (r.abs.symm.trans q.abs)
theorem Vals.inj : ∀ {xs ys : List V} {us : List Value}, Vals xs us -> Vals ys us -> xs = ys
 | _, _, _, .nil, .nil => rfl
 | _, _, _, .cons r t, .cons r' t' => by rw [r.inj r', Vals.inj t t']
section
variable {X : Cx} {pins : List (Addr × Obj)} {σ : St} {H : Hp} {s : Shared} {a : Addr} {xs ys : List V}
theorem SqL.of {K : PySem.W.Frag} (h : H a = some (.lst xs)) : SqL K H a xs := .inl (.inl h)
theorem SqT.of {K : PySem.W.Frag} (h : H a = some (.tup xs)) : SqT K H a xs := .inl (.inl h)
theorem Inv.list (I : Inv X pins σ H s) (h : SqL X.K H a xs) : ∃ its : List Value, Vals xs its /\ PlainL s.heap a its.toArray /\ xs.length <= sizeLine := by
 rcases h with h | ⟨o, its, n, hk, hc, hd, hs, hz, r⟩
 ·obtain ⟨z, its, n, r, e⟩ := h.ok I.hok
  exact ⟨its, r, ⟨_, n, e, rfl, rfl, rfl⟩, z⟩
 ·refine ⟨its.toList, r, ⟨o, n, I.kIn a o hk, hc, hd, by simpa using hs⟩, ?_⟩
  have e := r.length
  simp only [Array.length_toList] at e
  omega
theorem Inv.tuple (I : Inv X pins σ H s) (h : SqT X.K H a xs) : ∃ its : List Value, Vals xs its /\ IsTup s.heap a its.toArray /\ xs.length <= sizeLine := by
 rcases h with h | ⟨o, its, n, hk, hc, hs, hz, r⟩
 ·obtain ⟨z, its, r, p⟩ := h.ok I.hok
  exact ⟨its, r, p, z⟩
 ·refine ⟨its.toList, r, ⟨o, I.kIn a o hk, hc, n, by simpa using hs⟩, ?_⟩
  have e := r.length
  simp only [Array.length_toList] at e
  omega
theorem Inv.list_inj (I : Inv X pins σ H s) (h : SqL X.K H a xs) (h' : SqL X.K H a ys) : xs = ys := by
 obtain ⟨its, r, ⟨o, n, e, _, _, d⟩, _⟩ := I.list h
 obtain ⟨its', r', ⟨o', n', e', _, _, d'⟩, _⟩ := I.list h'
 rw [e] at e'; cases e'
 rw [d] at d'
 injection d' with d1 _
 have : its = its' := by simpa using congrArg Array.toList d1
 subst this
 exact r.inj r'
theorem Inv.tuple_inj (I : Inv X pins σ H s) (h : SqT X.K H a xs) (h' : SqT X.K H a ys) : xs = ys := by
 obtain ⟨its, r, ⟨o, e, _, n, d⟩, _⟩ := I.tuple h
 obtain ⟨its', r', ⟨o', e', _, n', d'⟩, _⟩ := I.tuple h'
 rw [e] at e'; cases e'
 rw [d] at d'
 injection d' with d1 _
 have : its = its' := by simpa using congrArg Array.toList d1
 subst this
 exact r.inj r'
end
abbrev Cx.wish (X : Cx) (E : Value -> Shared -> Prop) : Cx := { X with xe := E }
abbrev Cx.nox (X : Cx) : Cx := X.wish fun _ _ => False
theorem Cx.Ok.wish {X : Cx} (ok : X.Ok) (E : Value -> Shared -> Prop) : (X.wish E).Ok :=
 ⟨ok.mod, ok.kind, ok.glob, ok.blt, ok.above, ok.inj, ok.has, ok.cab, ok.hd, ok.frames, ok.stk, ok.exf, ok.bs, ok.bsz, ok.noex, ok.exfs, ok.funs, ok.frf⟩
theorem Cx.Ok.unwish {X : Cx} {E : Value -> Shared -> Prop} (ok : (X.wish E).Ok) : X.Ok :=
 ⟨ok.mod, ok.kind, ok.glob, ok.blt, ok.above, ok.inj, ok.has, ok.cab, ok.hd, ok.frames, ok.stk, ok.exf, ok.bs, ok.bsz, ok.noex, ok.exfs, ok.funs, ok.frf⟩
section
variable {X : Cx} {pins : List (Addr × Obj)} {σ : St} {H : Hp} {s : Shared} {E : Value -> Shared -> Prop}
theorem Inv.wish (I : Inv X pins σ H s) (E : Value -> Shared -> Prop) : Inv (X.wish E) pins σ H s := ⟨I.ok.wish E, I.os, I.bare, I.base, I.loc, I.cell, I.free, I.freeC, I.pin, I.hok, I.len⟩
theorem Inv.unwish (I : Inv (X.wish E) pins σ H s) : Inv X pins σ H s := ⟨I.ok.unwish, I.os, I.bare, I.base, I.loc, I.cell, I.free, I.freeC, I.pin, I.hok, I.len⟩
theorem SP.unwish {D : Ends} {f : Flow} {s' : Shared} (h : SP (X.wish E) pins D f s') : SP X pins D f s' := by
 cases f with
 | next => obtain ⟨σ', H', I, q⟩ := h; exact ⟨σ', H', I.unwish, q⟩
 | brk => obtain ⟨σ', H', I, q⟩ := h; exact ⟨σ', H', I.unwish, q⟩
 | cont => obtain ⟨σ', H', I, q⟩ := h; exact ⟨σ', H', I.unwish, q⟩
 | ret u => obtain ⟨v, σ', H', I, r, q⟩ := h; exact ⟨v, σ', H', I.unwish, r, q⟩
theorem PE.nox {e : Expr} {t : TE} (h : PE X.nox e t) : PE X e t := fun pins s σ H Q I hw =>
 wpAny_mono (h pins s σ H Q (I.wish _) hw) (fun _ _ ⟨v, H', I', r, q⟩ => ⟨v, H', I'.unwish, r, q⟩) fun _ _ z => False.elim z
theorem PT.nox {e : Expr} {t : TT} (h : PT X.nox e t) : PT X e t := fun pins s σ H Q I hw =>
 wpAny_mono (h pins s σ H Q (I.wish _) hw) (fun _ _ ⟨H', I', q⟩ => ⟨H', I'.unwish, q⟩) fun _ _ z => False.elim z
theorem PSs.nox {st : List Stmt} {t : TS} (h : PSs X.nox st t) : PSs X st t := fun pins s σ H D I hw =>
 wpAny_mono (h pins s σ H D (I.wish _) hw) (fun _ _ q => q.unwish) fun _ _ z => False.elim z
end
section
variable {X : Cx} {st : Stmt} {rest : List Stmt} {t u : TS} {e : Expr} {te : TE} {pos : Pos}
def tNext : TS := fun D σ H => D.nx σ H
def tSeq (t u : TS) : TS := fun D σ H => t { D with nx := u D } σ H
theorem pss_nil : PSs X [] tNext := fun _ _ σ H _ I h => wpAny_execs_nil ⟨σ, H, I, h⟩
theorem pss_cons (h1 : PS X st t) (h2 : PSs X rest u) : PSs X (st :: rest) (tSeq t u) := by
 intro pins s σ H D I h
 refine wpAny_execs_cons (thn (h1 pins s σ H { D with nx := u D } I h) fun f s1 q => ?_)
 cases f with
 | next =>
  obtain ⟨σ', H', I', q⟩ := q
  exact h2 pins s1 σ' H' D I' q
 | ret v => exact q
 | brk => exact q
 | cont => exact q
theorem pss_one (h1 : PS X st t) : PSs X [st] t := by
 intro pins s σ H D I h
 refine wpAny_execs_cons (thn (h1 pins s σ H D I h) fun f s1 q => ?_)
 cases f with
 | next => exact wpAny_execs_nil q
 | ret v => exact q
 | brk => exact q
 | cont => exact q
theorem Inv.quiet {pins : List (Addr × Obj)} {σ : St} {H : Hp} {s : Shared} (I : Inv X pins σ H s) : interactive X.env = false := by simp [interactive, I.ok.kind]
def tDrop (te : TE) : TS := fun D σ H => te σ H fun _ H1 => D.nx σ H1
theorem ps_expr (he : PE X e te) (hs : swapsWith e none pos.line X.env = pure false := by rfl) : PS X (.Expr e pos) (tDrop te) := by
 intro pins s σ H D I h
 exact wpAny_Expr_any (thn (he pins s σ H _ I h) fun v s1 ⟨x, H1, I1, r1, q1⟩ => ⟨σ, H1, I1, q1⟩) I.quiet hs
def tRet (te : TE) : TS := fun D σ H => te σ H D.rt
theorem ps_ret (he : PE X e te) : PS X (.Return (some e) pos) (tRet te) := by
 intro pins s σ H D I h
 exact wpAny_Return_some (thn (he pins s σ H _ I h) fun v s1 ⟨x, H1, I1, r1, q1⟩ => ⟨x, σ, H1, I1, r1, q1⟩)
def tIfS (c : TT) (t u : TS) : TS := fun D σ H => c σ H fun b H1 => if b = true then t D σ H1 else u D σ H1
theorem ps_if {c : Expr} {a b : List Stmt} {tc : TT} (hc : PT X c tc) (ha : PSs X a t) (hb : PSs X b u) : PS X (.If c a b pos) (tIfS tc t u) := by
 intro pins s σ H D I h
 refine wpAny_If (thn (hc pins s σ H _ I h) fun d s1 ⟨H1, I1, q1⟩ => ?_)
 cases d with
 | true => exact ha pins s1 σ H1 D I1 q1
 | false => exact hb pins s1 σ H1 D I1 q1
end
abbrev TG := V -> St -> Hp -> (St -> Hp -> Prop) -> Prop
abbrev TGs := List V -> St -> Hp -> (St -> Hp -> Prop) -> Prop
def PG (X : Cx) (target : Expr) (t : TG) : Prop :=
 ∀ (pins : List (Addr × Obj)) (s : Shared) (σ : St) (H : Hp) (v : V) (u : Value) (Q : St -> Hp -> Prop), Inv X pins σ H s -> RelV v u -> t v σ H Q ->
  wpAny (model X.prog X.w) X.A (assign target X.env u) (fun _ s' => ∃ σ' H', Inv X pins σ' H' s' /\ Q σ' H') X.xe s
def PGs (X : Cx) (ts : List Expr) (t : TGs) : Prop :=
 ∀ (pins : List (Addr × Obj)) (s : Shared) (σ : St) (H : Hp) (vs : List V) (us : List Value) (Q : St -> Hp -> Prop), Inv X pins σ H s -> Vals vs us -> t vs σ H Q ->
  wpAny (model X.prog X.w) X.A (assignInOrder ((assignEach ts X.env).map (·.2)) us) (fun _ s' => ∃ σ' H', Inv X pins σ' H' s' /\ Q σ' H') X.xe s
abbrev TSet := V -> V -> V -> Hp -> (Hp -> Prop) -> Prop
def PSet (X : Cx) (t : TSet) : Prop :=
 ∀ (pins : List (Addr × Obj)) (s : Shared) (σ : St) (H : Hp) (o i v : V) (ov iv u : Value) (Q : Hp -> Prop), Inv X pins σ H s -> RelV o ov -> RelV i iv -> RelV v u -> t o i v H Q ->
  wpAny (model X.prog X.w) X.A (setItem ov iv u) (fun _ s' => ∃ H', Inv X pins σ H' s' /\ Q H') X.xe s
section
variable {X : Cx} {pos : Pos}
def gName (i : Nat) : TG := fun v σ H Q => Q (σ.set i (some v)) H
theorem pg_name {i : Nat} {x : Str} (hN : X.N.Nodup) (hi : X.N[i]? = some x) (hx : Loc X.env.scope x) (hf : X.fn x = true \/ X.env.scope.names.lookup x = some .local := by first | exact .inl rfl | exact .inr rfl | assumption) : PG X (.Name x pos) (gName i) := by
 intro pins s σ H v u Q I r h
 exact wpAny_assign_Name (store_ok I hN hi hx r (fun s' I' => ⟨_, H, I', h⟩) hf)
def gNil : TGs := fun vs σ H Q => vs = [] /\ Q σ H
def gCons (t : TG) (u : TGs) : TGs := fun vs σ H Q => ∃ v r, vs = v :: r /\ t v σ H fun σ' H' => u r σ' H' Q
theorem pgs_nil : PGs X [] gNil := by
 intro pins s σ H vs us Q I r h
 obtain ⟨e, h⟩ := h
 subst e
 cases r
 exact assignInOrder_nil ⟨σ, H, I, h⟩
theorem pgs_cons {e : Expr} {es : List Expr} {t : TG} {u : TGs} (h1 : PG X e t) (h2 : PGs X es u)
  (hs : (assignEach (e :: es) X.env).map (·.2) = assign e X.env :: (assignEach es X.env).map (·.2) := by rfl) : PGs X (e :: es) (gCons t u) := by
 intro pins s σ H vs us Q I r h
 obtain ⟨v, vr, e1, h⟩ := h
 subst e1
 cases r with
 | cons r rr =>
  rw [hs]
  refine assignInOrder_cons (thn (h1 pins s σ H _ _ _ I r h) fun _ s1 ⟨σ1, H1, I1, q1⟩ => ?_)
  exact h2 pins s1 σ1 H1 _ _ Q I1 rr q1
def gTup (K : PySem.W.Frag) (n : Nat) (t : TGs) : TG := fun v σ H Q => ∃ a xs, v = .ref a /\ SqT K H a xs /\ xs.length = n /\ t xs σ H Q
theorem pg_tup {es : List Expr} {k : Nat} {t : TGs} {n : Nat} (hc : X.calm = true) (h : PGs X es t)
  (hn : (assignEach es X.env).length = n := by rfl) (hst : (assignEach es X.env).findIdx? (·.1) = none := by rfl) : PG X (.Tuple es k pos) (gTup X.K n t) := by
 intro pins s σ H v u Q I r hw
 obtain ⟨a, xs, e1, hq, hl, hw⟩ := hw
 subst e1
 cases r
 obtain ⟨its, rv, ht, hz⟩ := I.tuple hq
 refine assign_Tuple_tuple (I.ok.hd hc) ht (by simp [hn, <- hl, rv.length]) hst fun h' hx => ?_
 have I1 : Inv X pins σ H { s with heap := h' } := I.kept (t' := s.toks) fun b o e => hx b o (Nat.ne_of_lt (Heap.lt_size e)) e
 exact h pins _ σ H xs _ Q I1 (by simpa using rv) hw
def gSub (to ti : TE) (t : TSet) : TG := fun v σ H Q => to σ H fun o H1 => ti σ H1 fun i H2 => t o i v H2 fun H3 => Q σ H3
theorem pg_sub {o i : Expr} {to ti : TE} {t : TSet} (ho : PE X o to) (hi : PE X i ti) (hs : PSet X t)
  (ha : ∀ v, assign (.Subscript o i pos) X.env v = (do
   let ov <- holding [v] (eval o X.env)
   let iv <- holding [v, ov] (eval i X.env)
   standAt pos
   holding [v, ov, iv] (setItem ov iv v)
   release [v, ov, iv] []) := by intro _; rfl) : PG X (.Subscript o i pos) (gSub to ti t) := by
 intro pins s σ H v u Q I r h
 rw [ha]
 refine wpAny_bind (wpAny_holding (thn (ho pins s σ H _ I h) fun ov s1 ⟨x, H1, I1, r1, q1⟩ => ?_))
 refine wpAny_bind (wpAny_holding (thn (hi pins s1 σ H1 _ I1 q1) fun iv s2 ⟨y, H2, I2, r2, q2⟩ => ?_))
 refine wpAny_bind (wpAny_standAt (wpAny_bind (wpAny_holding (thn (hs pins s2 σ H2 x y v ov iv u _ I2 r1 r2 r q2) fun _ s3 ⟨H3, I3, q3⟩ => ?_))))
 exact wpAny_release ⟨σ, H3, I3, q3⟩
def tAsg (te : TE) (g : TG) : TS := fun D σ H => te σ H fun x H1 => g x σ H1 D.nx
theorem ps_asg {tg e : Expr} {te : TE} {g : TG} (he : PE X e te) (hg : PG X tg g) (hs : swapsWithSole [tg] e pos.line X.env = pure false := by rfl) (hw : swappedStores [tg] e X.env = pure none := by rfl)
  (h1 : (assignEach [tg] X.env).map (·.2) = [assign tg X.env] := by rfl) : PS X (.Assign [tg] e pos) (tAsg te g) := by
 intro pins s σ H D I h
 refine wpAny_Assign_stores (thn (he pins s σ H _ I h) fun v s1 ⟨x, H1, I1, r1, q1⟩ => ?_) hs hw
 rw [h1]
 exact thn (hg pins s1 σ H1 x v _ I1 r1 q1) fun _ s2 q => q
theorem ps_set {i : Nat} {x : Str} {e : Expr} {te : TE} {pos' : Pos} (hN : X.N.Nodup) (hi : X.N[i]? = some x) (hx : Loc X.env.scope x) (he : PE X e te) (hs : swapsWith e (some (.Name x pos')) pos.line X.env = pure false := by rfl) (hf : X.fn x = true \/ X.env.scope.names.lookup x = some .local := by first | exact .inl rfl | exact .inr rfl | assumption) :
  PS X (.Assign [.Name x pos'] e pos) (tAsg te (gName i)) := by
 intro pins s σ H D I h
 refine wpAny_Assign_Name (thn (he pins s σ H _ I h) fun v s1 ⟨y, H1, I1, r1, q1⟩ => ?_) hs
 exact store_ok I1 hN hi hx r1 (fun s2 I2 => ⟨_, H1, I2, q1⟩) hf
end
section
variable {X : Cx} {pos : Pos}
end
structure It where
 go : Nat -> Hp -> Prop
 yld : Nat -> Hp -> V -> Hp -> Prop
 stop : Nat -> Hp -> Prop
def FpOk (X : Cx) (pins : List (Addr × Obj)) (H : Hp) (b : Addr) : Prop :=
 H b = none /\ b ≠ X.env.locals /\ b ∉ X.fs /\ (b ∈ X.ex \/ X.s₀.heap.objs.size <= b) /\ (∀ x c, X.env.cells.lookup x = some c -> c ≠ b) /\ ∀ p ∈ X.pn ++ pins, p.1 ≠ b
theorem Inv.fpOk {X : Cx} {pins : List (Addr × Obj)} {σ : St} {H H' : Hp} {s : Shared} {b : Addr} (I : Inv X pins σ H s) (hb : s.heap.objs.size <= b) (hn : H' b = none) : FpOk X pins H' b := by
 refine ⟨hn, Nat.ne_of_gt (Nat.lt_of_lt_of_le I.lt hb), I.nofs hb, .inr (Nat.le_trans I.sz hb), fun x c e z => ?_, fun p hp z => ?_⟩
 ·obtain ⟨v, q⟩ := I.cell x c e
  exact absurd (Nat.lt_of_lt_of_le q.lt (by rw [z]; exact hb)) (Nat.lt_irrefl _)
 ·exact absurd (Nat.lt_of_lt_of_le (Heap.lt_size (I.pin p hp).1) (by rw [z]; exact hb)) (Nat.lt_irrefl _)
structure Turn (P : Program) (w : World) (K : PySem.W.Frag) (tg : Expr) (J : It) (fp : List Addr) (it : Addr) (tn : Nat -> Heap -> Prop) : Prop where
 mem : it ∈ fp
 obj : ∀ i h, tn i h -> ∀ b ∈ fp, ∃ o, h.get? b = some o /\ ∀ v, o.data ≠ .cell v
 keep : ∀ i h h', tn i h -> (∀ b ∈ fp, ∀ o, h.get? b = some o -> h'.get? b = some o) -> tn i h'
 item : ∀ (X : Cx), X.prog = P -> X.w = w -> X.K = K -> X.calm = true -> ∀ (i : Nat) (pins : List (Addr × Obj)) (s : Shared) (σ : St) (H : Hp) (E : Value -> Shared -> Prop), Inv X pins σ H s -> (∀ b ∈ fp, FpOk X pins H b) -> tn i s.heap -> J.go i H ->
  wpAny (model P w) X.A (pyNext (.ref it)) (fun r s1 => ∃ u, r = some u /\
   wpAny (model P w) X.A (letOwnedTupleGo tg (.ref it) u) (fun _ s2 => ∃ x H', Inv X pins σ H' s2 /\ RelV x u /\ J.yld i H x H' /\ tn (i + 1) s2.heap /\ ∀ b ∈ fp, H' b = none) E s1) E s
 done : ∀ (X : Cx), X.prog = P -> X.w = w -> X.K = K -> X.calm = true -> ∀ (i : Nat) (pins : List (Addr × Obj)) (s : Shared) (σ : St) (H : Hp) (E : Value -> Shared -> Prop), Inv X pins σ H s -> (∀ b ∈ fp, FpOk X pins H b) -> tn i s.heap -> J.stop i H ->
  wpAny (model P w) X.A (pyNext (.ref it)) (fun r s1 => r = none /\ Inv X pins σ H s1) E s
 self : ∀ (A : Around) (i : Nat) (s : Shared) (Q : Value -> Shared -> Prop) (E : Value -> Shared -> Prop), tn i s.heap -> Q (.ref it) s -> wpAny (model P w) A (pyIter (.ref it)) Q E s
abbrev TI := St -> Hp -> (It -> Hp -> Prop) -> Prop
def PIE (X : Cx) (pins : List (Addr × Obj)) (σ : St) (tg : Expr) (R : It -> Hp -> Prop) (itv : Value) (s2 : Shared) : Prop :=
 ∃ (it : Addr) (fp : List Addr) (tn : Nat -> Heap -> Prop) (J : It) (H' : Hp), itv = .ref it /\ Inv X pins σ H' s2 /\ Turn X.prog X.w X.K tg J fp it tn /\ tn 0 s2.heap /\ (∀ b ∈ fp, FpOk X pins H' b) /\ R J H'
def PI (X : Cx) (tg iter : Expr) (wi : TI) : Prop :=
 ∀ (pins : List (Addr × Obj)) (s : Shared) (σ : St) (H : Hp) (R : It -> Hp -> Prop), Inv X pins σ H s -> wi σ H R ->
  wpAny (model X.prog X.w) X.A (eval iter X.env) (fun v s1 => wpAny (model X.prog X.w) X.A (pyIter v) (PIE X pins σ tg R) X.xe s1) X.xe s
theorem go_of {M : Model} {A : Around} {E : Value -> Shared -> Prop} {s : Shared} {tg : Expr} {it : Addr} {u : Value} {o : Obj} {n : String} {vs : Array Value} {Q : Unit -> Shared -> Prop} (ho : s.heap.get? it = some o) (hc : o.cls = .type n) (hd : o.data = .fields vs)
  (hn : ["enumerate", "zip", "dict_itemiterator", "dict_reverseitemiterator", "odict_iterator", "itertools.zip_longest", "itertools.pairwise"].contains n = false) (hQ : Q () s) : wpAny M A (letOwnedTupleGo tg (.ref it) u) Q E s := by
 unfold letOwnedTupleGo
 cases tg <;> first
  | exact wpAny_pure hQ
  | (cases u <;> first
    | exact wpAny_pure hQ
    | (refine wpAny_bind (wpAny_load ho ?_)
       rw [hc, hd]
       show wpAny M A (if (["enumerate", "zip", "dict_itemiterator", "dict_reverseitemiterator", "odict_iterator", "itertools.zip_longest", "itertools.pairwise"].contains n && vs[0]? == some (rawInt _)) = true then _ else _) Q E s
       rw [if_neg (by intro h; rw [hn, Bool.false_and] at h; cases h)]
       exact wpAny_pure hQ))
def Itl (K : PySem.W.Frag) (a : Addr) : It :=
 ⟨fun i H => ∃ xs x, SqL K H a xs /\ xs[i]? = some x, fun i H x H' => H' = H /\ ∀ xs, SqL K H a xs -> xs[i]? = some x, fun i H => ∃ xs, SqL K H a xs /\ xs.length <= i⟩
def Itt (K : PySem.W.Frag) (a : Addr) : It :=
 ⟨fun i H => ∃ xs x, SqT K H a xs /\ xs[i]? = some x, fun i H x H' => H' = H /\ ∀ xs, SqT K H a xs -> xs[i]? = some x, fun i H => ∃ xs, SqT K H a xs /\ xs.length <= i⟩
def Itr (lo : Int) (n : Nat) : It := ⟨fun i _ => i < n, fun i H x H' => H' = H /\ x = .int (lo + i), fun i _ => n <= i⟩
theorem turn_list {P : Program} {w : World} {K : PySem.W.Frag} {tg : Expr} (a it : Addr) : Turn P w K tg (Itl K a) [it] it (fun i h => h.IsListIter it a i) where
 mem := by simp
 obj := fun i h st b hb => by
  have e : b = it := by simpa using hb
  subst e
  obtain ⟨o, e, c, d⟩ := st
  exact ⟨o, e, fun v z => by rw [d] at z; cases z⟩
 keep := fun i h h' st k => st.at fun o e => k it (by simp) o e
 item := by
  intro X hP hw hK hc i pins s σ H E I hf st hg
  subst hP hw hK
  obtain ⟨xs, x, hq, hx⟩ := hg
  obtain ⟨its, rv, p, hz⟩ := I.list hq
  obtain ⟨u, hu, ru⟩ := rv.get hx
  obtain ⟨f0, f1, f2, f3, f4, f5⟩ := hf it (by simp)
  refine wpAny_pyNext_list_item st p.isList (x := u) (by simpa using hu) fun h' st' sb => ?_
  have I1 : Inv X pins σ H { s with heap := h' } := I.turned (t' := s.toks) (fun b o hb e => (sb.2 b hb).trans e) f0 f1 f3 f4 f5
  obtain ⟨o, e, c, d⟩ := id st'
  exact ⟨u, rfl, go_of (s := { s with heap := h' }) e c d (by decide) ⟨x, H, I1, ru, ⟨rfl, fun ys hy => by rw [I.list_inj hy hq]; exact hx⟩, st', fun b hb => (hf b hb).1⟩⟩
 done := by
  intro X hP hw hK hc i pins s σ H E I hf st hg
  subst hP hw hK
  obtain ⟨xs, hq, hx⟩ := hg
  obtain ⟨its, rv, p, hz⟩ := I.list hq
  obtain ⟨f0, f1, f2, f3, f4, f5⟩ := hf it (by simp)
  have hl := rv.length
  exact wpAny_pyNext_list_end (I.ok.hd hc) st p.isList (by simp; omega) fun h' eb => ⟨rfl, I.turned (t' := s.toks) (fun b o hb e => eb b o hb e) f0 f1 f3 f4 f5⟩
 self := fun _ _ _ _ _ st h => wpAny_pyIter_listiter st h
theorem turn_tuple {P : Program} {w : World} {K : PySem.W.Frag} {tg : Expr} (a it : Addr) : Turn P w K tg (Itt K a) [it] it (fun i h => h.IsTupleIter it a i) where
 mem := by simp
 obj := fun i h st b hb => by
  have e : b = it := by simpa using hb
  subst e
  obtain ⟨o, e, c, d⟩ := st
  exact ⟨o, e, fun v z => by rw [d] at z; cases z⟩
 keep := fun i h h' st k => st.at fun o e => k it (by simp) o e
 item := by
  intro X hP hw hK hc i pins s σ H E I hf st hg
  subst hP hw hK
  obtain ⟨xs, x, hq, hx⟩ := hg
  obtain ⟨its, rv, p, hz⟩ := I.tuple hq
  obtain ⟨u, hu, ru⟩ := rv.get hx
  obtain ⟨f0, f1, f2, f3, f4, f5⟩ := hf it (by simp)
  refine wpAny_pyNext_tuple_item st (show s.heap.IsTuple a its.toArray from p) (x := u) (by simpa using hu) fun h' st' sb => ?_
  have I1 : Inv X pins σ H { s with heap := h' } := I.turned (t' := s.toks) (fun b o hb e => (sb.2 b hb).trans e) f0 f1 f3 f4 f5
  obtain ⟨o, e, c, d⟩ := id st'
  exact ⟨u, rfl, go_of (s := { s with heap := h' }) e c d (by decide) ⟨x, H, I1, ru, ⟨rfl, fun ys hy => by rw [I.tuple_inj hy hq]; exact hx⟩, st', fun b hb => (hf b hb).1⟩⟩
 done := by
  intro X hP hw hK hc i pins s σ H E I hf st hg
  subst hP hw hK
  obtain ⟨xs, hq, hx⟩ := hg
  obtain ⟨its, rv, p, hz⟩ := I.tuple hq
  obtain ⟨f0, f1, f2, f3, f4, f5⟩ := hf it (by simp)
  have hl := rv.length
  exact wpAny_pyNext_tuple_end (I.ok.hd hc) st (show s.heap.IsTuple a its.toArray from p) (by simp; omega) fun h' eb => ⟨rfl, I.turned (t' := s.toks) (fun b o hb e => eb b o hb e) f0 f1 f3 f4 f5⟩
 self := fun _ _ _ _ _ st h => wpAny_pyIter_tupleiter st h
theorem turn_range {P : Program} {w : World} {K : PySem.W.Frag} {tg : Expr} (it : Addr) (lo : Int) (n : Nat) : Turn P w K tg (Itr lo n) [it] it (fun i h => IsRangeIter h it (lo + (i : Nat) * 1) ((n : Int) - (i : Nat)) 1) where
 mem := by simp
 obj := fun i h st b hb => by
  have e : b = it := by simpa using hb
  subst e
  exact ⟨_, st, fun v z => by
   have z' : Data.fields _ = Data.cell v := z
   cases z'⟩
 keep := fun i h h' st k => k it (by simp) _ st
 item := by
  intro X hP hw hK hc i pins s σ H E I hf st hg
  subst hP hw hK
  obtain ⟨f0, f1, f2, f3, f4, f5⟩ := hf it (by simp)
  have W := Walks.range (prog := X.prog) (w := X.w) (I.ok.hd hc) it lo 1 n
  refine W.item i s _ _ hg st fun v h' tk hv st' kk => ?_
  obtain ⟨t, rfl⟩ := hv
  have I1 : Inv X pins σ H { s with heap := h', toks := tk } := I.turned (fun b o hb e => kk b o (by simpa using hb) e) f0 f1 f3 f4 f5
  refine ⟨_, rfl, go_of (s := { s with heap := h', toks := tk }) (n := "range_iterator") st' rfl rfl (by decide) ⟨.int (lo + i), H, I1, ⟨t, ?_⟩, ⟨rfl, rfl⟩, st', fun b hb => (hf b hb).1⟩⟩
  rw [Int.mul_one]
 done := by
  intro X hP hw hK hc i pins s σ H E I hf st hg
  subst hP hw hK
  obtain ⟨f0, f1, f2, f3, f4, f5⟩ := hf it (by simp)
  exact wpAny_pyNext_range_end (I.ok.hd hc) st (by have : n <= i := hg; omega) fun h' eb => ⟨rfl, I.turned (t' := s.toks) (fun b o hb e => eb b o hb e) f0 f1 f3 f4 f5⟩
 self := fun _ _ _ _ _ st h => wpAny_pyIter_rangeiter st h
end L2
namespace L2
open PySem PySem.Spec PyProof.Rows
section
variable {X : Cx} {tg : Expr}
theorem range_it {pins : List (Addr × Obj)} {σ : St} {H : Hp} {s : Shared} {R : It -> Hp -> Prop} {E : Value -> Shared -> Prop} {lo hi : Int} {t u v : Tok} {tk : Nat} (I : Inv X pins σ H s) (h1 : -(2 ^ 62) <= lo) (h2 : lo < 2 ^ 62) (h3 : -(2 ^ 62) <= hi) (h4 : hi < 2 ^ 62)
  (q : R (Itr lo (hi - lo).toNat) H) : wpAny (model X.prog X.w) X.A (pyIter (.ref s.heap.objs.size)) (PIE X pins σ tg R) E { s with heap := s.heap.push { cls := .type "range", data := .fields #[.int lo t, .int hi u, .int 1 v] }, toks := tk } := by
 refine wpAny_pyIter_range (IsRange.new ..) (small_one h1 h2 h3 h4) ?_
 have I1 : Inv X pins σ H { s with heap := s.heap.push { cls := .type "range", data := .fields #[.int lo t, .int hi u, .int 1 v] }, toks := tk } := I.kept fun b o e => Heap.get?_push_of_some _ e
 refine ⟨(s.heap.push { cls := .type "range", data := .fields #[.int lo t, .int hi u, .int 1 v] }).objs.size, [(s.heap.push { cls := .type "range", data := .fields #[.int lo t, .int hi u, .int 1 v] }).objs.size], _, _, H, rfl,
  I1.kept (t' := tk) fun b o e => Heap.get?_push_of_some _ e, turn_range _ lo (hi - lo).toNat, ?_, fun b hb => ?_, q⟩
 ·have e1 : lo + ((0 : Nat) : Int) * 1 = lo := by simp
  have e2 : (((hi - lo).toNat : Nat) : Int) - ((0 : Nat) : Int) = Builtin.Range.rangeSize lo hi 1 := by rw [rangeSize_one]; split <;> omega
  show IsRangeIter _ _ (lo + ((0 : Nat) : Int) * 1) ((((hi - lo).toNat : Nat) : Int) - ((0 : Nat) : Int)) 1
  rw [e1, e2]
  exact Heap.get?_push_size _ rfl
 ·have e : b = (s.heap.push { cls := .type "range", data := .fields #[.int lo t, .int hi u, .int 1 v] }).objs.size := by simpa using hb
  subst e
  exact I1.fpOk (Nat.le_refl _) (I1.hok.fresh (Nat.le_refl _))
def iRng1 (ta : TA) : TI := fun σ H R => ta σ H fun vs H1 => ∃ j : Int, vs = [.int j] /\ -(2 ^ 62) <= j /\ j < 2 ^ 62 /\ R (Itr 0 j.toNat) H1
theorem pi_range1 {a : Expr} {ta : TA} {p pos : Pos} (hg : Gl X "range") (hm : X.mg "range" = none) (ha : PA X [a] ta) (hs : starEach [a] X.env = [(false, eval a X.env)] := by rfl) : PI X tg (.Call (.Name "range" p) [a] [] pos) (iRng1 ta) := by
 intro pins s σ H R I h
 refine Call_ (ld_blt I hg hm boot_range (PyProof.Rows.callWith_type1 (thn (ha pos pins s σ H _ I h) fun us s1 ⟨vs, H1, I1, r1, q1⟩ => ?_) hs rfl))
 obtain ⟨j, e, q1, q2, q⟩ := q1
 subst e
 cases r1 with
 | cons r rr =>
  cases rr
  obtain ⟨t, rfl⟩ := r
  exact call_range_1 (range_it I1 (by omega) (by omega) q1 q2 (by simpa using q))
def tFor (wi : TI) (g : TG) (tb : TS) : TS := fun D σ H => wi σ H fun J H1 => ∃ W : Nat -> Nat -> St -> Hp -> Prop, (∃ m, W 0 m σ H1) /\ ∀ i m σ H, W i m σ H ->
 (J.stop i H /\ D.nx σ H) \/ (J.go i H /\ ∃ N : St -> Hp -> Prop, (∀ σ' H', N σ' H' -> ∃ m', m' < m /\ W (i + 1) m' σ' H') /\ ∀ x H', J.yld i H x H' -> g x σ H' fun σ2 H2 => tb { D with nx := N, ct := N, bk := D.nx } σ2 H2)
def pinsAt (fp : List Addr) (h : Heap) : List (Addr × Obj) := fp.filterMap fun b => (h.get? b).map fun o => (b, o)
theorem mem_pinsAt {fp : List Addr} {h : Heap} {b : Addr} {o : Obj} (hb : b ∈ fp) (e : h.get? b = some o) : (b, o) ∈ pinsAt fp h := List.mem_filterMap.mpr ⟨b, hb, by rw [e]; rfl⟩
theorem of_pinsAt {fp : List Addr} {h : Heap} {p : Addr × Obj} (hp : p ∈ pinsAt fp h) : p.1 ∈ fp /\ h.get? p.1 = some p.2 := by
 obtain ⟨b, hb, e⟩ := List.mem_filterMap.mp hp
 cases q : h.get? b with
 | none => rw [q] at e; cases e
 | some o =>
  rw [q] at e
  have e' : (b, o) = p := Option.some.inj e
  subst e'
  exact ⟨hb, q⟩
theorem Inv.pinned {pins : List (Addr × Obj)} {σ : St} {H : Hp} {s : Shared} {fp : List Addr} (I : Inv X pins σ H s) (hf : ∀ b ∈ fp, FpOk X pins H b) (ho : ∀ b ∈ fp, ∃ o, s.heap.get? b = some o /\ ∀ v, o.data ≠ .cell v) : Inv X (pins ++ pinsAt fp s.heap) σ H s :=
 I.pins_of fun p hp => (List.mem_append.mp hp).elim (fun z => I.pin p (List.mem_append_right _ z)) fun z => by
  obtain ⟨hb, e⟩ := of_pinsAt z
  obtain ⟨f0, f1, f2, _⟩ := hf p.1 hb
  obtain ⟨o, e', d⟩ := ho p.1 hb
  rw [e] at e'; cases e'
  exact ⟨e, f0, f1, f2, d⟩
theorem Inv.unpinned {pins pl : List (Addr × Obj)} {σ : St} {H : Hp} {s : Shared} (I : Inv X (pins ++ pl) σ H s) : Inv X pins σ H s := I.pins_of fun p hp => I.pin p (List.mem_append_right _ (List.mem_append_left _ hp))
theorem ps_for {iter : Expr} {body : List Stmt} {wi : TI} {g : TG} {tb : TS} {pos : Pos} (hp : PassesOwn (model X.prog X.w) X.A X.env X.xe) (hc : X.calm = true) (hi : PI X tg iter wi) (hg : PG X tg g) (hb : PSs X body tb)
  (hs : ∀ x, foldedSetIterable iter X.env x = pure x := by intro _; rfl) : PS X (.For tg iter body [] pos) (tFor wi g tb) := by
 intro pins s σ H D I h
 refine wpAny_For (thn (hi pins s σ H _ I h) fun v s1 h1 => thn h1 fun itv s2 h2 => ?_) hs
 obtain ⟨it, fp, tn, J, H2, e, I2, T, st2, f2, W, ⟨m0, w0⟩, turn⟩ := h2
 subst e
 have stat : ∀ {H' : Hp}, (∀ b ∈ fp, H' b = none) -> ∀ b ∈ fp, FpOk X pins H' b := fun hn b hb => ⟨hn b hb, (f2 b hb).2⟩
 refine codeAny_forLoop_any (fun n s' => ∃ i σ' H', Inv X pins σ' H' s' /\ tn i s'.heap /\ (∀ b ∈ fp, H' b = none) /\ W i n σ' H') ?_ m0 ⟨0, σ, H2, I2, st2, fun b hb => (f2 b hb).1, w0⟩
 rintro n s3 ⟨i, σ3, H3, I3, st3, fr3, w3⟩
 rcases turn i n σ3 H3 w3 with ⟨stop, qn⟩ | ⟨go, N, hN, step⟩
 ·refine wpAny_passesOwn hp (thn (T.done X rfl rfl rfl hc i pins s3 σ3 H3 X.xe I3 (stat fr3) st3 stop) fun r s4 ⟨hr, I4⟩ => ?_)
  subst hr
  exact wpAny_execs_nil ⟨σ3, H3, I4, qn⟩
 ·refine wpAny_passesOwn hp (thn (T.item X rfl rfl rfl hc i pins s3 σ3 H3 X.xe I3 (stat fr3) st3 go) fun r s4 ⟨u, hr, h4⟩ => ?_)
  subst hr
  refine wpAny_passesOwn hp (thn h4 fun _ s5 ⟨x, H5, I5, r5, y5, st5, fr5⟩ => ?_)
  have I5' := I5.pinned (stat fr5) (T.obj _ _ st5)
  refine wpAny_passesOwn hp (thn (hg _ s5 σ3 H5 x u _ I5' r5 (step x H5 y5)) fun _ s6 ⟨σ6, H6, I6, q6⟩ => ?_)
  refine wpAny_passesOwn hp (thn (hb _ s6 σ6 H6 _ I6 q6) fun f s7 q7 => ?_)
  have again : ∀ {σ7 : St} {H7 : Hp}, Inv X (pins ++ pinsAt fp s5.heap) σ7 H7 s7 -> N σ7 H7 -> ∃ m, m < n /\ ∃ i σ' H', Inv X pins σ' H' s7 /\ tn i s7.heap /\ (∀ b ∈ fp, H' b = none) /\ W i m σ' H' := fun {σ7 H7} I7 n7 => by
   obtain ⟨m', hm, w7⟩ := hN σ7 H7 n7
   refine ⟨m', hm, i + 1, σ7, H7, I7.unpinned, T.keep _ _ _ st5 fun b hb o e => (I7.pin (b, o) (List.mem_append_right _ (List.mem_append_right _ (mem_pinsAt hb e)))).1, fun b hb => ?_, w7⟩
   obtain ⟨o, e, d⟩ := T.obj _ _ st5 b hb
   exact (I7.pin (b, o) (List.mem_append_right _ (List.mem_append_right _ (mem_pinsAt hb e)))).2.1
  cases f with
  | next => obtain ⟨σ7, H7, I7, n7⟩ := q7; exact again I7 n7
  | cont => obtain ⟨σ7, H7, I7, n7⟩ := q7; exact again I7 n7
  | brk => obtain ⟨σ7, H7, I7, q7⟩ := q7; exact ⟨σ7, H7, I7.unpinned, q7⟩
  | ret v => obtain ⟨x7, σ7, H7, I7, r7, q7⟩ := q7; exact ⟨x7, σ7, H7, I7.unpinned, r7, q7⟩
end
end L2
namespace L2
open PySem PySem.Spec PyProof.Rows
abbrev R2 := V -> V -> Hp -> VK -> Prop
def OpR (X : Cx) (f : Value -> Value -> Sem Value) (r : R2) : Prop :=
 ∀ (pins : List (Addr × Obj)) (s : Shared) (σ : St) (H : Hp) (x y : V) (v u : Value) (Q : VK), Inv X pins σ H s -> RelV x v -> RelV y u -> r x y H Q ->
  wpAny (model X.prog X.w) X.A (f v u) (EP X pins σ Q) X.xe s
def CallR (X : Cx) (f : Value) (r : List V -> Hp -> VK -> Prop) : Prop :=
 ∀ (pins : List (Addr × Obj)) (s : Shared) (σ : St) (H : Hp) (xs : List V) (us : List Value) (Q : VK), Inv X pins σ H s -> Vals xs us -> r xs H Q ->
  wpAny (model X.prog X.w) X.A (call f us) (EP X pins σ Q) X.xe s
def tOp (r : R2) (ta tb : TE) : TE := fun σ H Q => ta σ H fun x H1 => tb σ H1 fun y H2 => r x y H2 Q
def rI (C : Int -> Int -> Prop) (g : Int -> Int -> V) : R2 := fun x y H Q => ∃ i j, x = .int i /\ y = .int j /\ C i j /\ Q (g i j) H
def rI0 (g : Int -> Int -> V) : R2 := fun x y H Q => ∃ i j, x = .int i /\ y = .int j /\ Q (g i j) H
section
variable {X : Cx} {a b c : Expr} {ta tb tc : TE} {pos : Pos}
theorem binT (ha : PE X a ta) (hb : PE X b tb) {pins : List (Addr × Obj)} {s : Shared} {σ : St} {H : Hp} {R : V -> V -> Hp -> Prop} (I : Inv X pins σ H s)
  (h : ta σ H fun x H1 => tb σ H1 fun y H2 => R x y H2) {Q : Value -> Shared -> Prop} {f : Value -> Value -> Sem Value}
  (hf : ∀ v u s2 x y H2, Inv X pins σ H2 s2 -> RelV x v -> RelV y u -> R x y H2 -> wpAny (model X.prog X.w) X.A (f v u) Q X.xe s2) :
  wpAny (model X.prog X.w) X.A (eval a X.env) (fun v s₁ => wpAny (model X.prog X.w) X.A (eval b X.env) (fun u s₂ => wpAny (model X.prog X.w) X.A (f v u) Q X.xe s₂) X.xe s₁) X.xe s := by
 refine thn (ha pins s σ H _ I h) fun v s1 ⟨x, H1, I1, r1, q1⟩ => ?_
 refine thn (hb pins s1 σ H1 _ I1 q1) fun u s2 ⟨y, H2, I2, r2, q2⟩ => ?_
 exact hf v u s2 x y H2 I2 r1 r2 q2
theorem pe_op {op : Operator} {r : R2} (ho : OpR X (binaryOp op) r) (ha : PE X a ta) (hb : PE X b tb) : PE X (.BinOp a op b pos) (tOp r ta tb) := by
 intro pins s σ H Q I h
 exact wpAny_BinOp (binT ha hb I h fun v u s2 x y H2 I2 rx ry q => ho pins s2 σ H2 x y v u Q I2 rx ry q)
theorem opI {f : Value -> Value -> Sem Value} {C : Int -> Int -> Prop} {g : Int -> Int -> Int}
  (rule : ∀ (i j : Int) (t u : Tok) (s : Shared) (Q : Value -> Shared -> Prop) (E : Value -> Shared -> Prop), C i j -> Q (.int (g i j) s.toks) { s with toks := s.toks + 1 } -> wpAny (model X.prog X.w) X.A (f (.int i t) (.int j u)) Q E s) :
  OpR X f (rI C fun i j => .int (g i j)) := by
 intro pins s σ H x y v u Q I rx ry h
 obtain ⟨i, j, rfl, rfl, hc, q⟩ := h
 obtain ⟨t, rfl⟩ := rx
 obtain ⟨t', rfl⟩ := ry
 exact rule i j t t' s _ _ hc ⟨.int (g i j), H, I.tok _, ⟨_, rfl⟩, q⟩
theorem opI0 {f : Value -> Value -> Sem Value} {g : Int -> Int -> Int}
  (rule : ∀ (i j : Int) (t u : Tok) (s : Shared) (Q : Value -> Shared -> Prop) (E : Value -> Shared -> Prop), Q (.int (g i j) s.toks) { s with toks := s.toks + 1 } -> wpAny (model X.prog X.w) X.A (f (.int i t) (.int j u)) Q E s) :
  OpR X f (rI0 fun i j => .int (g i j)) := by
 intro pins s σ H x y v u Q I rx ry h
 obtain ⟨i, j, rfl, rfl, q⟩ := h
 obtain ⟨t, rfl⟩ := rx
 obtain ⟨t', rfl⟩ := ry
 exact rule i j t t' s _ _ ⟨.int (g i j), H, I.tok _, ⟨_, rfl⟩, q⟩
theorem opB0 {f : Value -> Value -> Sem Value} {g : Int -> Int -> Bool}
  (rule : ∀ (i j : Int) (t u : Tok) (s : Shared) (Q : Value -> Shared -> Prop) (E : Value -> Shared -> Prop), Q (.bool (g i j)) s -> wpAny (model X.prog X.w) X.A (f (.int i t) (.int j u)) Q E s) :
  OpR X f (rI0 fun i j => .bl (g i j)) := by
 intro pins s σ H x y v u Q I rx ry h
 obtain ⟨i, j, rfl, rfl, q⟩ := h
 obtain ⟨t, rfl⟩ := rx
 obtain ⟨t', rfl⟩ := ry
 exact rule i j t t' s _ _ ⟨.bl (g i j), H, I, rfl, q⟩
def CDiv (i j : Int) : Prop := 0 < j /\ j < 1073741824
def CPow (i j : Int) : Prop := 0 <= j /\ j <= 1000000 /\ i.natAbs < 2 ^ 64
def CMul (i j : Int) : Prop := (-(2 ^ 64) < i /\ i < 2 ^ 64) \/ (-(2 ^ 64) < j /\ j < 2 ^ 64)
theorem CMul.ok {i j : Int} (h : CMul i j) : IntMulOk i j := by
 rcases h with ⟨h1, h2⟩ | ⟨h1, h2⟩
 ·exact .of_left (intBits_le_64 h1 h2)
 ·exact .of_right (intBits_le_64 h1 h2)
theorem two_pow_nn (k : Nat) : (0 : Int) <= 2 ^ k := by
 rw [two_pow_cast]
 exact Int.natCast_nonneg _
theorem op_add : OpR X (binaryOp .Add) (rI0 fun i j => .int (i + j)) := opI0 fun _ _ _ _ _ _ _ q => add_int q
theorem op_mul : OpR X (binaryOp .Mult) (rI CMul fun i j => .int (i * j)) := opI fun _ _ _ _ _ _ _ hc q => mul_int q hc.ok
theorem op_fdiv : OpR X (binaryOp .FloorDiv) (rI CDiv fun i j => .int (i / j)) := opI fun i j _ _ _ _ _ hc q => by
 have h1 : (0 : Int) < j := hc.1
 have h2 : j < 1073741824 := hc.2
 exact floordiv_int (by omega) (by rw [Int.fdiv_eq_ediv_of_nonneg i (by omega)]; exact q) (.inl (PyProof.noPylong_small (by omega)))
theorem op_mod : OpR X (binaryOp .Mod) (rI (fun _ j => 0 < j) fun i j => .int (i % j)) := opI fun i j _ _ _ _ _ hc q => by
 have h1 : (0 : Int) < j := hc
 exact mod_int' (by omega) (by rw [Int.fmod_eq_emod_of_nonneg i (by omega)]; exact q)
theorem op_pow : OpR X (binaryOp .Pow) (rI CPow fun i j => .int (i ^ j.toNat)) := opI fun _ _ _ _ _ _ _ hc q => pow_int_small hc.1 hc.2.1 hc.2.2 q
theorem op_shl : OpR X (binaryOp .LShift) (rI CPow fun i j => .int (i * 2 ^ j.toNat)) := opI fun _ _ _ _ _ _ _ hc q => lshift_int_small hc.1 hc.2.1 hc.2.2 q
theorem op_shr : OpR X (binaryOp .RShift) (rI (fun _ j => 0 <= j) fun i j => .int (i / 2 ^ j.toNat)) := opI fun i j _ _ _ _ _ hc q =>
 rshift_int hc (by rw [Int.fdiv_eq_ediv_of_nonneg i (two_pow_nn _)]; exact q)
theorem op_and : OpR X (binaryOp .BitAnd) (rI0 fun i j => .int (Builtin.bitAnd i j)) := opI0 fun _ _ _ _ _ _ _ q => and_int q
theorem op_or : OpR X (binaryOp .BitOr) (rI0 fun i j => .int (Builtin.bitOr i j)) := opI0 fun _ _ _ _ _ _ _ q => or_int q
end
section
variable {X : Cx} {a b c : Expr} {ta tb tc : TE} {pos : Pos}
theorem fin_bl {pins : List (Addr × Obj)} {σ : St} {H : Hp} {s : Shared} {Q : VK} {k k' : Bool} (I : Inv X pins σ H s) (q : Q (.bl k) H) (e : k = k') : EP X pins σ Q (.bool k') s := by
 subst e
 exact ⟨.bl k, H, I, rfl, q⟩
theorem op_lt : OpR X (compareOp .Lt) (rI0 fun i j => .bl (decide (i < j))) := opB0 fun _ _ _ _ _ _ _ q => lt_int q
theorem op_le : OpR X (compareOp .LtE) (rI0 fun i j => .bl (decide (i <= j))) := opB0 fun _ _ _ _ _ _ _ q => le_int q
theorem op_gt : OpR X (compareOp .Gt) (rI0 fun i j => .bl (decide (j < i))) := opB0 fun _ _ _ _ _ _ _ q => gt_int q
theorem op_ge : OpR X (compareOp .GtE) (rI0 fun i j => .bl (decide (j <= i))) := opB0 fun _ _ _ _ _ _ _ q => ge_int q
theorem op_in_str : OpR X (compareOp .In) (fun x y H Q => ∃ i j, x = .str i /\ y = .str j /\ Q (.bl (!(Builtin.Str.occurrences j i 0 j.length 1).isEmpty)) H) := by
 intro pins s σ H x y v u Q I rx ry h
 obtain ⟨i, j, rfl, rfl, q⟩ := h
 obtain ⟨t, rfl⟩ := rx
 obtain ⟨t', rfl⟩ := ry
 exact in_str (fin_bl I q rfl)
theorem OpR.or {f : Value -> Value -> Sem Value} {r r' : R2} (h : OpR X f r) (h' : OpR X f r') : OpR X f (fun x y H Q => r x y H Q \/ r' x y H Q) := by
 intro pins s σ H x y v u Q I rx ry q
 rcases q with q | q
 ·exact h pins s σ H x y v u Q I rx ry q
 ·exact h' pins s σ H x y v u Q I rx ry q
theorem nomark (b : Expr) {op : CmpOp} (h : op ≠ .In := by decide) (h2 : op ≠ .NotIn := by decide) : behindInMarks op b = false := by
 have e1 : (op == CmpOp.In) = false := by cases op <;> first | rfl | exact absurd rfl h
 have e2 : (op == CmpOp.NotIn) = false := by cases op <;> first | rfl | exact absurd rfl h2
 cases b <;> simp [behindInMarks, e1, e2]
theorem pe_cmpR {op : CmpOp} {r : R2} (ho : OpR X (compareOp op) r) (ha : PE X a ta) (hb : PE X b tb) (hm : behindInMarks op b = false) : PE X (.Compare a [op] [b] pos) (tOp r ta tb) := by
 intro pins s σ H Q I h
 exact wpAny_Compare1 (binT ha hb I h fun v u s2 x y H2 I2 rx ry q => ho pins s2 σ H2 x y v u Q I2 rx ry q) hm
def tTest (t : TE) : TT := fun σ H Q => t σ H fun x H' => ∃ k, x = .bl k /\ Q k H'
theorem pt_cmpR {op : CmpOp} {r : R2} (ho : OpR X (compareOp op) r) (ha : PE X a ta) (hb : PE X b tb) (hm : behindInMarks op b = false) : PT X (.Compare a [op] [b] pos) (tTest (tOp r ta tb)) := by
 intro pins s σ H Q I h
 refine wpAny_isTrue_Compare1 (thn (ha pins s σ H _ I h) fun v s1 ⟨x, H1, I1, r1, q1⟩ => thn (hb pins s1 σ H1 _ I1 q1) fun u s2 ⟨y, H2, I2, r2, q2⟩ =>
  thn (ho pins s2 σ H2 x y v u _ I2 r1 r2 q2) fun c s3 ⟨z, H3, I3, r3, k, e, q3⟩ => ?_) hm
 subst e
 cases r3
 exact wpAny_truthy_bool ⟨H3, I3, q3⟩
theorem line63 : (sizeLine : Nat) < 2 ^ 63 := by rw [sizeLine_eq]; decide
theorem op_add_str : OpR X (binaryOp .Add) (fun x y H Q => ∃ i j, x = .str i /\ y = .str j /\ i.length + j.length <= sizeLine /\ Q (.str (i ++ j)) H) := by
 intro pins s σ H x y v u Q I rx ry h
 obtain ⟨i, j, rfl, rfl, hz, q⟩ := h
 obtain ⟨t, rfl⟩ := rx
 obtain ⟨t', rfl⟩ := ry
 exact add_str (fun t' tk => ⟨.str (i ++ j), H, I.tok _, ⟨_, rfl⟩, q⟩) hz
theorem vals1 {x : V} {us : List Value} (r : Vals [x] us) : ∃ u, us = [u] /\ RelV x u := by
 cases r with
 | cons r1 r2 => cases r2; exact ⟨_, rfl, r1⟩
end
end L2
namespace L2
open PySem PySem.Spec PyProof.Rows
structure ObjM (h : Heap) (x dx C : Addr) (mA : Str -> Option Value) : Prop where
 obj : h.get? x = some (PySem.W.instObj C dx)
 ns : h.Ns1 dx mA
 ne : dx ≠ x
theorem lookIn_ns {h : Heap} {dx : Addr} {mA : Str -> Option Value} (n : h.Ns1 dx mA) : ∃ od, h.get? dx = some od /\ ∀ name, PySem.W.lookIn name od = some (mA name) := by
 obtain ⟨o, es, ep, ho, hd, hk, _, hm⟩ := n
 refine ⟨o, ho, fun name => ?_⟩
 have e := hm name
 unfold nsFind findBy at e
 rw [<- Array.find?_toList] at e
 unfold PySem.W.lookIn
 rw [hd]
 dsimp only
 split
 ·rename_i y q
  rw [q] at e
  exact congrArg some e
 ·rename_i q
  rw [q] at e
  have a : es.toList.any (·.refKey) = false := by
   rw [List.any_eq_false]
   intro y hy
   obtain ⟨z, t, hkey⟩ := hk y (Array.mem_toList_iff.mp hy)
   simp [DictEntry.refKey, hkey]
  have a' : ¬ es.toList.any (·.refKey) = true := by rw [a]; exact Bool.false_ne_true
  rw [if_neg a']
  exact congrArg some e
theorem ObjM.look {h : Heap} {x dx C : Addr} {mA : Str -> Option Value} (I : ObjM h x dx C mA) : ∃ od, PySem.W.InstAt h x (PySem.W.instObj C dx) C (some od) /\ ∀ name, PySem.W.lookIn name od = some (mA name) :=
 let ⟨od, ho, hl⟩ := lookIn_ns I.ns
 ⟨od, ⟨I.obj, rfl, rfl, ho⟩, hl⟩
section
variable {prog : Program} {w : World} {A : Around} {E : Value -> Shared -> Prop} {s : Shared} {K : PySem.W.Frag} {x dx C f : Addr} {mA : Str -> Option Value} {name : Str} {v : Value}
theorem get_map {expr : Bool} {Q : Value -> Shared -> Prop} (X : K.In s.heap) (I : ObjM s.heap x dx C mA) (hg : PySem.W.plainGet K C name = true) (hh : PySem.W.hasDictIn K C = true)
  (ha : PySem.W.findIn K (.ref C) name = some none) (hv : mA name = some v) (hv' : PySem.W.handedIn v = true) (h : Q v { s with toks := s.toks + 1 }) :
  wpAny (model prog w) A (getAttr (.ref x) name expr) Q E s := by
 obtain ⟨od, J, hl⟩ := I.look
 exact PySem.W.get_value X J (PySem.W.plainGet_of hg).1 (PySem.W.findObj_own hh ha rfl (by rw [hl, hv])) hv' h
theorem set_map {ns : List Str} {Q : Unit -> Shared -> Prop} (X : K.In s.heap) (I : ObjM s.heap x dx C mA)
  (hs : PySem.W.findIn K (.ref C) "__setattr__" = some (some (.builtin "object.__setattr__"))) (hp : PySem.W.plainOver K C = true) (ht : PySem.W.takerIn K C name = some none) (hh : PySem.W.hasDictIn K C = true)
  (hw : PySem.Within mA ns) (hsz : ns.length <= sizeLine)
  (h : ∀ h', ObjM h' x dx C (fun y => if y = name then some v else mA y) -> Heap.SameBut dx s.heap h' -> Q () { s with heap := h', toks := s.toks + 2 }) :
  wpAny (model prog w) A (setAttr (.ref x) name v) Q E s := by
 obtain ⟨od, J, hl⟩ := I.look
 refine PySem.W.set_plain X J hs (PySem.W.osa_open (s := { s with toks := s.toks + 1 }) (r := none) X J hp ht fun b => ?_)
 obtain ⟨cd, hc, hd'⟩ := PySem.W.any_some hh
 have hx : s.heap.get? x = some ⟨.ref C, some dx, .plain, #[]⟩ := I.obj
 refine wpAny_bind (wpAny_pure (wpAny_bind (wpAny_bind (wpAny_loadPart hx (wpAny_bind (PySem.W.Looks.here (s := { s with toks := s.toks + 1 }) (PySem.W.looks_clsIn X hc) ?_))))))
 rw [hd']
 refine wpAny_pure (a := some dx) (wpAny_bind (wpAny_pure (wpAny_bind ?_)))
 refine wpAny_nsSet1 (s := { s with toks := s.toks + 1 }) I.ns fun h' hn2 hs2 => ?_
 obtain ⟨oD, esD, epD, hoD, hdD, hcD⟩ := hn2.count (PySem.Within.cons name v hw)
 refine wpAny_bind (wpAny_lookBehind hoD (by rw [hdD]; exact pastItsLine_dict (Nat.le_trans hcD (by rw [List.length_cons]; omega))) ?_)
 exact wpAny_pure (h _ ⟨(hs2.2 _ (Ne.symm I.ne)).trans I.obj, hn2, I.ne⟩ hs2)
theorem make_map {R : Result -> Shared -> Prop} {vs : List Value} {kw : List (Str × Value)} (X : K.In s.heap) (hm : PySem.W.makesIn K C = true)
  (hi : PySem.W.findIn K (.ref C) "__init__" = some (some (.ref f))) (hf : PySem.W.typeIn K (.ref f) = some (.type "function"))
  (h : codeAny (model prog w) (A.under (.builtin "type.__call__" ⟨.ref C :: vs, kw⟩)) (.call (.ref f) ⟨.ref (s.heap.objs.size + 1) :: vs, kw⟩) (PySem.W.InitBack (s.heap.objs.size + 1) R)
   { s with heap := (s.heap.push PySem.W.emptyDict).push (PySem.W.instObj C s.heap.objs.size) }) :
  codeAny (model prog w) A (.call (.ref C) ⟨vs, kw⟩) R s := by
 obtain ⟨hh, g, d, t, os⟩ := s
 exact PySem.W.make_core (PySem.W.makes_of X hm) (PySem.W.looks_findIn X hi) (fun self => PySem.W.bind_fn X self hf) (.inl rfl) h
end
def putF (f : Str) (v : V) : List (Str × V) -> List (Str × V)
 | [] => [(f, v)]
 | (g, x) :: r => if g = f then (g, v) :: r else (g, x) :: putF f v r
theorem lookup_putF (f g : Str) (v : V) : ∀ fs : List (Str × V), (putF f v fs).lookup g = if g = f then some v else fs.lookup g
 | [] => by
  show List.lookup g [(f, v)] = _
  by_cases h : g = f
  ·have hb : (g == f) = true := beq_iff_eq.mpr h
   simp only [List.lookup, hb, if_pos h]
  ·have hb : (g == f) = false := beq_eq_false_iff_ne.mpr h
   simp only [List.lookup, hb, if_neg h]
 | (k, x) :: r => by
  have ih := lookup_putF f g v r
  rw [show putF f v ((k, x) :: r) = (if k = f then (k, v) :: r else (k, x) :: putF f v r) from rfl]
  by_cases hk : k = f
  ·rw [if_pos hk]
   by_cases h : g = k
   ·have hb : (g == k) = true := beq_iff_eq.mpr h
    simp only [List.lookup, hb, if_pos (h.trans hk)]
   ·have hb : (g == k) = false := beq_eq_false_iff_ne.mpr h
    simp only [List.lookup, hb, if_neg (fun e : g = f => h (e.trans hk.symm))]
  ·rw [if_neg hk]
   by_cases h : g = k
   ·have hb : (g == k) = true := beq_iff_eq.mpr h
    simp only [List.lookup, hb, if_neg (fun e : g = f => hk (h.symm.trans e))]
   ·have hb : (g == k) = false := beq_eq_false_iff_ne.mpr h
    simp only [List.lookup, hb]
    exact ih
theorem keys_putF (f : Str) (v : V) : ∀ fs : List (Str × V), f ∈ (putF f v fs).map (·.1) /\ ∀ g, g ∈ fs.map (·.1) -> g ∈ (putF f v fs).map (·.1)
 | [] => ⟨by simp [putF], fun g h => by simp at h⟩
 | (k, x) :: r => by
  obtain ⟨i1, i2⟩ := keys_putF f v r
  rw [show putF f v ((k, x) :: r) = (if k = f then (k, v) :: r else (k, x) :: putF f v r) from rfl]
  by_cases hk : k = f
  ·rw [if_pos hk]
   subst hk
   exact ⟨by simp, fun g h => by simpa using h⟩
  ·rw [if_neg hk]
   refine ⟨?_, fun g h => ?_⟩
   ·rw [List.map_cons]
    exact List.mem_cons_of_mem _ i1
   ·rw [List.map_cons] at h ⊢
    rcases List.mem_cons.mp h with e | e
    ·exact List.mem_cons.mpr (.inl e)
    ·exact List.mem_cons_of_mem _ (i2 g e)
theorem length_putF (f : Str) (v : V) : ∀ fs : List (Str × V), (putF f v fs).length <= fs.length + 1
 | [] => by simp [putF]
 | (k, x) :: r => by
  have ih := length_putF f v r
  rw [show putF f v ((k, x) :: r) = (if k = f then (k, v) :: r else (k, x) :: putF f v r) from rfl]
  by_cases hk : k = f
  ·rw [if_pos hk, List.length_cons, List.length_cons]; omega
  ·rw [if_neg hk, List.length_cons, List.length_cons]; omega
theorem RelO.some_of {v : V} {o : Option Value} (r : RelO (some v) o) : ∃ u, o = some u /\ RelV v u := by
 cases o with
 | none => exact (show False from r).elim
 | some u => exact ⟨u, rfl, r⟩
theorem handed_of {v : V} {u : Value} (r : RelV v u) : PySem.W.handedIn u = true := by
 cases v with
 | non => cases (show u = Value.none from r); rfl
 | bl b => cases (show u = Value.bool b from r); rfl
 | int i => obtain ⟨t, e⟩ := (show ∃ t, u = Value.int i t from r); cases e; rfl
 | str x => obtain ⟨t, e⟩ := (show ∃ t, u = Value.str x t from r); cases e; rfl
 | byt b => obtain ⟨t, e⟩ := (show ∃ t, u = Value.bytes b t from r); cases e; rfl
 | flt b => obtain ⟨t, e⟩ := (show ∃ t, u = Value.float b t from r); cases e; rfl
 | ref a => cases (show u = Value.ref a from r); rfl
 | ty n => cases (show u = Value.type n from r); rfl
section
variable {P : Program} {w : World} {H H' : Hp} {h h' : Heap} {a C dx : Addr} {fs fs' : List (Str × V)}
theorem ins_get (hok : HOk P w H h) (e : H a = some (.ins C dx fs)) : ∃ mA, ObjM h a dx C mA /\ (∀ f, RelO (fs.lookup f) (mA f)) /\ PySem.Within mA (fs.map (·.1)) /\ fs.length <= 1000 /\ H dx = some (.own a) := by
 obtain ⟨d, z, ne, ob, mA, n, r, q⟩ := (show ObjOk P w H h a (.ins C dx fs) from hok a _ e)
 exact ⟨mA, ⟨ob, n, ne⟩, r, q, z, d⟩
end
structure Cls (K : PySem.W.Frag) (C : Addr) : Prop where
 pg : PySem.W.plainGet K C Str.empty = true
 hd : PySem.W.hasDictIn K C = true
 po : PySem.W.plainOver K C = true
 sa : PySem.W.findIn K (.ref C) "__setattr__" = some (some (.builtin "object.__setattr__"))
theorem Cls.get {K : PySem.W.Frag} {C : Addr} (c : Cls K C) (f : Str) : PySem.W.plainGet K C f = true := c.pg
def NoAttr (K : PySem.W.Frag) (C : Addr) (f : Str) : Prop := PySem.W.findIn K (.ref C) f = some none
theorem NoAttr.taker {K : PySem.W.Frag} {C : Addr} {f : Str} (n : NoAttr K C f) : PySem.W.takerIn K C f = some none := by
 unfold PySem.W.takerIn
 rw [show PySem.W.findIn K (.ref C) f = some none from n]
 rfl
section
variable {X : Cx} {pins : List (Addr × Obj)} {σ : St} {H : Hp} {s : Shared} {a C dx : Addr} {fs : List (Str × V)} {f : Str} {v : V} {A : Around} {E : Value -> Shared -> Prop}
theorem getattr_ok {b : Bool} {Q : Value -> Shared -> Prop} (I : Inv X pins σ H s) (e : H a = some (.ins C dx fs)) (c : Cls X.K C) (n : NoAttr X.K C f) (l : fs.lookup f = some v)
  (h : ∀ u s', Inv X pins σ H s' -> RelV v u -> Q u s') : wpAny (model X.prog X.w) A (getAttr (.ref a) f b) Q E s := by
 obtain ⟨mA, O, r, _, _, _⟩ := ins_get I.hok e
 obtain ⟨u, hu, ru⟩ := RelO.some_of (v := v) (o := mA f) (by rw [<- l]; exact r f)
 exact get_map I.kIn O (c.get f) c.hd n hu (handed_of ru) (h u _ (I.tok _) ru)
theorem setattr_ok {y : V} {u : Value} {Q : Unit -> Shared -> Prop} (I : Inv X pins σ H s) (e : H a = some (.ins C dx fs)) (c : Cls X.K C) (n : NoAttr X.K C f) (hl : fs.length < 1000) (ry : RelV y u)
  (h : ∀ s', Inv X pins σ (upd H a (.ins C dx (putF f y fs))) s' -> Q () s') : wpAny (model X.prog X.w) A (setAttr (.ref a) f u) Q E s := by
 obtain ⟨mA, O, r, wi, _, ho⟩ := ins_get I.hok e
 have hz : (fs.map (·.1)).length <= sizeLine := by rw [List.length_map, sizeLine_eq]; omega
 refine set_map I.kIn O c.sa c.po n.taker c.hd wi hz fun h' O' sb => h _ ?_
 have hd : ∃ o, h'.get? dx = some o := let ⟨o, _, _, e', _⟩ := O'.ns; ⟨o, e'⟩
 refine I.write (x := a) (e := dx) (by rw [e]; exact True.intro) (.inr ho) (fun b q hb z => (sb.2 b hb).trans z) hd ?_
 refine ⟨by rw [upd_ne O.ne]; exact ho, ?_, O.ne, O'.obj, _, O'.ns, fun g => ?_, fun g hg => ?_⟩
 ·have := length_putF f y fs; omega
 ·show RelO ((putF f y fs).lookup g) (if g = f then some u else mA g)
  rw [lookup_putF]
  by_cases q : g = f
  ·rw [if_pos q, if_pos q]; exact ry
  ·rw [if_neg q, if_neg q]; exact r g
 ·by_cases q : g = f
  ·rw [q]; exact (keys_putF f y fs).1
  ·refine (keys_putF f y fs).2 g (wi g fun z => hg ?_)
   show (if g = f then some u else mA g) = none
   rw [if_neg q]; exact z
theorem Inv.made (I : Inv X pins σ H s) : Inv X pins σ (upd (upd H s.heap.objs.size (.own (s.heap.objs.size + 1))) (s.heap.objs.size + 1) (.ins C s.heap.objs.size []))
  { s with heap := (s.heap.push PySem.W.emptyDict).push (PySem.W.instObj C s.heap.objs.size) } := by
 have e1 : (s.heap.push PySem.W.emptyDict).get? s.heap.objs.size = some PySem.W.emptyDict := Heap.get?_push_size s.heap rfl
 have e2 : ((s.heap.push PySem.W.emptyDict).push (PySem.W.instObj C s.heap.objs.size)).get? (s.heap.objs.size + 1) = some (PySem.W.instObj C s.heap.objs.size) := by
  have := Heap.get?_push_size (s.heap.push PySem.W.emptyDict) (o := PySem.W.instObj C s.heap.objs.size) rfl
  rwa [Heap.size_push] at this
 have e3 : (s.heap.push PySem.W.emptyDict).Ns s.heap.objs.size (fun _ => none) := ⟨PySem.W.emptyDict, #[], _, e1, rfl, (fun e he => absurd he (by simp)), fun _ => rfl⟩
 have I1 := I.laid (a := s.heap.objs.size) (o := .own (s.heap.objs.size + 1)) (h' := s.heap.push PySem.W.emptyDict) (t' := s.toks) (fun b u q => Heap.get?_push_of_some _ q) (Nat.le_refl _) ⟨_, e1⟩
 refine I1.laid (a := s.heap.objs.size + 1) (o := .ins C s.heap.objs.size []) (t' := s.toks) (fun b u q => Heap.get?_push_of_some _ q) (Nat.le_of_eq (Heap.size_push _ _)) ?_
 have ne : s.heap.objs.size ≠ s.heap.objs.size + 1 := Nat.ne_of_lt (Nat.lt_succ_self _)
 refine ⟨by rw [upd_ne ne, upd_same], Nat.zero_le _, ne, e2, fun _ => none, (Heap.Ns1.of_empty e3).at fun o q => Heap.get?_push_of_some _ q, fun _ => True.intro, fun y hy => absurd rfl hy⟩
theorem attr_of {prog : Program} {w : World} {env : Env} {e : Expr} {f : Str} {pos : Pos} {s : Shared} {Q : Value -> Shared -> Prop} (hb : attributeBase e f env (eval e env) = eval e env)
  (h : wpAny (model prog w) A (eval e env) (fun o s₁ => wpAny (model prog w) A (getAttr o f true) Q E s₁) E s) : wpAny (model prog w) A (eval (.Attribute e f pos) env) Q E s :=
 Attribute_any_ h (by rw [arm_eval_Attribute, hb])
end
def tFld (K : PySem.W.Frag) (ta : TE) (f : Str) : TE := fun σ H Q => ta σ H fun x H1 => ∃ a C dx fs v, x = .ref a /\ H1 a = some (.ins C dx fs) /\ Cls K C /\ NoAttr K C f /\ fs.lookup f = some v /\ Q v H1
def sFld (K : PySem.W.Frag) (ta tv : TE) (f : Str) : TS := fun D σ H => tv σ H fun y H1 => ta σ H1 fun x H2 => ∃ a C dx fs, x = .ref a /\ H2 a = some (.ins C dx fs) /\ Cls K C /\ NoAttr K C f /\ fs.length < 1000 /\
 D.nx σ (upd H2 a (.ins C dx (putF f y fs)))
section
variable {X : Cx} {o e value : Expr} {f : Str} {pos pos' tpos : Pos} {ta tv : TE}
theorem pe_fld (he : PE X e ta) (hb : attributeBase e f X.env (eval e X.env) = eval e X.env) : PE X (.Attribute e f pos) (tFld X.K ta f) := by
 intro pins s σ H Q I h
 refine attr_of hb (thn (he pins s σ H _ I h) fun u s1 ⟨x, H1, I1, rx, a, C, dx, fs, v, ex, ea, c, n, l, q⟩ => ?_)
 subst ex
 obtain rfl : u = Value.ref a := rx
 exact getattr_ok I1 ea c n l fun u' s2 I2 ru => ⟨v, H1, I2, ru, q⟩
theorem ps_fld (ha : PE X o ta) (hv : PE X value tv) (hs : swapsWith value (some (.Attribute o f pos')) pos.line X.env = pure false) : PS X (.Assign [.Attribute o f pos'] value pos) (sFld X.K ta tv f) := by
 intro pins s σ H D I h
 refine plainObj_wpAny_Assign_Attribute (thn (hv pins s σ H _ I h) fun u s1 ⟨y, H1, I1, ry, q⟩ => thn (ha pins s1 σ H1 _ I1 q) fun ov s2 ⟨x, H2, I2, rx, a, C, dx, fs, ex, ea, c, n, l, q2⟩ => ?_) hs
 subst ex
 obtain rfl : ov = Value.ref a := rx
 exact setattr_ok I2 ea c n l ry fun s3 I3 => ⟨σ, _, I3, q2⟩
end
section
variable {X : Cx} {pins : List (Addr × Obj)} {σ : St} {H : Hp} {s : Shared} {A : Around} {E : Value -> Shared -> Prop} {Q : Value -> Shared -> Prop} {c : Value} {b : Bool}
inductive TyOf (K : PySem.W.Frag) (H : Hp) : V -> Value -> Prop where
 | non : TyOf K H .non (.type "NoneType")
 | bl (x : Bool) : TyOf K H (.bl x) (.type "bool")
 | int (i : Int) : TyOf K H (.int i) (.type "int")
 | str (x : Str) : TyOf K H (.str x) (.type "str")
 | flt (x : UInt64) : TyOf K H (.flt x) (.type "float")
 | lst {a : Addr} {xs : List V} (e : H a = some (.lst xs)) : TyOf K H (.ref a) (.type "list")
 | frz {a : Addr} {o : Obj} {xs : List V} (e : H a = some (.frz o (.lst xs))) : TyOf K H (.ref a) (.type "list")
 | tup {a : Addr} {xs : List V} (e : H a = some (.tup xs)) : TyOf K H (.ref a) (.type "tuple")
 | dK {a : Addr} {kvs : List (Key × V)} (e : H a = some (.dK kvs)) : TyOf K H (.ref a) (.type "dict")
 | dT {a : Addr} {kvs : List (List Key × V)} (e : H a = some (.dT kvs)) : TyOf K H (.ref a) (.type "dict")
 | ins {a C dx : Addr} {fs : List (Str × V)} (e : H a = some (.ins C dx fs)) (cl : Cls K C) (ha : PySem.W.findIn K (.ref C) "__class__" = some (some (.builtin "object.__class__")))
   (hn : PySem.W.specialIn K (.builtin "object.__class__") "__get__" = some (some (.builtin "getset_descriptor.__get__"))) (htk : PySem.W.takesIn K (.builtin "object.__class__") = some true)
   (hm : PySem.W.mroIn K C (.type "object") = some true) : TyOf K H (.ref a) (.ref C)
end
end L2
namespace L2
open PySem PySem.Spec PyProof.Rows
structure Room (k : Nat) (A : Around) : Prop where
 hd : A.handled = none
 dp : A.depth + 3 * k + 5 < recursionLimit
 un : A.units + 16 * k + 200 < cLine
theorem Room.mono {j k : Nat} {A : Around} (r : Room k A) (h : j <= k) : Room j A := ⟨r.hd, by have := r.dp; omega, by have := r.un; omega⟩
theorem Room.deeper {k : Nat} {A : Around} (r : Room (k + 1) A) (env : Env) : Room k (A.deeper env) :=
 ⟨r.hd, by have := r.dp; show A.depth + 1 + 3 * k + 5 < _; omega, by have := r.un; show A.units + 3 + 16 * k + 200 < _; omega⟩
theorem Room.in1 {k : Nat} {A : Around} (r : Room (k + 1) A) : Room k A.in1 :=
 ⟨r.hd, by have := r.dp; show A.depth + 3 * k + 5 < _; omega, by have := r.un; show A.units + 1 + 16 * k + 200 < _; omega⟩
theorem make_depth {A : Around} {C : Addr} {us : List Value} {kw : List (Str × Value)} : (A.under (.builtin "type.__call__" ⟨.ref C :: us, kw⟩)).depth = A.depth + 1 := by
 first | rfl | simp [Around.under, Code.weight, Code.isCreation, Code.isGuard, Code.isCaller, Code.frames, Code.isFrame, guardIds]
theorem make_units {A : Around} {C : Addr} {us : List Value} {kw : List (Str × Value)} : (A.under (.builtin "type.__call__" ⟨.ref C :: us, kw⟩)).units = A.units + 1 := by
 first | rfl | simp [Around.under, Code.cUnits, Code.frames, Code.isFrame]
theorem Room.make {k : Nat} {A : Around} (r : Room (k + 1) A) (C : Addr) (us : List Value) (kw : List (Str × Value)) : Room k (A.under (.builtin "type.__call__" ⟨.ref C :: us, kw⟩)) :=
 ⟨r.hd, by have := r.dp; rw [make_depth]; omega, by have := r.un; rw [make_units]; omega⟩
theorem Room.depth {k : Nat} {A : Around} (r : Room k A) : A.depth < recursionLimit := by have := r.dp; omega
theorem Room.units {k : Nat} {A : Around} (r : Room k A) : A.units + 64 < cLine := by have := r.un; omega
def tNil : TA := fun _ H Q => Q [] H
def tCons (ta : TE) (tr : TA) : TA := fun σ H Q => ta σ H fun x H1 => tr σ H1 fun xs H2 => Q (x :: xs) H2
section
variable {X : Cx} {e : Expr} {es : List Expr} {te : TE} {t : TA} {pos : Pos}
theorem pa_nil : PA X [] tNil := fun _ _ _ _ H Q I h => Calls.spliced_nil ⟨[], H, I, .nil, h⟩
theorem pa_cons (ha : PE X e te) (hr : PA X es t) (hs : starEach (e :: es) X.env = (false, eval e X.env) :: starEach es X.env := by rfl) : PA X (e :: es) (tCons te t) := by
 intro pos pins s σ H Q I h
 rw [hs]
 show wpAny _ _ (spliced ((false, eval e X.env) :: backTo pos (starEach es X.env))) _ _ s
 refine Calls.spliced_cons (thn (ha pins s σ H _ I h) fun u s1 ⟨x, H1, I1, r1, q1⟩ => ?_)
 exact thn (hr pos pins s1 σ H1 _ I1 q1) fun us s2 ⟨xs, H2, I2, r2, q2⟩ => ⟨x :: xs, H2, I2, .cons r1 r2, q2⟩
def tTup (t : TA) : TE := fun σ H Q => t σ H fun xs H1 => xs.length <= sizeLine /\ ∀ p, H1 p = none -> Q (.ref p) (upd H1 p (.tup xs))
def tLst (t : TA) : TE := fun σ H Q => t σ H fun xs H1 => xs.length <= sizeLine /\ ∀ p, H1 p = none -> Q (.ref p) (upd H1 p (.lst xs))
theorem pe_tup {x1} (h : PA X es t) : PE X (.Tuple es x1 pos) (tTup t) := by
 intro pins s σ H Q I hq
 refine wpAny_Tuple_spliced (thn (h pos pins s σ H _ I hq) fun us s1 ⟨xs, H1, I1, r, z, q⟩ => ⟨by rw [<- r.length]; exact z, ?_⟩)
 have hf : H1 s1.heap.objs.size = none := I1.hok.fresh (Nat.le_refl _)
 refine ⟨.ref s1.heap.objs.size, upd H1 s1.heap.objs.size (.tup xs), I1.laid (t' := s1.toks) (fun b u e => Heap.get?_push_of_some _ e) (Nat.le_refl _) ?_, rfl, q _ hf⟩
 exact ⟨z, us, r, ⟨_, Heap.get?_push_size _ rfl, rfl, _, rfl⟩⟩
theorem pe_lst (h : PA X es t) : PE X (.List es pos) (tLst t) := by
 intro pins s σ H Q I hq
 refine wpAny_List_spliced (thn (h pos pins s σ H _ I hq) fun us s1 ⟨xs, H1, I1, r, z, q⟩ => ⟨by rw [<- r.length]; exact z, ?_⟩)
 have hf : H1 s1.heap.objs.size = none := I1.hok.fresh (Nat.le_refl _)
 refine ⟨.ref s1.heap.objs.size, upd H1 s1.heap.objs.size (.lst xs), I1.laid (t' := s1.toks) (fun b u e => Heap.get?_push_of_some _ e) (Nat.le_refl _) ?_, rfl, q _ hf⟩
 exact ⟨z, us, 0, r, Heap.get?_push_size _ rfl⟩
end
abbrev Sp := List V -> Hp -> VK -> XK -> Prop
abbrev CXT := List Env -> Hp -> Shared -> XK -> Value -> Shared -> Prop
structure Env0 (P : Program) (w : World) (K : PySem.W.Frag) (mg : Str -> Option Value) (base : Heap) (A : Around) (outer : List Env) (s : Shared) (H : Hp) : Prop where
 frames : A.frames = some outer
 mod : Mod K mg base
 bs : ∀ b o, base.get? b = some o -> s.heap.get? b = some o /\ H b = none
 bsz : base.objs.size <= s.heap.objs.size
 funs : s.heap.FunFrames base outer
 frf : ∀ b ∈ frs outer, H b = none
 hok : HOk P w H s.heap
 bare : AllBare s.gens
def CE (outer : List Env) (P : Program) (w : World) (H : Hp) (s : Shared) (Q : VK) (u : Value) (s' : Shared) : Prop :=
 ∃ v H', s'.os = s.os /\ AllBare s'.gens /\ Un (frs outer) [] H H' s.heap s'.heap /\ HOk P w H' s'.heap /\ RelV v u /\ Q v H'
def CR (CX : CXT) (outer : List Env) (P : Program) (w : World) (H : Hp) (s : Shared) (Q : VK) (E : XK) (r : Result) (s' : Shared) : Prop :=
 match r with
 | .ok (.ret u) => CE outer P w H s Q u s'
 | .ok _ => False
 | .error e => CX outer H s E e s'
structure FnOk (P : Program) (w : World) (K : PySem.W.Frag) (mg : Str -> Option Value) (base : Heap) (CX : CXT) (k : Nat) (f : Addr) (fd : FuncData) (ps : List Str) (sp : Sp) : Prop where
 len : ∀ vs H Q E, sp vs H Q E -> vs.length = ps.length
 run : ∀ (A : Around) (outer : List Env) (s : Shared) (H : Hp) (args : Args) (us : List Value) (vs : List V) (Q : VK) (E : XK), Room k A -> Env0 P w K mg base A outer s H -> BindsTo s fd args (ps.zip us) -> Vals vs us -> sp vs H Q E ->
  codeAny (model P w) A (.call (.ref f) args) (CR CX outer P w H s Q E) s
theorem FnOk.mono {P : Program} {w : World} {K : PySem.W.Frag} {mg : Str -> Option Value} {base : Heap} {CX : CXT} {j k : Nat} {f : Addr} {fd : FuncData} {ps : List Str} {sp : Sp} (F : FnOk P w K mg base CX j f fd ps sp) (h : j <= k) :
  FnOk P w K mg base CX k f fd ps sp := ⟨F.len, fun A outer s H args us vs Q E hr => F.run A outer s H args us vs Q E (hr.mono h)⟩
theorem Env0.make {P : Program} {w : World} {K : PySem.W.Frag} {mg : Str -> Option Value} {base : Heap} {A : Around} {outer : List Env} {s : Shared} {H : Hp} (e : Env0 P w K mg base A outer s H) (C : Addr) (us : List Value) (kw : List (Str × Value)) :
  Env0 P w K mg base (A.under (.builtin "type.__call__" ⟨.ref C :: us, kw⟩)) outer s H := ⟨by first | exact e.frames | (simpa [Around.under, Code.envs, Code.isFrame, pushEnvs] using e.frames), e.mod, e.bs, e.bsz, e.funs, e.frf, e.hok, e.bare⟩
theorem Env0.in1 {P : Program} {w : World} {K : PySem.W.Frag} {mg : Str -> Option Value} {base : Heap} {A : Around} {outer : List Env} {s : Shared} {H : Hp} (e : Env0 P w K mg base A outer s H) :
  Env0 P w K mg base A.in1 outer s H := ⟨e.frames, e.mod, e.bs, e.bsz, e.funs, e.frf, e.hok, e.bare⟩
section
variable {X : Cx} {pins : List (Addr × Obj)} {σ : St} {H : Hp} {s s' : Shared}
theorem Inv.env0 (I : Inv X pins σ H s) : Env0 X.prog X.w X.K X.mg X.base X.A X.stack s H :=
 ⟨I.ok.frames, I.ok.mod, I.bs, Nat.le_trans I.ok.bsz I.sz, I.stack, I.stkFree, I.hok, I.bare⟩
theorem Inv.after {Q : VK} {u : Value} (I : Inv X pins σ H s) (h : CE X.stack X.prog X.w H s Q u s') : EP X pins σ Q u s' := by
 obtain ⟨v, H', os, bare, un, hok, r, q⟩ := h
 obtain ⟨hh, g, d, t, os'⟩ := s'
 obtain rfl : os' = s.os := os
 exact ⟨v, H', I.call (h' := hh) (g' := g) (d' := d) (t' := t) (ch := []) un hok bare (fun b z => absurd z (by simp)), r, q⟩
end
def tCall (sp : Sp) (dvs : List V) (E : XK) (t : TA) : TE := fun σ H Q => t σ H fun vs H1 => sp (vs ++ dvs) H1 Q E
def tMake (C : Addr) (sp : Sp) (dvs : List V) (E : XK) (t : TA) : TE := fun σ H Q => t σ H fun vs H1 => ∀ x dx, H1 x = none -> H1 dx = none -> dx ≠ x ->
 sp (.ref x :: (vs ++ dvs)) (upd (upd H1 dx (.own x)) x (.ins C dx [])) (fun v H2 => v = .non /\ Q (.ref x) H2) E
def Binds (K : PySem.W.Frag) (fd : FuncData) (ps : List Str) (ds : List Value) : Prop :=
 ∀ (s : Shared) (us : List Value), K.In s.heap -> (us ++ ds).length = ps.length -> BindsTo s fd ⟨us, []⟩ (ps.zip (us ++ ds))
theorem Binds.all {K : PySem.W.Frag} {fd : FuncData} {ps : List Str} (h : ∀ us : List Value, us.length = ps.length -> bindArgs fd ⟨us, []⟩ = pure (ps.zip us)) : Binds K fd ps [] := fun s us _ hl => by
 rw [List.append_nil] at hl ⊢
 exact .of_eq (h us hl)
def Passes (CX : CXT) (X : Cx) (E : XK) : Prop := ∀ (pins : List (Addr × Obj)) (σ : St) (H : Hp) (s : Shared) (e : Value) (s' : Shared), Inv X pins σ H s -> CX X.stack H s E e s' -> X.xe e s'
section
variable {X : Cx} {CX : CXT} {k : Nat} {f C : Addr} {fd : FuncData} {ps : List Str} {sp : Sp} {dvs : List V} {ds : List Value} {E : XK} {x m : Str} {p pos apos : Pos} {e o : Expr} {es : List Expr} {ta : TE} {t : TA}
theorem run_fn {pins : List (Addr × Obj)} {σ : St} {H : Hp} {s : Shared} {Q : VK} {us : List Value} {vs : List V} (F : FnOk X.prog X.w X.K X.mg X.base CX k f fd ps sp) (hr : Room k X.A) (hb : Binds X.K fd ps ds) (hd : Vals dvs ds) (hx : Passes CX X E)
  (I : Inv X pins σ H s) (r : Vals vs us) (h : sp (vs ++ dvs) H Q E) : wpAny (model X.prog X.w) X.A (call (.ref f) us) (EP X pins σ Q) X.xe s := by
 have r2 : Vals (vs ++ dvs) (us ++ ds) := r.append hd
 have hl : (us ++ ds).length = ps.length := by rw [<- r2.length]; exact F.len _ _ _ _ h
 refine wpAny_call (codeAny_mono (F.run X.A X.stack s H ⟨us, []⟩ (us ++ ds) (vs ++ dvs) Q E hr I.env0 (hb s us I.kIn hl) r2 h) fun r s' hq => ?_)
 cases r with
 | error e => exact hx pins σ H s e s' I hq
 | ok fl =>
  cases fl with
  | ret u => exact I.after hq
  | next => exact False.elim hq
  | brk => exact False.elim hq
  | cont => exact False.elim hq
theorem pe_call (F : FnOk X.prog X.w X.K X.mg X.base CX k f fd ps sp) (hr : Room k X.A) (hg : Gl X x) (hm : X.mg x = some (.ref f)) (hk : PySem.W.keepIn X.K (.ref f) = true) (hb : Binds X.K fd ps ds) (hd : Vals dvs ds) (hx : Passes CX X E)
  (ha : PA X (e :: es) t) (hdb : (x == ("__debug__" : Str)) = false := by decide) (he : starEach (e :: es) X.env = (false, eval e X.env) :: starEach es X.env := by rfl) (hpl : (backTo pos (starEach es X.env)).any (·.1) = false := by rfl) :
  PE X (.Call (.Name x p) (e :: es) [] pos) (tCall sp dvs E t) := by
 intro pins s σ H Q I h
 refine wpAny_Call_Name_kw (ld_glob I hg hm ?_ hdb)
 refine PySem.W.callWith_K (h₀ := X.base) I.ok.mod.kin hk (thn (ha pos pins s σ H _ I h) fun us s1 ⟨vs, H1, I1, r, q⟩ => ⟨I1.kIn, ?_⟩) he hpl
 exact run_fn F hr hb hd hx I1 r q
structure Mk (K : PySem.W.Frag) (C f : Addr) : Prop where
 makes : PySem.W.makesIn K C = true
 init : PySem.W.findIn K (.ref C) "__init__" = some (some (.ref f))
 fn : PySem.W.isFn K (.ref f) = true
 kp : PySem.W.keepIn K (.ref C) = true
theorem run_make {pins : List (Addr × Obj)} {σ : St} {H : Hp} {s : Shared} {Q : VK} {us : List Value} {vs : List V} (M : Mk X.K C f) (F : FnOk X.prog X.w X.K X.mg X.base CX k f fd ps sp) (hr : Room (k + 1) X.A) (hb : Binds X.K fd ps ds) (hd : Vals dvs ds)
  (hx : Passes CX X E) (I : Inv X pins σ H s) (r : Vals vs us)
  (h : ∀ x dx, H x = none -> H dx = none -> dx ≠ x -> sp (.ref x :: (vs ++ dvs)) (upd (upd H dx (.own x)) x (.ins C dx [])) (fun v H2 => v = .non /\ Q (.ref x) H2) E) :
  wpAny (model X.prog X.w) X.A (call (.ref C) us) (EP X pins σ Q) X.xe s := by
 have hq := h (s.heap.objs.size + 1) s.heap.objs.size (I.hok.fresh (Nat.le_succ _)) (I.hok.fresh (Nat.le_refl _)) (Nat.ne_of_lt (Nat.lt_succ_self _))
 have I2 := Inv.made (C := C) I
 have r2 : Vals (V.ref (s.heap.objs.size + 1) :: (vs ++ dvs)) (Value.ref (s.heap.objs.size + 1) :: (us ++ ds)) := .cons rfl (r.append hd)
 have hl : (Value.ref (s.heap.objs.size + 1) :: us ++ ds).length = ps.length := by
  have e := r2.length
  rw [F.len _ _ _ _ hq] at e
  exact e.symm
 refine wpAny_call (make_map (f := f) I.kIn M.makes M.init (beq_iff_eq.mp M.fn) (codeAny_mono (F.run _ X.stack _ _ ⟨Value.ref (s.heap.objs.size + 1) :: us, []⟩ (Value.ref (s.heap.objs.size + 1) :: (us ++ ds)) _ _ E (hr.make C us [])
  (I2.env0.make C us []) (hb _ (Value.ref (s.heap.objs.size + 1) :: us) I2.kIn hl) r2 hq) fun r s' hq' => ?_))
 cases r with
 | error e => exact hx pins σ _ _ e s' I2 hq'
 | ok fl =>
  cases fl with
  | ret u =>
   obtain ⟨v, H', I3, rv, ev, q3⟩ := I2.after hq'
   subst ev
   exact ⟨rv, ⟨V.ref (s.heap.objs.size + 1), H', I3, rfl, q3⟩⟩
  | next => exact False.elim hq'
  | brk => exact False.elim hq'
  | cont => exact False.elim hq'
theorem pe_make (M : Mk X.K C f) (F : FnOk X.prog X.w X.K X.mg X.base CX k f fd ps sp) (hr : Room (k + 1) X.A) (hg : Gl X x) (hm : X.mg x = some (.ref C)) (hb : Binds X.K fd ps ds) (hd : Vals dvs ds) (hx : Passes CX X E)
  (ha : PA X (e :: es) t) (hdb : (x == ("__debug__" : Str)) = false := by decide) (he : starEach (e :: es) X.env = (false, eval e X.env) :: starEach es X.env := by rfl) (hpl : (backTo pos (starEach es X.env)).any (·.1) = false := by rfl) :
  PE X (.Call (.Name x p) (e :: es) [] pos) (tMake C sp dvs E t) := by
 intro pins s σ H Q I h
 refine wpAny_Call_Name_kw (ld_glob I hg hm ?_ hdb)
 refine PySem.W.callWith_K (h₀ := X.base) I.ok.mod.kin M.kp (thn (ha pos pins s σ H _ I h) fun us s1 ⟨vs, H1, I1, r, q⟩ => ⟨I1.kIn, ?_⟩) he hpl
 exact run_make M F hr hb hd hx I1 r q
end
section
variable {X : Cx} {CX : CXT} {k : Nat} {f C : Addr} {fd : FuncData} {ps ks : List Str} {sp : Sp} {E : XK} {x m : Str} {p pos apos kpos : Pos} {e o : Expr} {es : List Expr} {kws : List Keyword} {te ta : TE} {t tk : TA} {nm : Option Str}
variable {g : List Value -> List Value -> List Value} {gV : List V -> List V -> List V}
end
structure FnScope (N P : List Str) (sc : Scope) : Prop where
 kind : sc.kind = .function
 co : sc.isCoroutine = false
 gen : sc.isGenerator = false
 nd : N.Nodup
 pre : N.take P.length = P
 par : ∀ x ∈ P, sc.names.lookup x = some .local \/ sc.names.lookup x = some .cell
 nofree : ∀ y ∈ sc.names, y.2 ≠ .free
theorem bindL_out {kindOf : Str -> Option NameKind} {x : Str} : ∀ {binds : List (Str × Value)} {m : Str -> Option Value}, (∀ v, (x, v) ∉ binds) -> bindL kindOf binds m x = m x
 | [], _, _ => rfl
 | (n, v) :: r, m, h => by
  unfold bindL
  rw [bindL_out fun w hw => h w (List.mem_cons_of_mem _ hw)]
  split
  ·have : x ≠ n := by rintro rfl; exact h v List.mem_cons_self
   simp [this]
  ·rfl
theorem bindC_out {kindOf : Str -> Option NameKind} {x : Str} : ∀ {binds : List (Str × Value)} {m : Str -> Option Value}, (∀ v, (x, v) ∉ binds) -> bindC kindOf binds m x = m x
 | [], _, _ => rfl
 | (n, v) :: r, m, h => by
  unfold bindC
  rw [bindC_out fun w hw => h w (List.mem_cons_of_mem _ hw)]
  split
  ·rfl
  ·have : x ≠ n := by rintro rfl; exact h v List.mem_cons_self
   simp [this]
theorem bindL_get {kindOf : Str -> Option NameKind} {x : Str} {v : Value} : ∀ {P : List Str} {vs : List Value} {i : Nat} {m : Str -> Option Value}, P.Nodup -> P[i]? = some x -> vs[i]? = some v -> kindOf x = some .local ->
  bindL kindOf (P.zip vs) m x = some v
 | [], _, _, _, _, h, _, _ => by simp at h
 | _ :: _, [], _, _, _, _, h, _ => by simp at h
 | p :: P, w :: vs, 0, m, nd, h1, h2, hk => by
  simp at h1 h2; subst h1; subst h2
  show bindL kindOf ((p, w) :: P.zip vs) m p = _
  unfold bindL
  rw [bindL_out fun v hv => (List.nodup_cons.mp nd).1 (List.of_mem_zip hv).1, if_pos hk]
  simp
 | p :: P, w :: vs, i + 1, m, nd, h1, h2, hk => by
  show bindL kindOf ((p, w) :: P.zip vs) m x = _
  unfold bindL
  exact bindL_get (i := i) (List.nodup_cons.mp nd).2 (by simpa using h1) (by simpa using h2) hk
theorem bindC_get {kindOf : Str -> Option NameKind} {x : Str} {v : Value} : ∀ {P : List Str} {vs : List Value} {i : Nat} {m : Str -> Option Value}, P.Nodup -> P[i]? = some x -> vs[i]? = some v -> kindOf x ≠ some .local ->
  bindC kindOf (P.zip vs) m x = some v
 | [], _, _, _, _, h, _, _ => by simp at h
 | _ :: _, [], _, _, _, _, h, _ => by simp at h
 | p :: P, w :: vs, 0, m, nd, h1, h2, hk => by
  simp at h1 h2; subst h1; subst h2
  show bindC kindOf ((p, w) :: P.zip vs) m p = _
  unfold bindC
  rw [bindC_out fun v hv => (List.nodup_cons.mp nd).1 (List.of_mem_zip hv).1, if_neg hk]
  simp
 | p :: P, w :: vs, i + 1, m, nd, h1, h2, hk => by
  show bindC kindOf ((p, w) :: P.zip vs) m x = _
  unfold bindC
  exact bindC_get (i := i) (List.nodup_cons.mp nd).2 (by simpa using h1) (by simpa using h2) hk
def start (N : List Str) (vs : List V) : St := vs.map some ++ List.replicate (N.length - vs.length) none
def cxOf (CX : CXT) (P : Program) (w : World) (K : PySem.W.Frag) (mg : Str -> Option Value) (base : Heap) (N : List Str) (qual : Str) (scope : Scope) (f : Addr) (cd : Value) (A : Around) (outer : List Env) (s : Shared) (H : Hp) (E : XK) : Cx where
 prog := P
 w := w
 K := K
 mg := mg
 base := base
 A := A.deeper (envOfC qual scope s.heap.objs.size f cd)
 N := N
 s₀ := s
 H₀ := H
 env := envOfC qual scope s.heap.objs.size f cd
 outer := outer
 stack := envOfC qual scope s.heap.objs.size f cd :: outer
 ex := []
 calm := true
 fn := fun _ => true
 pn := []
 xe := fun e s' => wpAny (model P w) (A.deeper (envOfC qual scope s.heap.objs.size f cd)) (leaving (envOfC qual scope s.heap.objs.size f cd) e) (fun _ s'' => CX outer H s E e s'') (fun e' s'' => CX outer H s E e' s'') s'
theorem cell_has {sc : Scope} {n : Nat} {x : Str} (h : sc.names.lookup x = some .cell) : ∃ c, (cellsFrom n sc.names []).lookup x = some c := by
 have q := PySem.W.cellsFrom_some sc.names n [] (.inl h)
 exact Option.isSome_iff_exists.mp q
theorem inv_start {CX : CXT} {P : Program} {w : World} {K : PySem.W.Frag} {mg : Str -> Option Value} {base : Heap} {N ps : List Str} {qual : Str} {scope : Scope} {f : Addr} {cd : Value} {A : Around} {outer : List Env} {s s1 : Shared} {H : Hp} {E : XK} {us : List Value} {vs : List V}
  (S : FnScope N ps scope) (hd : A.handled = none) (e0 : Env0 P w K mg base A outer s H) (hl : vs.length = ps.length) (r : Vals vs us)
  (x : InCallC s s.heap.objs.size (bindL (envOfC qual scope s.heap.objs.size f cd).kindOf (ps.zip us) fun _ => none) (cellsFrom (s.heap.objs.size + 1) scope.names []) (bindC (envOfC qual scope s.heap.objs.size f cd).kindOf (ps.zip us) fun _ => none) s1) :
  Inv (cxOf CX P w K mg base N qual scope f cd A outer s H E) [] (start N vs) H s1 := by
 have hpl : ps.length <= N.length := by have := congrArg List.length S.pre; rw [List.length_take] at this; omega
 obtain ⟨h1, tk, rfl, hk⟩ := x.done
 have noA : ∀ b : Addr, b ∉ (cxOf CX P w K mg base N qual scope f cd A outer s H E).ex := fun b z => absurd (show b ∈ ([] : List Addr) from z) (by simp)
 refine ⟨⟨e0.mod, S.kind, rfl, rfl, Nat.le_refl _, fun y z c h1 h2 => ?_, fun y hy => ?_, fun y c _ h => ?_, fun _ => hd, Around.frames_deeper e0.frames, .inr ⟨rfl, rfl⟩, fun b z => absurd z (noA b), e0.bs, e0.bsz, fun b _ _ => noA b, fun b z => absurd z (noA b), e0.funs, e0.frf⟩,
  rfl, e0.bare, Un.kept hk, ⟨_, x.toInCall.ns, fun i y v h1 h2 h3 => ?_⟩, fun y c h => ⟨_, x.cell y c h⟩, e0.hok.fresh (Nat.le_refl _), fun y c h => ?_, fun p hp => absurd (show p ∈ ([] : List (Addr × Obj)) from hp) (by simp), e0.hok.kept hk, ?_⟩
 ·exact name_of_addr x.apart (PySem.mem_of_lookup h1) (PySem.mem_of_lookup h2)
 ·have hy : scope.names.lookup y = some .cell \/ scope.names.lookup y = some .free := hy
  rcases hy with hy | hy
  ·exact cell_has hy
  ·exact absurd rfl (S.nofree _ (PySem.mem_of_lookup hy))
 ·exact Nat.le_of_lt (x.above y c (PySem.mem_of_lookup h))
 ·have hi : i < vs.length := by
   unfold start at h2
   by_cases hi : i < vs.length
   ·exact hi
   ·rw [List.getElem?_append_right (by simpa using hi)] at h2
    rw [List.getElem?_replicate] at h2
    split at h2 <;> cases h2
  have ha : vs[i]? = some v := by
   unfold start at h2
   rw [List.getElem?_append_left (by simpa using hi), List.getElem?_map] at h2
   cases e : vs[i]? with
   | none => rw [e] at h2; cases h2
   | some a => rw [e] at h2; cases h2; rfl
  obtain ⟨u, hu, rv⟩ := r.get ha
  have hp : ps[i]? = some y := by
   rw [<- S.pre, List.getElem?_take_of_lt (by omega)]; exact h1
  have ndP : ps.Nodup := by rw [<- S.pre]; exact S.nd.sublist (List.take_sublist _ _)
  refine ⟨u, rv, ?_⟩
  rcases S.par y (List.mem_of_getElem? hp) with k | k
  ·exact .inl ⟨k, bindL_get ndP hp hu k⟩
  ·obtain ⟨c, e⟩ := cell_has (n := s.heap.objs.size + 1) k
   refine .inr ⟨.inl k, c, e, ?_⟩
   have q := x.cell y c e
   rw [bindC_get ndP hp hu (by show scope.names.lookup y ≠ _; rw [k]; decide)] at q
   exact q
 ·exact e0.hok.fresh (Nat.le_of_lt (x.above y c (PySem.mem_of_lookup h)))
 ·unfold start
  show _ = N.length
  rw [List.length_append, List.length_map, List.length_replicate]
  omega
theorem fn_of {CX : CXT} {P : Program} {w : World} {K : PySem.W.Frag} {mg : Str -> Option Value} {base : Heap} {k : Nat} {f : Addr} {name qual : Str} {params : Arguments} {body : List Stmt} {scope : Scope} {dV kV doc pm cdv ct oc : Value} {an od : Option Addr}
  {osl : Array (Option Value)} {N ps : List Str} {sp : Sp} (lk : K.lookup f = some ⟨oc, od, .func (PySem.W.fnOf name qual params body scope dV kV doc pm an cdv ct), osl⟩) (hcd : PySem.W.codeIn K cdv qual = true) (S : FnScope N ps scope)
  (len : ∀ vs H Q E, sp vs H Q E -> vs.length = ps.length)
  (hbody : ∀ (A : Around) (outer : List Env) (s : Shared) (H : Hp) (vs : List V) (Q : VK) (E : XK), Room k (A.deeper (envOfC qual scope s.heap.objs.size f cdv)) -> sp vs H Q E ->
   ∃ t, PSs (cxOf CX P w K mg base N qual scope f cdv A outer s H E) body t /\ t { nx := fun _ H' => Q .non H', rt := Q } (start N vs) H) :
  FnOk P w K mg base CX (k + 1) f (PySem.W.fnOf name qual params body scope dV kV doc pm an cdv ct) ps sp := by
 refine ⟨len, fun A outer s H args us vs Q E hr e0 hb r hsp => ?_⟩
 have hl := len _ _ _ _ hsp
 have KX : K.In s.heap := e0.mod.kin.keeps fun b o e => (e0.bs b o e).1
 have lim : s.heap.NoLimit := e0.mod.nolimit.keeps fun b o e => (e0.bs b o e).1
 have hkind : ∀ y ∈ ps.zip us, scope.names.lookup y.1 = some .local \/ (scope.names.lookup y.1 = some .cell /\ ((cellsFrom (s.heap.objs.size + 1) scope.names []).lookup y.1).isSome = true) := fun ⟨n, v⟩ hy => by
  rcases S.par n (List.of_mem_zip hy).1 with q | q
  ·exact .inl q
  ·exact .inr ⟨q, PySem.W.cellsFrom_some _ _ _ (.inl q)⟩
 refine codeAny_call_function hr.depth (KX _ _ lk) rfl S.co S.gen rfl (PySem.W.codeRec_of KX hcd) (hb _ _ _ _ ?_)
 refine wpAny_newFunctionEnv_cells S.kind hkind fun env he s1 x => ?_
 subst he
 refine ⟨lim.keeps x.toInCall.keep, codeAny_func ?_⟩
 obtain ⟨t, ht, hq⟩ := hbody A outer s H vs Q E (hr.deeper _) hsp
 have I : Inv (cxOf CX P w K mg base N qual scope f cdv A outer s H E) [] (start N vs) H s1 := inv_start S hr.hd e0 hl r x
 refine wpAny_mono (ht [] s1 (start N vs) H _ I hq) (fun fl s' hs => ?_) fun e s' hs => hs
 have fin : ∀ {σ' : St} {H' : Hp} {v : V} {u : Value}, Inv (cxOf CX P w K mg base N qual scope f cdv A outer s H E) [] σ' H' s' -> RelV v u -> Q v H' -> CE outer P w H s Q u s' :=
  fun {σ' H' v u} J rv q => ⟨v, H', J.os, J.bare, J.base, J.hok, rv, q⟩
 cases fl with
 | ret u =>
  obtain ⟨v, σ', H', J, rv, q⟩ := hs
  exact fin J rv q
 | next =>
  obtain ⟨σ', H', J, q⟩ := hs
  exact fin (v := V.non) (u := Value.none) J rfl q
 | brk =>
  obtain ⟨_, _, _, q⟩ := hs
  exact False.elim q
 | cont =>
  obtain ⟨_, _, _, q⟩ := hs
  exact False.elim q
end L2
namespace L2
open PySem PySem.Spec PyProof.Rows
section
variable {X : Cx} {x : Str} {p pos : Pos} {e : Expr} {es : List Expr} {t : TA} {id T : String} {r : List V -> Hp -> VK -> Prop}
def tCB (r : List V -> Hp -> VK -> Prop) (t : TA) : TE := fun σ H Q => t σ H fun vs H1 => r vs H1 Q
theorem pe_callB (hc : CallR X (.builtin id) r) (hg : Gl X x) (hm : X.mg x = none) (hv : bootBuiltins x = some (.builtin id)) (ha : PA X (e :: es) t) (hn : x ≠ "__name__" := by decide) (hdb : (x == ("__debug__" : Str)) = false := by decide)
  (he : starEach (e :: es) X.env = (false, eval e X.env) :: starEach es X.env := by rfl) (hpl : (backTo pos (starEach es X.env)).any (·.1) = false := by rfl) : PE X (.Call (.Name x p) (e :: es) [] pos) (tCB r t) := by
 intro pins s σ H Q I h
 refine wpAny_Call_Name_kw (ld_blt I hg hm hv ?_ hn hdb)
 exact PyProof.Rows.callWith_builtin1 (thn (ha pos pins s σ H _ I h) fun us s1 ⟨vs, H1, I1, r1, q1⟩ => hc pins s1 σ H1 vs us Q I1 r1 q1) he hpl
theorem pe_callTy (hc : CallR X (.type T) r) (hg : Gl X x) (hm : X.mg x = none) (hv : bootBuiltins x = some (.type T)) (ha : PA X (e :: es) t) (hn : x ≠ "__name__" := by decide) (hdb : (x == ("__debug__" : Str)) = false := by decide)
  (he : starEach (e :: es) X.env = (false, eval e X.env) :: starEach es X.env := by rfl) (hpl : (backTo pos (starEach es X.env)).any (·.1) = false := by rfl) : PE X (.Call (.Name x p) (e :: es) [] pos) (tCB r t) := by
 intro pins s σ H Q I h
 refine wpAny_Call_Name_kw (ld_blt I hg hm hv ?_ hn hdb)
 exact PyProof.Rows.callWith_type1 (thn (ha pos pins s σ H _ I h) fun us s1 ⟨vs, H1, I1, r1, q1⟩ => hc pins s1 σ H1 vs us Q I1 r1 q1) he hpl
end
end L2
namespace HT
open PySem PyProof.Rows
section
open PySem.SeqAt
open PySem.AutoSeq1 (wpAny_loadPart')
open PySem.MeetsSeq PySem.MeetsSeq2 PySem.MeetsSeq3
end
section
variable {prog : Program} {w : World} {A : Around} {E : Value -> Shared -> Prop} {s : Shared}
def sIx (n d : Nat) : Option Int -> Nat
 | none => d
 | some v => if v < 0 then (v + (n : Int)).toNat else min v.toNat n
end
end HT
namespace L2
open PySem PySem.Spec PyProof.Rows
abbrev TO := St -> Hp -> (Option Int -> Hp -> Prop) -> Prop
def PO (X : Cx) (e : Option Expr) (t : TO) : Prop :=
 ∀ (pins : List (Addr × Obj)) (s : Shared) (σ : St) (H : Hp) (Q : Option Int -> Hp -> Prop), Inv X pins σ H s -> t σ H Q ->
  wpAny (model X.prog X.w) X.A (evalPart e X.env) (fun u s' => ∃ o H', Inv X pins σ H' s' /\ IsPart u o /\ Q o H') X.xe s
def tPart (t : TE) : TO := fun σ H Q => t σ H fun x H1 => ∃ i, x = .int i /\ Q (some i) H1
section
variable {X : Cx} {e : Expr} {te : TE} {lo hi : Option Expr} {tl th : TO} {pos p2 : Pos}
theorem po_some (h : PE X e te) : PO X (some e) (tPart te) := by
 intro pins s σ H Q I hw
 rw [evalPart_some]
 refine thn (h pins s σ H _ I hw) fun u s1 ⟨x, H1, I1, r1, q1⟩ => ?_
 obtain ⟨i, rfl, q⟩ := q1
 obtain ⟨t, rfl⟩ := r1
 exact ⟨some i, H1, I1, .int i t, q⟩
def SlR (X : Cx) (r : V -> Option Int -> Option Int -> Hp -> VK -> Prop) : Prop :=
 ∀ (pins : List (Addr × Obj)) (s : Shared) (σ : St) (H : Hp) (x : V) (v vl vu : Value) (lo hi : Option Int) (sl : Addr) (Q : VK), Inv X pins σ H s -> RelV x v -> s.heap.IsSliceOf sl vl vu .none -> IsPart vl lo -> IsPart vu hi -> r x lo hi H Q ->
  ∃ T id, typeLookup (.type T) "__getitem__" = pure (some (.builtin id)) /\ s.TypeIs v T /\ wpAny (model X.prog X.w) X.A (getItem v (.ref sl)) (EP X pins σ Q) X.xe s
theorem SlR.or {r r' : V -> Option Int -> Option Int -> Hp -> VK -> Prop} (h : SlR X r) (h' : SlR X r') : SlR X (fun x lo hi H Q => r x lo hi H Q \/ r' x lo hi H Q) := by
 intro pins s σ H x v vl vu lo hi sl Q I rx hs pl pu q
 rcases q with q | q
 ·exact h pins s σ H x v vl vu lo hi sl Q I rx hs pl pu q
 ·exact h' pins s σ H x v vl vu lo hi sl Q I rx hs pl pu q
def tSl (r : V -> Option Int -> Option Int -> Hp -> VK -> Prop) (te : TE) (tl th : TO) : TE := fun σ H Q => te σ H fun x H1 => tl σ H1 fun l H2 => th σ H2 fun u H3 => r x l u H3 Q
theorem pe_slice {r : V -> Option Int -> Option Int -> Hp -> VK -> Prop} (hr : SlR X r) (he : PE X e te) (hl : PO X lo tl) (hu : PO X hi th) : PE X (.Subscript e (.Slice lo hi none p2) pos) (tSl r te tl th) := by
 intro pins s σ H Q I h
 refine Subscript_ (thn (he pins s σ H _ I h) fun v s1 ⟨x, H1, I1, r1, q1⟩ => ?_)
 refine wpAny_Slice (thn (hl pins s1 σ H1 _ I1 q1) fun vl s2 ⟨l, H2, I2, pl, q2⟩ => thn (hu pins s2 σ H2 _ I2 q2) fun vu s3 ⟨u, H3, I3, pu, q3⟩ => ?_)
 rw [evalPart_none]
 refine wpAny_pure ?_
 have I4 : Inv X pins σ H3 { s3 with heap := s3.heap.push { cls := .type "slice", data := .fields #[vl, vu, .none] } } := I3.kept (t' := s3.toks) fun b ob q => Heap.get?_push_of_some _ q
 obtain ⟨T, id, hT, ht, hg⟩ := hr pins { s3 with heap := s3.heap.push { cls := .type "slice", data := .fields #[vl, vu, .none] } } σ H3 x v vl vu l u s3.heap.objs.size Q I4 r1 (Heap.IsSliceOf.new ..) pl pu q3
 show wpAny (model X.prog X.w) X.A (subscriptTail e (.Slice lo hi none p2) v (.ref s3.heap.objs.size)) (EP X pins σ Q) X.xe { s3 with heap := s3.heap.push { cls := .type "slice", data := .fields #[vl, vu, .none] } }
 exact tail_any (ops := [.ref s3.heap.objs.size, v]) ht hT hg (by with_unfolding_all rfl)
def cutV (xs : List V) (lo hi : Option Int) : List V := (xs.drop (HT.sIx xs.length 0 lo)).take (HT.sIx xs.length xs.length hi - HT.sIx xs.length 0 lo)
theorem cutV_length (xs : List V) (lo hi : Option Int) : (cutV xs lo hi).length <= xs.length := by
 unfold cutV
 rw [List.length_take, List.length_drop]
 omega
end
end L2
namespace L2
open PySem PySem.Spec PyProof.Rows
def ixN (n : Nat) (i : Int) : Option Nat := if 0 <= i then (if i < n then some i.toNat else none) else if -(n : Int) <= i then some (i + n).toNat else none
def atI {α : Type} (xs : List α) (i : Int) : Option α := (ixN xs.length i).bind fun j => xs[j]?
theorem ixN_seq {n : Nat} {i : Int} {j : Nat} (h : ixN n i = some j) : seqIndex? i n = some j /\ j < n /\ -(n : Int) <= i /\ i < n := by
 unfold ixN at h
 by_cases h0 : 0 <= i
 ·rw [if_pos h0] at h
  by_cases h1 : i < n
  ·rw [if_pos h1] at h
   have e : i.toNat = j := Option.some.inj h
   exact ⟨by rw [seqIndex_of h0 h1, e], by omega, by omega, h1⟩
  ·rw [if_neg h1] at h; cases h
 ·rw [if_neg h0] at h
  by_cases h1 : -(n : Int) <= i
  ·rw [if_pos h1] at h
   have e : (i + n).toNat = j := Option.some.inj h
   exact ⟨by rw [seqIndex_neg (by omega) h1, e], by omega, h1, by omega⟩
  ·rw [if_neg h1] at h; cases h
theorem atI_get {α : Type} {xs : List α} {i : Int} {v : α} (h : atI xs i = some v) : ∃ j, seqIndex? i xs.length = some j /\ xs[j]? = some v /\ j < xs.length /\ -(xs.length : Int) <= i /\ i < xs.length := by
 unfold atI at h
 cases e : ixN xs.length i with
 | none => rw [e] at h; cases h
 | some j =>
  rw [e] at h
  obtain ⟨h1, h2, h3, h4⟩ := ixN_seq e
  exact ⟨j, h1, h, h2, h3, h4⟩
theorem atI_nat {α : Type} {xs : List α} {j : Nat} {v : α} (h : xs[j]? = some v) : atI xs (j : Int) = some v := by
 have hj : j < xs.length := (List.getElem?_eq_some_iff.mp h).1
 have e : ixN xs.length (j : Int) = some j := by
  unfold ixN
  rw [if_pos (by omega), if_pos (by omega)]; simp
 unfold atI; rw [e]; exact h
def PlainIx (b : Expr) : Prop := ∀ o i, subscripted b false o i = operate [o, i] (getItem o i)
def IxR (X : Cx) (r : R2) : Prop :=
 ∀ (value slice : Expr) (pins : List (Addr × Obj)) (s : Shared) (σ : St) (H : Hp) (x y : V) (v u : Value) (Q : VK), Inv X pins σ H s -> RelV x v -> RelV y u -> r x y H Q ->
  subscripted slice false v u = operate [v, u] (getItem v u) -> wpAny (model X.prog X.w) X.A (subscriptTail value slice v u) (EP X pins σ Q) X.xe s
def MtR (X : Cx) (id : String) (r : V -> List V -> Hp -> VK -> Prop) : Prop :=
 ∀ (pins : List (Addr × Obj)) (s : Shared) (σ : St) (H : Hp) (x : V) (xs : List V) (v : Value) (us : List Value) (Q : VK), Inv X pins σ H s -> RelV x v -> Vals xs us -> r x xs H Q ->
  wpAny (model X.prog X.w) X.A (call (.builtin id) (v :: us)) (EP X pins σ Q) X.xe s
section
variable {X : Cx} {a b : Expr} {ta tb : TE} {pos : Pos}
theorem IxR.or {r r' : R2} (h : IxR X r) (h' : IxR X r') : IxR X (fun x y H Q => r x y H Q \/ r' x y H Q) := by
 intro value slice pins s σ H x y v u Q I rx ry q hs
 rcases q with q | q
 ·exact h value slice pins s σ H x y v u Q I rx ry q hs
 ·exact h' value slice pins s σ H x y v u Q I rx ry q hs
theorem MtR.or {id : String} {r r' : V -> List V -> Hp -> VK -> Prop} (h : MtR X id r) (h' : MtR X id r') : MtR X id (fun x xs H Q => r x xs H Q \/ r' x xs H Q) := by
 intro pins s σ H x xs v us Q I rx rs q
 rcases q with q | q
 ·exact h pins s σ H x xs v us Q I rx rs q
 ·exact h' pins s σ H x xs v us Q I rx rs q
theorem pe_ix {r : R2} (hr : IxR X r) (ha : PE X a ta) (hb : PE X b tb) (hs : PlainIx b) : PE X (.Subscript a b pos) (tOp r ta tb) := by
 intro pins s σ H Q I h
 exact Subscript_ (binT ha hb I h fun v u s2 x y H2 I2 rx ry q => hr a b pins s2 σ H2 x y v u Q I2 rx ry q (hs _ _))
def rIxL (K : PySem.W.Frag) : R2 := fun x y H Q => ∃ p xs i v, x = .ref p /\ y = .int i /\ SqL K H p xs /\ atI xs i = some v /\ Q v H
def rIxT (K : PySem.W.Frag) : R2 := fun x y H Q => ∃ p xs i v, x = .ref p /\ y = .int i /\ SqT K H p xs /\ atI xs i = some v /\ Q v H
def rIxS : R2 := fun x y H Q => ∃ z i c, x = .str z /\ y = .int i /\ z.length <= sizeLine /\ atI z.cps.toList i = some c /\ Q (.str ⟨#[c]⟩) H
theorem ix_list : IxR X (rIxL X.K) := by
 intro value slice pins s σ H x y v u Q I rx ry h hs
 obtain ⟨p, xs, i, z, rfl, rfl, hq, he, q⟩ := h
 cases rx
 obtain ⟨t, rfl⟩ := ry
 obtain ⟨its, r, pl, hz⟩ := I.list hq
 obtain ⟨j, h1, h2, h3, h4, h5⟩ := atI_get he
 obtain ⟨w, ew, rw'⟩ := r.get h2
 have hl := r.length
 have hn := line63
 have fin : EP X pins σ Q w s := ⟨z, H, I, rw', q⟩
 by_cases h0 : 0 <= i
 ·have hj : i.toNat = j := by
   rw [seqIndex_of h0 h5] at h1
   exact Option.some.inj h1
  exact item_listR pl.isList h0 (by omega) (by rw [hj]; simpa using ew) fin hs
 ·have hj : (i + (its.toArray.size : Int)).toNat = j := by
   rw [seqIndex_neg (by omega) h4] at h1
   rw [List.size_toArray, <- hl]
   exact Option.some.inj h1
  exact subscriptTail_builtinR (x := w) pl.isList.typeIs slot_list_getitem.lookup
   (wpAny_getItem_list_neg (Q := fun r s' => r = w /\ EP X pins σ Q r s') pl.isList (by omega) (by rw [List.size_toArray] <;> omega) (by omega) (by rw [hj]; simpa using ew) ⟨rfl, fin⟩) hs
theorem ix_tup : IxR X (rIxT X.K) := by
 intro value slice pins s σ H x y v u Q I rx ry h hs
 obtain ⟨p, xs, i, z, rfl, rfl, hq, he, q⟩ := h
 cases rx
 obtain ⟨t, rfl⟩ := ry
 obtain ⟨its, r, pl, hz⟩ := I.tuple hq
 obtain ⟨j, h1, h2, h3, h4, h5⟩ := atI_get he
 obtain ⟨w, ew, rw'⟩ := r.get h2
 have hl := r.length
 have hn := line63
 have fin : EP X pins σ Q w s := ⟨z, H, I, rw', q⟩
 exact subscriptTail_builtinR (x := w) pl.typeIs slot_tuple_getitem.lookup
  (getItem_tuple (j := j) (Q := fun r s' => r = w /\ EP X pins σ Q r s') pl (by omega) (by omega) (by rw [List.size_toArray, <- hl]; exact h1) (by simpa using ew) ⟨rfl, fin⟩) hs
theorem ix_str : IxR X rIxS := by
 intro value slice pins s σ H x y v u Q I rx ry h hs
 obtain ⟨z, i, c, rfl, rfl, hz, he, q⟩ := h
 obtain ⟨t, rfl⟩ := rx
 obtain ⟨t', rfl⟩ := ry
 obtain ⟨j, h1, h2, h3, h4, h5⟩ := atI_get he
 have hl : z.cps.toList.length = z.length := by simp [Str.length]
 rw [hl] at h1 h4 h5
 have hn := line63
 exact tail_any (typeIs_str s z t) slot_str_getitem.lookup (getItem_str (c := c) (by
  have e1 : decide (i < -(2 ^ 63 : Int)) = false := decide_eq_false (by omega)
  have e2 : decide (i ≥ 2 ^ 63) = false := decide_eq_false (by omega)
  rw [e1, e2, Bool.or_false]) (by rw [h1]; simpa using h2) ⟨.str ⟨#[c]⟩, H, I.tok _, ⟨_, rfl⟩, q⟩) hs
def rIx (K : PySem.W.Frag) : R2 := fun x y H Q => rIxL K x y H Q \/ rIxT K x y H Q \/ rIxS x y H Q
theorem ix_seq : IxR X (rIx X.K) := ix_list.or (ix_tup.or ix_str)
theorem mapSeq_set (its : List Value) (n j : Nat) (u : Value) : Obj.mapSeq (·.setIfInBounds j u) { cls := .type "list", data := .seq its.toArray n } = { cls := .type "list", data := .seq (its.set j u).toArray n } := by
 simp [Obj.mapSeq]
theorem Inv.lst {pins : List (Addr × Obj)} {σ : St} {H : Hp} {s : Shared} {p : Addr} {xs : List V} (I : Inv X pins σ H s) (h : H p = some (.lst xs)) :
  ∃ (its : List Value) (n : Nat), Vals xs its /\ s.heap.get? p = some { cls := .type "list", data := .seq its.toArray n } /\ xs.length <= sizeLine := by
 obtain ⟨z, its, n, r, e⟩ := I.hok p _ h
 exact ⟨its, n, r, e, z⟩
theorem Inv.lstUpd {pins : List (Addr × Obj)} {σ : St} {H : Hp} {s : Shared} {p : Addr} {xs ys : List V} {its its' : List Value} {n n' : Nat} {f : Obj -> Obj} (I : Inv X pins σ H s) (h : H p = some (.lst xs))
  (ho : s.heap.get? p = some { cls := .type "list", data := .seq its.toArray n }) (hf : f { cls := .type "list", data := .seq its.toArray n } = { cls := .type "list", data := .seq its'.toArray n' }) (r : Vals ys its') (hz : ys.length <= sizeLine) (t : Nat) :
  Inv X pins σ (upd H p (.lst ys)) { s with heap := s.heap.update p f, toks := t } := by
 have e : (s.heap.update p f).get? p = some { cls := .type "list", data := .seq its'.toArray n' } := by
  rw [Heap.get?_update_self f ho (by rw [hf] <;> rfl), hf]
 refine I.write (x := p) (e := p) (by rw [h]; trivial) (.inl rfl) (fun b u hb q => (Heap.get?_update_other _ _ (Ne.symm hb)).trans q) ⟨_, e⟩ ?_
 exact ⟨hz, its', n', r, e⟩
def rSetL : V -> V -> V -> Hp -> (Hp -> Prop) -> Prop := fun o i v H Q => ∃ p xs k j, o = .ref p /\ i = .int k /\ H p = some (.lst xs) /\ ixN xs.length k = some j /\ Q (upd H p (.lst (xs.set j v)))
theorem set_list : PSet X rSetL := by
 intro pins s σ H o i v ov iv u Q I ro ri rv h
 obtain ⟨p, xs, k, j, rfl, rfl, hp, hj, q⟩ := h
 cases ro
 obtain ⟨t, rfl⟩ := ri
 obtain ⟨its, n, r, ho, hz⟩ := I.lst hp
 obtain ⟨h1, h2, h3, h4⟩ := ixN_seq hj
 have hl := r.length
 have hn := line63
 have I' : Inv X pins σ (upd H p (.lst (xs.set j v))) { s with heap := s.heap.update p (Obj.mapSeq (·.setIfInBounds j u)) } :=
  I.lstUpd hp ho (mapSeq_set its n j u) (r.set rv j) (by rw [List.length_set]; exact hz) s.toks
 by_cases h0 : 0 <= k
 ·have hk : k.toNat = j := by
   rw [seqIndex_of h0 h4] at h1
   exact Option.some.inj h1
  exact PySem.W.ki_setAt ho h0 (by omega) (by rw [List.size_toArray, <- hl]; exact h4) (by rw [hk]; exact ⟨_, I', q⟩)
 ·have hk : (k + (its.toArray.size : Int)).toNat = j := by
   rw [seqIndex_neg (by omega) h3] at h1
   rw [List.size_toArray, <- hl]
   exact Option.some.inj h1
  exact PySem.W.ki_setBack ho (by omega) (by rw [List.size_toArray, <- hl]; exact h3) (by omega) (by rw [hk]; exact ⟨_, I', q⟩)
theorem slice_bounds (lo hi : Option Int) (n : Nat) : (sliceBounds lo hi none n).1 = ((HT.sIx n 0 lo : Nat) : Int) /\ (sliceBounds lo hi none n).2.1 = ((HT.sIx n n hi : Nat) : Int) /\ (sliceBounds lo hi none n).2.2 = 1 := by
 refine ⟨?_, ?_, rfl⟩
 ·cases lo with
  | none => simp [sliceBounds, HT.sIx]
  | some i =>
   simp only [sliceBounds, HT.sIx, Option.getD_none, show (1 : Int) > 0 by decide, if_true]
   by_cases h : i < 0
   ·simp only [h, if_true] <;> omega
   ·simp only [h, if_false] <;> omega
 ·cases hi with
  | none => simp [sliceBounds, HT.sIx]
  | some i =>
   simp only [sliceBounds, HT.sIx, Option.getD_none, show (1 : Int) > 0 by decide, if_true]
   by_cases h : i < 0
   ·simp only [h, if_true] <;> omega
   ·simp only [h, if_false] <;> omega
theorem slicePick_cut (its : List Value) (lo hi : Option Int) : slicePick its.toArray lo hi none = ((its.drop (HT.sIx its.length 0 lo)).take (HT.sIx its.length its.length hi - HT.sIx its.length 0 lo)).toArray := by
 obtain ⟨h1, h2, h3⟩ := slice_bounds lo hi its.toArray.size
 unfold slicePick
 rw [h1, h2, h3]
 simp only [sliceRange_one, pick_run, List.size_toArray] <;> rfl
def rSlL (K : PySem.W.Frag) : V -> Option Int -> Option Int -> Hp -> VK -> Prop := fun x lo hi H Q => ∃ a xs, x = .ref a /\ SqL K H a xs /\ ∀ p, H p = none -> Q (.ref p) (upd H p (.lst (cutV xs lo hi)))
theorem sl_list : SlR X (rSlL X.K) := by
 intro pins s σ H x v vl vu lo hi sl Q I rx hs pl pu h
 obtain ⟨a, xs, rfl, hx, q⟩ := h
 cases rx
 obtain ⟨its, r, ht, hz⟩ := I.list hx
 have hlen := r.length
 refine ⟨"list", _, slot_list_getitem.lookup, ht.isList.typeIs, ?_⟩
 refine wpAny_getItem_list_slice ht.isList hs pl pu .none (by simp) ?_ (by rw [List.size_toArray] <;> omega)
 rw [slicePick_cut, <- hlen]
 refine ⟨.ref s.heap.objs.size, _, I.laid (t' := s.toks) (o := .lst (cutV xs lo hi)) (fun b ob q => Heap.get?_push_of_some _ q) (Nat.le_refl _) ?_, rfl, q _ (I.hok.fresh (Nat.le_refl _))⟩
 exact ⟨Nat.le_trans (cutV_length xs lo hi) hz, _, 0, (r.drop (HT.sIx xs.length 0 lo)).take (HT.sIx xs.length xs.length hi - HT.sIx xs.length 0 lo), Heap.get?_push_size _ rfl⟩
theorem call_len_seq : CallR X (.builtin "len") (fun xs H Q => ∃ p ys, xs = [.ref p] /\ (SqL X.K H p ys \/ SqT X.K H p ys) /\ Q (.int ys.length) H) := by
 intro pins s σ H xs us Q I r h
 obtain ⟨p, ys, rfl, hq, q⟩ := h
 obtain ⟨u, rfl, rx⟩ := vals1 r
 cases rx
 have hn := line63
 rcases hq with hq | hq
 ·obtain ⟨its, r', pl, hz⟩ := I.list hq
  have hlen := r'.length
  exact Calls.call_len_list pl.isList (by simp only [List.size_toArray] <;> omega) ⟨.int ys.length, H, I.tok _, ⟨s.toks + 1, by rw [List.size_toArray, hlen]⟩, q⟩
 ·obtain ⟨its, r', pl, hz⟩ := I.tuple hq
  have hlen := r'.length
  exact len_tuple pl (by simp only [List.size_toArray] <;> omega) ⟨.int ys.length, H, I.tok _, ⟨s.toks + 1, by rw [List.size_toArray, hlen]⟩, q⟩
theorem call_len_str : CallR X (.builtin "len") (fun xs H Q => ∃ z, xs = [.str z] /\ z.length <= sizeLine /\ Q (.int z.length) H) := by
 intro pins s σ H xs us Q I r h
 obtain ⟨z, rfl, hz, q⟩ := h
 obtain ⟨u, rfl, t, rfl⟩ := vals1 r
 have hn := line63
 exact len_str (by omega) ⟨.int z.length, H, I.tok _, ⟨_, rfl⟩, q⟩
theorem CallR.or {f : Value} {r r' : List V -> Hp -> VK -> Prop} (h : CallR X f r) (h' : CallR X f r') : CallR X f (fun xs H Q => r xs H Q \/ r' xs H Q) := by
 intro pins s σ H xs us Q I rs q
 rcases q with q | q
 ·exact h pins s σ H xs us Q I rs q
 ·exact h' pins s σ H xs us Q I rs q
def tyV (K : PySem.W.Frag) (T : String) (x : V) (H : Hp) : Prop := match x with
 | .str _ => T = "str"
 | .int _ => T = "int"
 | .ref p => (T = "list" /\ ∃ xs, SqL K H p xs) \/ (T = "tuple" /\ ∃ o, K.lookup p = some o /\ o.cls = .type "tuple" /\ o.dict = none) \/
   (T = "dict" /\ ((∃ kvs, H p = some (.dK kvs)) \/ ∃ kvs, H p = some (.dT kvs))) \/ (T = "set" /\ ∃ S n, H p = some (.set S n))
 | _ => False
theorem tyV_is {pins : List (Addr × Obj)} {σ : St} {H : Hp} {s : Shared} {T : String} {x : V} {v : Value} (I : Inv X pins σ H s) (r : RelV x v) (ty : tyV X.K T x H) :
  s.TypeIs v T /\ ∀ a, v = .ref a -> ∃ ob, s.heap.get? a = some ob /\ ob.dict = none := by
 cases x with
 | str z =>
  obtain ⟨t, rfl⟩ := r
  cases (show T = "str" from ty)
  exact ⟨typeIs_str s z t, fun _ e => nomatch e⟩
 | int i =>
  obtain ⟨t, rfl⟩ := r
  cases (show T = "int" from ty)
  exact ⟨typeIs_int s i t, fun _ e => nomatch e⟩
 | ref p =>
  cases r
  rcases ty with ⟨rfl, xs, hq⟩ | ⟨rfl, o, hk, hc, hd⟩ | ⟨rfl, hk⟩ | ⟨rfl, S, n, hk⟩
  ·obtain ⟨its, _, pl, _⟩ := I.list hq
   refine ⟨pl.isList.typeIs, fun a e => ?_⟩
   cases e
   obtain ⟨o, n, e, c, hd, _⟩ := pl
   exact ⟨o, e, hd⟩
  ·refine ⟨⟨o, I.kIn p o hk, hc⟩, fun a e => ?_⟩
   cases e
   exact ⟨o, I.kIn _ o hk, hd⟩
  ·have z : ∃ o, s.heap.get? p = some o /\ o.ExactDict := by
    rcases hk with ⟨kvs, hk⟩ | ⟨kvs, hk⟩
    ·obtain ⟨_, _, _, _, o, _, _, e, ex, _⟩ := I.hok p _ hk
     exact ⟨o, e, ex⟩
    ·obtain ⟨_, _, _, _, o, _, _, e, ex, _⟩ := I.hok p _ hk
     exact ⟨o, e, ex⟩
   obtain ⟨o, e, ex⟩ := z
   refine ⟨⟨o, e, ex.1⟩, fun a e2 => ?_⟩
   cases e2
   exact ⟨o, e, ex.2.1⟩
  ·obtain ⟨o, _, _, _, e, ex, _⟩ := I.hok p _ hk
   refine ⟨⟨o, e, ex.1⟩, fun a e2 => ?_⟩
   cases e2
   exact ⟨o, e, ex.2.1⟩
 | _ => exact False.elim ty
def tBM0 (K : PySem.W.Frag) (T : String) (r : V -> List V -> Hp -> VK -> Prop) (to : TE) : TE := fun σ H Q => to σ H fun x H1 => tyV K T x H1 /\ r x [] H1 Q
def tBM (K : PySem.W.Frag) (T : String) (r : V -> List V -> Hp -> VK -> Prop) (to : TE) (t : TA) : TE := fun σ H Q => to σ H fun x H1 => tyV K T x H1 /\ t σ H1 fun xs H2 => r x xs H2 Q
variable {o e : Expr} {es : List Expr} {to : TE} {t : TA} {name : Str} {apos cpos : Pos} {T id : String} {r : V -> List V -> Hp -> VK -> Prop}
theorem pe_bm0 (pa : PlainAttrs T) (slot : Slot T name id) (hty : typeOf (.builtin id) = pure (.type "method_descriptor")) (hm : MtR X id r) (ho : PE X o to)
  (hbase : attributeBase o name X.env (eval o X.env) = eval o X.env := by rfl) (hline : (apos.endLine == cpos.line) = true := by rfl) : PE X (.Call (.Attribute o name apos) [] [] cpos) (tBM0 X.K T r to) := by
 intro pins s σ H Q I h
 refine wpAny_Call_method0_late hbase hline (thn (ho pins s σ H _ I h) fun v s1 ⟨x, H1, I1, r1, ty, q1⟩ => ?_)
 obtain ⟨h1, h2⟩ := tyV_is I1 r1 ty
 exact ⟨T, id, pa, slot, hty, h1, h2, Calls.callWith_builtin rfl (PySem.evalArgs_none (hm pins s1 σ H1 x [] v [] Q I1 r1 .nil q1))⟩
theorem pe_bm (pa : PlainAttrs T) (slot : Slot T name id) (hty : typeOf (.builtin id) = pure (.type "method_descriptor")) (hm : MtR X id r) (ho : PE X o to) (ha : PA X (e :: es) t)
  (hbase : attributeBase o name X.env (eval o X.env) = eval o X.env := by rfl)
  (hfew : ((backTo cpos (starEach (e :: es) X.env)).all (fun x => !x.1) && (backToKw cpos (keywordEach [] X.env)).all (fun x => x.1.isSome)
   && decide ((e :: es).length + ([] : List Keyword).length + (if ([] : List Keyword).isEmpty then 0 else 1) < 30)) = true := by rfl)
  (hline : (apos.endLine == cpos.line) = true := by rfl) (hs : starEach (e :: es) X.env = (false, eval e X.env) :: starEach es X.env := by rfl) (hplain : (backTo cpos (starEach es X.env)).any (·.1) = false := by rfl) :
  PE X (.Call (.Attribute o name apos) (e :: es) [] cpos) (tBM X.K T r to t) := by
 intro pins s σ H Q I h
 refine wpAny_Call_method_late hbase hfew hline rfl (thn (ho pins s σ H _ I h) fun v s1 ⟨x, H1, I1, r1, ty, q1⟩ => ?_)
 obtain ⟨h1, h2⟩ := tyV_is I1 r1 ty
 refine ⟨T, id, pa, slot, hty, h1, h2, ?_⟩
 have hA := ha cpos pins s1 σ H1 _ I1 q1
 rw [hs] at hA ⊢
 refine Calls.callWith_builtin (by show (false || (backTo cpos (starEach es X.env)).any (·.1)) = false; rw [hplain] <;> rfl) (Calls.evalArgs_plain ?_)
 exact thn hA fun us s2 ⟨vs, H2, I2, r2, q2⟩ => hm pins s2 σ H2 x vs v us Q I2 r1 r2 q2
end
end L2
namespace L2
open PySem PySem.Spec PyProof.Rows
def MtM (X : Cx) (id : String) (r : V -> List V -> Hp -> VK -> Prop) : Prop :=
 ∀ (pins : List (Addr × Obj)) (s : Shared) (σ : St) (H : Hp) (x : V) (xs : List V) (v : Value) (us : List Value) (Q : VK), Inv X pins σ H s -> RelV x v -> Vals xs us -> r x xs H Q ->
  wpAny (model X.prog X.w) X.A (call (.builtin id) (v :: us)) (EP X pins σ Q) X.xe s
theorem Vals.one : ∀ {x : V} {us : List Value}, Vals [x] us -> ∃ u, us = [u] /\ RelV x u
 | _, _, .cons r .nil => ⟨_, rfl, r⟩
theorem Vals.two : ∀ {x y : V} {us : List Value}, Vals [x, y] us -> ∃ u v, us = [u, v] /\ RelV x u /\ RelV y v
 | _, _, _, .cons r (.cons q .nil) => ⟨_, _, rfl, r, q⟩
theorem Vals.zero : ∀ {us : List Value}, Vals [] us -> us = []
 | _, .nil => rfl
theorem Vals.rep {xs : List V} {us : List Value} (h : Vals xs us) : ∀ k : Nat, Vals (List.replicate k xs).flatten (List.replicate k us).flatten
 | 0 => .nil
 | k + 1 => by
  rw [List.replicate_succ, List.replicate_succ, List.flatten_cons, List.flatten_cons]
  exact Vals.append h (Vals.rep h k)
section
variable {X : Cx} {pins : List (Addr × Obj)} {σ : St} {H : Hp} {s : Shared} {l b : Addr} {xs ys zs : List V}
theorem Inv.lset {its its' : List Value} {n : Nat} {f : Array Value -> Array Value} {t' : Nat} (I : Inv X pins σ H s) (hH : H l = some (.lst xs))
  (e : s.heap.get? l = some { cls := .type "list", data := .seq its.toArray n }) (hf : f its.toArray = its'.toArray) (hv : Vals ys its') (hz : ys.length <= sizeLine) :
  Inv X pins σ (upd H l (.lst ys)) { s with heap := s.heap.update l (Obj.mapSeq f), toks := t' } := by
 have q := PySem.IsL.update e f
 rw [hf] at q
 refine I.write (x := l) (e := l) (by rw [hH]; exact trivial) (.inl rfl) (fun b' u hb hu => (Heap.get?_update_other s.heap (Obj.mapSeq f) (Ne.symm hb)).trans hu) ⟨_, q⟩ ?_
 exact ⟨hz, its', _, hv, q⟩
theorem Inv.lnew {its : List Value} {t' : Nat} (I : Inv X pins σ H s) (hv : Vals ys its) (hz : ys.length <= sizeLine) :
  Inv X pins σ (upd H s.heap.objs.size (.lst ys)) { s with heap := s.heap.push { cls := .type "list", data := .seq its.toArray }, toks := t' } :=
 I.laid (fun _ _ q => Heap.get?_push_of_some _ q) (Nat.le_refl _) ⟨hz, its, 0, hv, Heap.get?_push_size _ rfl⟩
theorem Inv.fresh (I : Inv X pins σ H s) : H s.heap.objs.size = none := I.hok.fresh (Nat.le_refl _)
theorem Inv.lstM (I : Inv X pins σ H s) (hH : H l = some (.lst xs)) : xs.length <= sizeLine /\ ∃ (its : List Value) (n : Nat), Vals xs its /\ xs.length = its.length /\ s.heap.get? l = some { cls := .type "list", data := .seq its.toArray n } := by
 obtain ⟨z, its, n, r, e⟩ := I.hok l _ hH
 exact ⟨z, its, n, r, r.length, e⟩
end
section
variable {X : Cx}
def rAppend : V -> List V -> Hp -> VK -> Prop := fun x vs H Q => ∃ l xs y, x = .ref l /\ vs = [y] /\ H l = some (.lst xs) /\ xs.length < sizeLine /\ Q .non (upd H l (.lst (xs ++ [y])))
theorem mt_append : MtM X "list.append" rAppend := by
 intro pins s σ H x vs v us Q I rx rv h
 obtain ⟨l, xs, y, rfl, rfl, hH, hz, q⟩ := h
 cases rx
 obtain ⟨u, rfl, ru⟩ := rv.one
 obtain ⟨z, its, n, r, hl, e⟩ := I.lstM hH
 refine call_meets F.slot_list_append ⟨_, e, rfl⟩ F.entry_list_append (F.args_list_append_2 _ _) (PySem.list_append l its.toArray n u (by rw [List.size_toArray]; omega)) ⟨e, ?_⟩
 refine ⟨.non, _, I.lset (its' := its ++ [u]) hH e (by simp) (r.append (.cons ru .nil)) ?_, rfl, q⟩
 rw [List.length_append, List.length_singleton]
 omega
end
section
variable {prog : Program} {w : World} {A : Around} {E : Value -> Shared -> Prop} {s : Shared}
end
section
variable {X : Cx}
end
end L2
namespace Att
open PySem PySem.W PySem.Calls PyProof.Rows
theorem ints_of_wellAll {P : Params} {h : Heap} : ∀ (ns : List Int) (vs : List Value), WellAll P h vs (ns.map WData.int) -> IntsAre vs ns := by
 intro ns
 induction ns with
 | nil =>
  intro vs w
  rw [List.map_nil] at w
  cases w
  exact .nil
 | cons n ns ih =>
  intro vs w
  rw [List.map_cons] at w
  cases w with
  | cons a b =>
   cases a
   exact .cons _ _ (ih _ b)
theorem script_of {l : OpenLaw} {n : Nat} (hn : l.most = some n) {P : Params} {h : Heap} {args : List WData} {vals : List Value}
  (hpre : l.row.toRowW.claim.pre args = true) (hwl : WellAll P h vals args) :
  ∃ a vs ns, vals = [Value.ref a] /\ args = [WData.list (ns.map WData.int)] /\ h.get? a = some { cls := .type "list", data := .seq vs.toArray } /\ IntsAre vs ns /\ ns.length <= n := by
 have hsh : WShape.hasAll [] args [.list .int] = true := (pre_splitW hpre).1
 have hc : l.pre.holds [] { args := args } = true := (pre_splitW hpre).2
 obtain ⟨d, r, rfl, h1, h2⟩ := hasAllW_cons hsh
 obtain rfl := hasAllW_nil h2
 obtain ⟨xs, rfl, h3⟩ := hasW_list h1
 obtain ⟨ns, rfl⟩ := items_int h3
 have hlen : ns.length <= n := by
  unfold OpenLaw.pre at hc
  have h4 : (WTm.not (.lt (.lit (.int (n : Int))) (.len (.arg 0)))).holds [] { args := [.list (ns.map .int)] } = true := by
   have h4 := (holds_andW hc).1
   rw [hn] at h4
   exact h4
  have h5 := condW_of h4 (w_not (w_lt w_lit (w_len_list (w_arg rfl))))
  rw [List.length_map] at h5
  refine Nat.le_of_not_lt fun q => ?_
  have q' : (n : Int) < ((ns.length : Nat) : Int) := by omega
  first
   | (rw [decide_eq_true q'] at h5; exact absurd h5 (by decide))
   | (simp at h5; omega)
 cases hwl with
 | cons w1 w2 =>
  cases w2
  cases w1 with
  | list ho hall => exact ⟨_, _, ns, rfl, rfl, ho, ints_of_wellAll ns _ hall, hlen⟩
theorem post_true (l : OpenLaw) (args : List WData) : l.row.toRowW.claim.post args (.bool true) args = true :=
 postW_of (r := l.row.toRowW) (X := (true == true))
  (show WShape.has [] (.bool true) .bool = true by first | rfl | decide | simp [WShape.has, WShape.arms, WShape.armsAll])
  (show (WTm.eq .res (.lit (.bool true))).value [] { args := args, res := some (.bool true), after := args } = some (.bool (true == true)) from w_eq_bool (w_res rfl) w_lit) rfl
theorem attach_call {l : OpenLaw} {n : Nat} {q : Program} {loose : List Str} {XP : (Str -> Option Value) -> Heap -> Prop} {YP : World -> Heap -> Prop} {d : DefRec}
  (hn : l.most = some n) (hdf : d.params.defaults = [])
  (call : ∀ (w : World) (s₀ s₁ : Shared) (mg mb : Str -> Option Value) (fa : Addr) (o : Obj) (pm cd doc : Value) (a : Addr) (vs : List Value) (ns : List Int),
   Ground q loose [] XP w s₀ mg mb s₁.heap -> YP w s₁.heap ->
   s₁.heap.get? fa = some o -> o.data = .func (docDef d.name d.params d.body d.scope pm cd doc) -> s₁.heap.CodeRec cd d.name -> mg d.name = some (.ref fa) ->
   s₁.heap.get? a = some { cls := .type "list", data := .seq vs.toArray } -> IntsAre vs ns -> ns.length <= n -> s₁.gens = #[] ->
   codeAny (model l.prog w) callerA (.call (.ref fa) ⟨[.ref a], []⟩) (fun r s' => r = .ok (.ret (.bool true)) /\ OldK s₁.heap s'.heap /\ s'.os = s₁.os /\ AllBare s'.gens) s₁) :
  WalkO q loose XP YP l.row.toRowW d [] (fun f vs => PySem.call f vs) := by
 intro w s₀ s₁ mg mb G Y fa o pm cd doc dV kV ho hd hcd hD hmg hg args vals as hpre hlay hrd hwl hlo
 obtain rfl : dV = .none := Dflts.none hD hdf
 obtain rfl : kV = .none := Dflts.noKw hD
 obtain ⟨a, vs, ns, rfl, rfl, hobj, hints, hlen⟩ := script_of hn hpre hwl
 refine enter_call (codeAny_mono (call w s₀ s₁ mg mb fa o pm cd doc a vs ns G Y ho (fd_plain hd) hcd hmg hobj hints hlen hg) fun r s' hq => ?_)
 obtain ⟨rfl, h2, h3, h4⟩ := hq
 exact ⟨.inl ⟨.bool true, .bool true, [], rfl, fun _ => rfl, .bool true, post_true l _, fun _ => ⟨List.Pairwise.nil, fun _ hm => (nomatch hm)⟩⟩, h2, h3, h4⟩
section
variable {prog : Program} {w : World} {A : Around} {E : Value -> Shared -> Prop} {s : Shared} {K : Frag}
end
end Att
namespace L2
open PySem PySem.Spec PyProof.Rows
theorem vals_ints : ∀ {vs : List Value} {ns : List Int}, IntsAre vs ns -> Vals (ns.map V.int) vs
 | _, _, .nil => .nil
 | _, _, .cons n t h => .cons ⟨t, rfl⟩ (vals_ints h)
def Only (H : Hp) : Prop := ∀ b, H b = none \/ ∃ o xs, H b = some (.frz o (.lst xs))
theorem law_call {P : Program} {w : World} {K : PySem.W.Frag} {mg mb : Str -> Option Value} {CX : CXT} {k : Nat} {fa a : Addr} {fd : FuncData} {x : Str} {sp : Sp} {s₁ : Shared} {vs : List Value} {ns : List Int}
  (KX : K.In s₁.heap) (hns : s₁.heap.Ns mainGlobals mg) (hb : s₁.heap.Ns builtinsNs mb) (hbb : ∀ x : Str, x ≠ "__name__" -> mb x = bootBuiltins x) (hlim : s₁.heap.NoLimit) (hg : s₁.gens = #[])
  (ha : s₁.heap.get? a = some { cls := .type "list", data := .seq vs.toArray }) (hi : IntsAre vs ns) (hl : ns.length <= sizeLine) (hr : Room k callerA)
  (F : ∀ base : Heap, K.In base -> base.Ns mainGlobals mg -> FnOk P w K mg base CX k fa fd [x] sp) (hbind : ∀ (s : Shared) (u : Value), BindsTo s fd ⟨[u], []⟩ [(x, u)])
  (hsp : ∀ H : Hp, Only H -> SqL K H a (ns.map V.int) -> sp [.ref a] H (fun v _ => v = .bl true) fun _ _ _ => False)
  (hCX : ∀ H e s', CX [] H s₁ (fun _ _ _ => False) e s' -> False) :
  codeAny (model P w) callerA (.call (.ref fa) ⟨[.ref a], []⟩) (fun r s' => r = .ok (.ret (.bool true)) /\ OldK s₁.heap s'.heap /\ s'.os = s₁.os /\ AllBare s'.gens) s₁ := by
 have rv := vals_ints hi
 have lenV := hi.length
 have core : ∀ H : Hp, Only H -> SqL K H a (ns.map V.int) -> HOk P w H s₁.heap -> (∀ b, H b ≠ none -> b = a) -> (H a ≠ none -> K.lookup a = none) ->
   codeAny (model P w) callerA (.call (.ref fa) ⟨[.ref a], []⟩) (fun r s' => r = .ok (.ret (.bool true)) /\ OldK s₁.heap s'.heap /\ s'.os = s₁.os /\ AllBare s'.gens) s₁ := by
  intro H hO hS hok hA hK
  have base_of : ∀ {b : Addr} {o : Obj}, s₁.heap.get? b = some o -> H b = none -> (hidT s₁.heap H).get? b = some o := fun e n => hidT_get e n
  have noA : ∀ {b : Addr} {o : Obj} {es : Array DictEntry} {ep : Nat}, s₁.heap.get? b = some o -> o.data = .dict es ep -> H b = none := fun {b o es ep} e d => by
   cases q : H b with
   | none => rfl
   | some u =>
    have e' : b = a := hA b (by rw [q]; simp)
    subst e'
    rw [ha] at e; cases e
    have d' : Data.seq vs.toArray _ = Data.dict es ep := d
    cases d'
  have nsK : ∀ {b : Addr} {m : Str -> Option Value}, s₁.heap.Ns b m -> (hidT s₁.heap H).Ns b m := fun {b m} ⟨o, es, ep, e, d, r⟩ => ⟨o, es, ep, base_of e (noA e d), d, r⟩
  have hKb : K.In (hidT s₁.heap H) := fun b o e => base_of (KX b o e) (by
   cases q : H b with
   | none => rfl
   | some u =>
    have e' : b = a := hA b (by rw [q]; simp)
    subst e'
    rw [hK (by rw [q]; simp)] at e; cases e)
  have hM : Mod K mg (hidT s₁.heap H) := ⟨hKb, nsK hns, ⟨mb, nsK hb, hbb⟩, let ⟨mc, h1, h2⟩ := hlim; ⟨mc, nsK h1, h2⟩⟩
  have e0 : Env0 P w K mg (hidT s₁.heap H) callerA [] s₁ H := ⟨rfl, hM, fun b o e => of_hidT e, Nat.le_of_eq (hidT_size _ _), trivial, fun b hb => absurd (show b ∈ ([] : List Addr) from hb) (by simp), hok, .of_eq hg⟩
  refine codeAny_mono ((F _ hKb (nsK hns)).run callerA [] s₁ H ⟨[.ref a], []⟩ [.ref a] [.ref a] _ _ hr e0 (hbind s₁ (.ref a)) (.cons rfl .nil) (hsp H hO hS)) fun r s' h => ?_
  cases r with
  | error e => exact (hCX H e s' h).elim
  | ok fl =>
   cases fl with
   | next => exact False.elim h
   | brk => exact False.elim h
   | cont => exact False.elim h
   | ret u =>
    obtain ⟨v, H', os, bare, un, hok', r', q⟩ := h
    have q' : v = .bl true := q
    subst q'
    obtain rfl : u = Value.bool true := r'
    refine ⟨rfl, OldK.of_keep fun b o e => ?_, os, bare⟩
    cases q : H b with
    | none => exact un.keep b o e q (by intro z; exact absurd (show b ∈ ([] : List Addr) from z) (by simp)) (by simp)
    | some u =>
     rcases hO b with z | ⟨ob, xs, z⟩
     ·rw [q] at z; cases z
     ·have z2 := un.frzs b ob _ z
      obtain ⟨e1, _⟩ := hok b _ z
      obtain ⟨e2, _⟩ := hok' b _ z2
      rw [e] at e1; cases e1
      exact e2
 cases hk : K.lookup a with
 | some o =>
  have e := KX a o hk
  rw [ha] at e
  cases e
  refine core (fun _ => none) (fun _ => .inl rfl) (.inr ⟨_, vs.toArray, _, hk, rfl, rfl, rfl, by rw [List.size_toArray, lenV]; exact hl, by simpa using rv⟩) (fun b u z => by have z' : (none : Option HO) = some u := z; cases z') (fun b z => absurd rfl z) fun z => absurd rfl z
 | none =>
  refine core (fun b => if b = a then some (.frz { cls := .type "list", data := .seq vs.toArray } (.lst (ns.map V.int))) else none) (fun b => ?_) (.inl (.inr ⟨{ cls := .type "list", data := .seq vs.toArray }, if_pos rfl⟩)) (fun b u z => ?_) (fun b z => ?_) fun _ => hk
  ·by_cases hb : b = a
   ·exact .inr ⟨_, _, if_pos hb⟩
   ·exact .inl (if_neg hb)
  ·by_cases hb : b = a
   ·have z' := (if_pos hb).symm.trans z
    cases z'
    subst hb
    exact ⟨ha, by rw [List.length_map]; exact hl, vs, _, rv, ha⟩
   ·have z' := (if_neg hb).symm.trans z
    cases z'
  ·by_cases hb : b = a
   ·exact hb
   ·exact absurd (if_neg hb) z
end L2
namespace L2
open PySem PySem.Spec PyProof.Rows
theorem walk_of {l : PySem.W.OpenLaw} {n k : Nat} {q : Program} {loose : List Str} {XP : (Str -> Option Value) -> Heap -> Prop} {YP : World -> Heap -> Prop} {d : DefRec} {K : Params -> PySem.W.Frag} {CX : World -> CXT} {sp : World -> Sp} {x : Str}
  (hn : l.most = some n) (hn2 : n <= sizeLine) (hdf : d.params.defaults = []) (hr : Room k callerA)
  (hY : ∀ (w : World) (h : Heap), YP w h -> (K w.params).In h)
  (F : ∀ (w : World) (mg : Str -> Option Value) (fa : Addr) (h : Heap), (K w.params).In h -> h.Ns mainGlobals mg -> mg d.name = some (.ref fa) ->
   ∃ fd : FuncData, (∀ (s : Shared) (u : Value), BindsTo s fd ⟨[u], []⟩ [(x, u)]) /\
    ∀ base : Heap, (K w.params).In base -> base.Ns mainGlobals mg -> FnOk l.prog w (K w.params) mg base (CX w) k fa fd [x] (sp w))
  (hsp : ∀ (w : World) (H : Hp) (a : Addr) (ns : List Int), ns.length <= n -> Only H -> SqL (K w.params) H a (ns.map V.int) -> sp w [.ref a] H (fun v _ => v = .bl true) fun _ _ _ => False)
  (hCX : ∀ (w : World) (H : Hp) (s : Shared) (e : Value) (s' : Shared), CX w [] H s (fun _ _ _ => False) e s' -> False) :
  PySem.W.WalkO q loose XP YP l.row.toRowW d [] (fun f vs => PySem.call f vs) := by
 refine Att.attach_call hn hdf fun w s₀ s₁ mg mb fa o pm cd doc a vs ns G Y ho hd hcd hmg hobj hints hlen hg => ?_
 have KX := hY w _ Y
 obtain ⟨fd, hb, hF⟩ := F w mg fa _ KX G.T.g hmg
 exact law_call KX G.T.g G.T.b G.T.builtins G.T.nolimit hg hobj hints (Nat.le_trans hlen hn2) hr hF hb (fun H hO hS => hsp w H a ns hlen hO hS) fun H e s' => hCX w H s₁ e s'
end L2
namespace L2
open PySem PySem.Spec PyProof.Rows
def defArgs (s : Stmt) : Arguments := match s with
 | .FunctionDef _ a _ _ _ _ _ _ _ _ => a
 | _ => { posonlyargs := [], args := [], vararg := none, kwonlyargs := [], kw_defaults := [], kwarg := none, defaults := [] }
def defBody (s : Stmt) : List Stmt := match s with
 | .FunctionDef _ _ b _ _ _ _ _ _ _ => b
 | _ => []
def defScope (s : Stmt) : Scope := match s with
 | .FunctionDef _ _ _ _ _ _ sc _ _ _ => sc
 | _ => { kind := .function, names := [], isGenerator := false, isCoroutine := false }
abbrev CX0 : CXT := fun _ _ _ _ _ _ => False
abbrev E0 : XK := fun _ _ _ => False
theorem pass0 {X : Cx} : Passes CX0 X E0 := fun _ _ _ _ _ _ _ h => h.elim
structure Fun (K : PySem.W.Frag) (x qual : Str) (st : Stmt) (f : Addr) (fd : FuncData) : Prop where
 ex : ∃ (oc : Value) (od : Option Addr) (kV doc pm : Value) (an : Option Addr) (cdv ct : Value) (osl : Array (Option Value)),
  fd = PySem.W.fnOf x qual (defArgs st) (defBody st) (defScope st) .none kV doc pm an cdv ct /\ K.lookup f = some ⟨oc, od, .func fd, osl⟩ /\ PySem.W.codeIn K cdv qual = true
 kp : PySem.W.keepIn K (.ref f) = true
section
variable {P : Program} {w : World} {K : PySem.W.Frag} {mg : Str -> Option Value} {base : Heap}
theorem Fun.ok {x qual : Str} {st : Stmt} {f : Addr} {fd : FuncData} {N ps : List Str} {k : Nat} {sp : Sp} (F : Fun K x qual st f fd) (S : FnScope N ps (defScope st)) (len : ∀ vs H Q E, sp vs H Q E -> vs.length = ps.length)
  (hbody : ∀ (cdv : Value) (A : Around) (outer : List Env) (s : Shared) (H : Hp) (vs : List V) (Q : VK) (E : XK), Room k (A.deeper (envOfC qual (defScope st) s.heap.objs.size f cdv)) -> sp vs H Q E ->
   ∃ t, PSs (cxOf CX0 P w K mg base N qual (defScope st) f cdv A outer s H E).nox (defBody st) t /\ t { nx := fun _ H' => Q .non H', rt := Q } (start N vs) H) : FnOk P w K mg base CX0 (k + 1) f fd ps sp := by
 obtain ⟨oc, od, kV, doc, pm, an, cdv, ct, osl, rfl, lk, hcd⟩ := F.ex
 refine fn_of lk hcd S len fun A outer s H vs Q E hr hsp => ?_
 obtain ⟨t, h, q⟩ := hbody cdv A outer s H vs Q E hr hsp
 exact ⟨t, h.nox, q⟩
theorem Fun.binds {x qual : Str} {st : Stmt} {f : Addr} {fd : FuncData} {ps : List Str} (F : Fun K x qual st f fd)
  (h : ∀ (kV doc pm : Value) (an : Option Addr) (cdv ct : Value) (us : List Value), us.length = ps.length -> bindArgs (PySem.W.fnOf x qual (defArgs st) (defBody st) (defScope st) .none kV doc pm an cdv ct) ⟨us, []⟩ = pure (ps.zip us)) : Binds K fd ps [] := by
 obtain ⟨oc, od, kV, doc, pm, an, cdv, ct, osl, rfl, lk, hcd⟩ := F.ex
 exact .all (h kV doc pm an cdv ct)
theorem fun_mk {x qual : Str} {st : Stmt} {f : Addr} {oc : Value} {od an : Option Addr} {osl : Array (Option Value)} {kV doc pm cdv ct : Value} (l : K.lookup f = some ⟨oc, od, .func (PySem.W.fnOf x qual (defArgs st) (defBody st) (defScope st) .none kV doc pm an cdv ct), osl⟩)
  (c : PySem.W.codeIn K cdv qual = true) (k : PySem.W.keepIn K (.ref f) = true) : Fun K x qual st f (PySem.W.fnOf x qual (defArgs st) (defBody st) (defScope st) .none kV doc pm an cdv ct) := ⟨⟨oc, od, kV, doc, pm, an, cdv, ct, osl, rfl, l, c⟩, k⟩
end
section
variable {X : Cx}
end
def Same (H H' : Hp) : Prop := ∀ b o, H b = some o -> H' b = some o
theorem Same.refl (H : Hp) : Same H H := fun _ _ h => h
theorem Same.trans {H H1 H2 : Hp} (a : Same H H1) (b : Same H1 H2) : Same H H2 := fun c o h => b c o (a c o h)
theorem Same.free {H H' : Hp} (e : Same H H') {l : Addr} (h : H' l = Option.none) : H l = Option.none := by
 cases q : H l with
 | none => rfl
 | some o =>
  rw [e l o q] at h
  cases h
theorem Same.seq {K : PySem.W.Frag} {H H' : Hp} {a : Addr} {xs : List V} (e : Same H H') (h : SqL K H a xs) : SqL K H' a xs := by
 rcases h with (h | ⟨o, h⟩) | h
 ·exact .inl (.inl (e _ _ h))
 ·exact .inl (.inr ⟨o, e _ _ h⟩)
 ·exact .inr h
end L2
namespace L2
open PySem PySem.Spec PyProof.Rows
section
variable {κ : Type} [DecidableEq κ]
def valV (kvs : List (κ × V)) (k : κ) : Option V := (kvs.find? fun kv => decide (kv.1 = k)).map (·.2)
def putK (kvs : List (κ × V)) (k : κ) (v : V) : List (κ × V) :=
 if (kvs.any fun kv => decide (kv.1 = k)) = true then kvs.map (fun kv => if kv.1 = k then (kv.1, v) else kv) else kvs ++ [(k, v)]
def dropK (kvs : List (κ × V)) (k : κ) : List (κ × V) := kvs.filter fun kv => decide (kv.1 ≠ k)
theorem valV_pos {p : κ × V} {r : List (κ × V)} {k : κ} (e : p.1 = k) : valV (p :: r) k = some p.2 := by simp [valV, List.find?_cons, e]
theorem valV_neg {p : κ × V} {r : List (κ × V)} {k : κ} (e : ¬ p.1 = k) : valV (p :: r) k = valV r k := by simp [valV, List.find?_cons, e]
theorem valV_any (k : κ) : ∀ kvs : List (κ × V), (kvs.any fun kv => decide (kv.1 = k)) = (valV kvs k).isSome
 | [] => rfl
 | p :: r => by
  rw [List.any_cons]
  by_cases e : p.1 = k
  ·simp only [valV_pos e, decide_eq_true e, Bool.true_or, Option.isSome_some]
  ·rw [valV_neg e, decide_eq_false e, Bool.false_or]; exact valV_any k r
theorem length_putK (kvs : List (κ × V)) (k : κ) (v : V) : (putK kvs k v).length <= kvs.length + 1 := by
 unfold putK
 split
 ·rw [List.length_map]; omega
 ·rw [List.length_append, List.length_cons, List.length_nil]; omega
theorem RelO.isSome_eq {o : Option V} {u : Option Value} (r : RelO o u) : o.isSome = u.isSome := by
 cases o with
 | none => cases u with
  | none => rfl
  | some _ => exact (show False from r).elim
 | some _ => cases u with
  | none => exact (show False from r).elim
  | some _ => rfl
theorem RelO.getD {o : Option V} {u : Option Value} {d : V} {d' : Value} (r : RelO o u) (rd : RelV d d') : RelV (o.getD d) (u.getD d') := by
 cases o with
 | none => cases u with
  | none => exact rd
  | some _ => exact (show False from r).elim
 | some _ => cases u with
  | none => exact (show False from r).elim
  | some _ => exact r
theorem KV.val {kvs : List (κ × V)} {vs : List (κ × Value)} (r : KV kvs vs) (k : κ) : RelO (valV kvs k) (valueAt vs k) := by
 unfold KV at r
 induction r with
 | nil => exact True.intro
 | @cons p q ps qs h t ih =>
  obtain ⟨h1, h2⟩ := h
  by_cases e : p.1 = k
  ·have e' : q.1 = k := h1.symm.trans e
   have b : valueAt (q :: qs) k = some q.2 := by simp [valueAt, List.find?_cons, e']
   rw [valV_pos e, b]; exact h2
  ·have e' : ¬ q.1 = k := fun z => e (h1.trans z)
   have b : valueAt (q :: qs) k = valueAt qs k := by simp [valueAt, List.find?_cons, e']
   rw [valV_neg e, b]; exact ih
theorem KV.any {kvs : List (κ × V)} {vs : List (κ × Value)} (r : KV kvs vs) (k : κ) : (kvs.any fun kv => decide (kv.1 = k)) = vs.any fun kv => decide (kv.1 = k) := by
 unfold KV at r
 induction r with
 | nil => rfl
 | cons h t ih => rw [List.any_cons, List.any_cons, ih, h.1]
theorem KV.repl {kvs : List (κ × V)} {vs : List (κ × Value)} (r : KV kvs vs) (k : κ) {y : V} {u : Value} (ry : RelV y u) :
  KV (kvs.map fun kv => if kv.1 = k then (kv.1, y) else kv) (vs.map fun kv => if kv.1 = k then (kv.1, u) else kv) := by
 unfold KV at r ⊢
 induction r with
 | nil => exact .nil
 | @cons p q ps qs h t ih =>
  rw [List.map_cons, List.map_cons]
  refine .cons ?_ ih
  obtain ⟨h1, h2⟩ := h
  by_cases e : p.1 = k
  ·rw [if_pos e, if_pos (h1.symm.trans e)]; exact ⟨h1, ry⟩
  ·rw [if_neg e, if_neg (fun z => e (h1.trans z))]; exact ⟨h1, h2⟩
theorem KV.put {kvs : List (κ × V)} {vs : List (κ × Value)} (r : KV kvs vs) (k : κ) {y : V} {u : Value} (ry : RelV y u) : KV (putK kvs k y) (stored vs k u) := by
 unfold putK stored
 rw [r.any k]
 by_cases e : (vs.any fun kv => decide (kv.1 = k)) = true
 ·rw [if_pos e, if_pos e]; exact r.repl k ry
 ·rw [if_neg e, if_neg e]; exact Paired.snoc r ⟨rfl, ry⟩
theorem KV.drop {kvs : List (κ × V)} {vs : List (κ × Value)} (r : KV kvs vs) (k : κ) : KV (dropK kvs k) (without vs k) := by
 unfold KV at r ⊢
 unfold dropK without
 induction r with
 | nil => exact .nil
 | @cons p q ps qs h t ih =>
  obtain ⟨h1, h2⟩ := h
  rw [List.filter_cons, List.filter_cons]
  by_cases e : p.1 = k
  ·have a : ¬ decide (p.1 ≠ k) = true := by simp [e]
   have b : ¬ decide (q.1 ≠ k) = true := by simp [h1.symm.trans e]
   rw [if_neg a, if_neg b]; exact ih
  ·have e' : ¬ q.1 = k := fun z => e (h1.trans z)
   have a : decide (p.1 ≠ k) = true := by simp [e]
   have b : decide (q.1 ≠ k) = true := by simp [e']
   rw [if_pos a, if_pos b]; exact .cons ⟨h1, h2⟩ ih
theorem KV.length {kvs : List (κ × V)} {vs : List (κ × Value)} (r : KV kvs vs) : kvs.length = vs.length := Paired.length r
end
theorem kV_is {P : Program} {w : World} {k : Key} {u : Value} (r : RelV (kV k) u) : (mixKind P w).is k u = true := by
 cases k with
 | inl i => obtain ⟨t, e⟩ := (show ∃ t, u = Value.int i t from r); subst e; exact mixKind_int P w i t
 | inr x => obtain ⟨t, e⟩ := (show ∃ t, u = Value.str x t from r); subst e; exact mixKind_str P w x t
theorem items_are {P : Program} {w : World} : ∀ {ks : List Key} {us : List Value}, Vals (ks.map kV) us -> ItemsAre (mixKind P w) ks us
 | [], _, r => by rw [List.map_nil] at r; cases r; exact .nil
 | k :: ks, _, r => by
  rw [List.map_cons] at r
  cases r with
  | cons h t => exact .cons (kV_is h) (items_are t)
abbrev KT (H : Hp) : List (List Key × V) -> List (List Key × Addr × Value) -> Prop := Paired fun p q => p.1 = q.1 /\ H q.2.1 = some (.tup (p.1.map kV)) /\ RelV p.2 q.2.2
theorem KT.val {H : Hp} {kvs : List (List Key × V)} {xs : List (List Key × Addr × Value)} (r : KT H kvs xs) (k : List Key) : RelO (valV kvs k) ((atKey xs k).map (·.2)) := by
 induction r with
 | nil => exact True.intro
 | @cons p q ps qs h t ih =>
  obtain ⟨h1, _, h2⟩ := h
  by_cases e : p.1 = k
  ·have e' : q.1 = k := h1.symm.trans e
   have b : atKey (q :: qs) k = some q.2 := by simp [atKey, List.find?_cons, e']
   rw [valV_pos e, b]; exact h2
  ·have e' : ¬ q.1 = k := fun z => e (h1.trans z)
   have b : atKey (q :: qs) k = atKey qs k := by simp [atKey, List.find?_cons, e']
   rw [valV_neg e, b]; exact ih
theorem KT.repl {H : Hp} {kvs : List (List Key × V)} {xs : List (List Key × Addr × Value)} (r : KT H kvs xs) (k : List Key) {y : V} {u : Value} (ry : RelV y u) :
  KT H (kvs.map fun kv => if kv.1 = k then (kv.1, y) else kv) (xs.map (putAt k u)) := by
 induction r with
 | nil => exact .nil
 | @cons p q ps qs h t ih =>
  rw [List.map_cons, List.map_cons]
  refine .cons ?_ ih
  obtain ⟨h1, h2, h3⟩ := h
  unfold putAt
  by_cases e : p.1 = k
  ·rw [if_pos e, if_pos (h1.symm.trans e)]; exact ⟨h1, h2, ry⟩
  ·rw [if_neg e, if_neg (fun z => e (h1.trans z))]; exact ⟨h1, h2, h3⟩
theorem KT.put {H : Hp} {kvs : List (List Key × V)} {xs : List (List Key × Addr × Value)} (r : KT H kvs xs) (k : List Key) {b : Addr} {y : V} {u : Value} (hb : H b = some (.tup (k.map kV))) (ry : RelV y u) :
  KT H (putK kvs k y) (storedH xs k b u) := by
 have e : (kvs.any fun kv => decide (kv.1 = k)) = (atKey xs k).isSome := by
  rw [valV_any, (r.val k).isSome_eq, Option.isSome_map]
 unfold putK storedH
 rw [e]
 by_cases q : (atKey xs k).isSome = true
 ·rw [if_pos q, if_pos q]; exact r.repl k ry
 ·rw [if_neg q, if_neg q]; exact Paired.snoc r ⟨rfl, hb, ry⟩
theorem KT.keeps {H H' : Hp} {kvs : List (List Key × V)} {xs : List (List Key × Addr × Value)} (r : KT H kvs xs) (ht : ∀ b ys, H b = some (.tup ys) -> H' b = some (.tup ys)) : KT H' kvs xs :=
 Paired.mapP r fun _ _ z => ⟨z.1, ht _ _ z.2.1, z.2.2⟩
section
variable {P : Program} {w : World} {H : Hp} {h : Heap} {a : Addr}
theorem rd_of {u : HO} (ok : HOk P w H h) (e : Rd H a u) : ObjOk P w H h a u := e.ok ok
theorem dk_rd {kvs : List (Key × V)} (ok : HOk P w H h) (e : Rd H a (.dK kvs)) : kvs.length <= sizeLine /\ (a == sysModules) = false /\ ∃ vs, KV kvs vs /\ h.DictOf (mixKind P w) a vs :=
 show ObjOk P w H h a (.dK kvs) from rd_of ok e
theorem dk_of {kvs : List (Key × V)} (ok : HOk P w H h) (e : H a = some (.dK kvs)) : kvs.length <= sizeLine /\ (a == sysModules) = false /\ ∃ vs, KV kvs vs /\ h.DictOf (mixKind P w) a vs := dk_rd ok (.inl e)
theorem key_of {ks : List Key} (ok : HOk P w H h) (e : H a = some (.tup (ks.map kV))) : (tupleKind (mixKind P w)).is h ks a := by
 obtain ⟨_, its, r, o, h1, h2, n, h3⟩ := (show ObjOk P w H h a (.tup (ks.map kV)) from ok a _ e)
 exact ⟨o, its.toArray, n, h1, h2, h3, by simpa using items_are r⟩
theorem dt_rd {kvs : List (List Key × V)} (ok : HOk P w H h) (e : Rd H a (.dT kvs)) : kvs.length <= sizeLine /\ (a == sysModules) = false /\
  ∃ xs, KT H kvs xs /\ h.DictOfH (tupleKind (mixKind P w)) a xs := by
 obtain ⟨z, y, xs, r, o, es, ep, h1, h2, h3, h4, h5⟩ := (show ObjOk P w H h a (.dT kvs) from rd_of ok e)
 refine ⟨z, y, xs, r, o, es, ep, h1, h2, h3, h4, fun x hx => ?_, h5⟩
 have all : ∀ {l : List (List Key × V)} {m : List (List Key × Addr × Value)}, KT H l m -> ∀ x ∈ m, (tupleKind (mixKind P w)).is h x.1 x.2.1 := by
  intro l m q
  induction q with
  | nil => intro x hx; exact nomatch hx
  | @cons p q ps qs hq t ih =>
   intro x hx
   rcases List.mem_cons.mp hx with e | hx
   ·subst e
    exact key_of ok (by rw [<- hq.1]; exact hq.2.1)
   ·exact ih x hx
 exact all r x hx
theorem dt_of {kvs : List (List Key × V)} (ok : HOk P w H h) (e : H a = some (.dT kvs)) : kvs.length <= sizeLine /\ (a == sysModules) = false /\
  ∃ xs, KT H kvs xs /\ h.DictOfH (tupleKind (mixKind P w)) a xs := dt_rd ok (.inl e)
end
def DGet (H : Hp) (a : Addr) (y : V) (r : Option V) : Prop :=
 (∃ kvs k, Rd H a (.dK kvs) /\ y = kV k /\ r = valV kvs k) \/ ∃ kvs k b, Rd H a (.dT kvs) /\ y = .ref b /\ H b = some (.tup (k.map kV)) /\ r = valV kvs k
def DPut (H : Hp) (a : Addr) (y v : V) (H' : Hp) : Prop :=
 (∃ kvs k, H a = some (.dK kvs) /\ y = kV k /\ kvs.length < sizeLine /\ H' = upd H a (.dK (putK kvs k v))) \/
 ∃ kvs k b, H a = some (.dT kvs) /\ y = .ref b /\ H b = some (.tup (k.map kV)) /\ kvs.length < sizeLine /\ H' = upd H a (.dT (putK kvs k v))
theorem DGet.k {H : Hp} {a : Addr} {kvs : List (Key × V)} {k : Key} (e : H a = some (.dK kvs)) : DGet H a (kV k) (valV kvs k) := .inl ⟨kvs, k, .inl e, rfl, rfl⟩
theorem DGet.t {H : Hp} {a b : Addr} {kvs : List (List Key × V)} {k : List Key} (e : H a = some (.dT kvs)) (eb : H b = some (.tup (k.map kV))) : DGet H a (.ref b) (valV kvs k) := .inr ⟨kvs, k, b, .inl e, rfl, eb, rfl⟩
theorem DPut.k {H : Hp} {a : Addr} {kvs : List (Key × V)} {k : Key} {v : V} (e : H a = some (.dK kvs)) (hl : kvs.length < sizeLine) : DPut H a (kV k) v (upd H a (.dK (putK kvs k v))) := .inl ⟨kvs, k, e, rfl, hl, rfl⟩
theorem DPut.t {H : Hp} {a b : Addr} {kvs : List (List Key × V)} {k : List Key} {v : V} (e : H a = some (.dT kvs)) (eb : H b = some (.tup (k.map kV))) (hl : kvs.length < sizeLine) :
  DPut H a (.ref b) v (upd H a (.dT (putK kvs k v))) := .inr ⟨kvs, k, b, e, rfl, eb, hl, rfl⟩
section
variable {X : Cx} {pins : List (Addr × Obj)} {σ : St} {H : Hp} {s : Shared} {a : Addr} {y v : V} {u r : Value} {o : Option V} {A : Around} {E : Value -> Shared -> Prop}
theorem Inv.big (I : Inv X pins σ H s) : sysModules < s.heap.objs.size := by
 have h : mainGlobals < s.heap.objs.size := (I.mod.glob.keeps I.bk).lt
 exact Nat.lt_trans (by decide) h
theorem d_getItem {Q : Value -> Shared -> Prop} (hu : A.units + 1 < cLine) (I : Inv X pins σ H s) (g : DGet H a y (some v)) (ry : RelV y u) (h : ∀ w' s', Inv X pins σ H s' -> RelV v w' -> Q w' s') :
  wpAny (model X.prog X.w) A (getItem (.ref a) u) Q E s := by
 rcases g with ⟨kvs, k, e, ey, l⟩ | ⟨kvs, k, b, e, ey, eb, l⟩
 ·subst ey
  obtain ⟨z, hd, vs, rel, dd⟩ := dk_rd I.hok e
  obtain ⟨w', hw, rw'⟩ := RelO.some_of (v := v) (o := valueAt vs k) (by rw [l]; exact rel.val k)
  exact wpAny_getItem_of (kV_is ry) dd.mapOf hw (h w' _ (I.tok _) rw')
 ·subst ey
  cases (show u = Value.ref b from ry)
  obtain ⟨z, hd, xs, rel, dd⟩ := dt_rd I.hok e
  obtain ⟨w', hw, rw'⟩ := RelO.some_of (v := v) (o := (atKey xs k).map (·.2)) (by rw [l]; exact rel.val k)
  obtain ⟨p, hp, hp2⟩ := Option.map_eq_some_iff.mp hw
  refine wpAny_getItem_heap (tupleKind_room_in1 hu) (key_of I.hok eb) dd hp ?_
  rw [hp2]
  exact h w' _ (I.tok _) rw'
theorem d_in {Q : Value -> Shared -> Prop} (hu : A.units + 1 < cLine) (I : Inv X pins σ H s) (g : DGet H a y o) (ry : RelV y u) (h : ∀ s', Inv X pins σ H s' -> Q (.bool o.isSome) s') :
  wpAny (model X.prog X.w) A (compareOp .In u (.ref a)) Q E s := by
 rcases g with ⟨kvs, k, e, ey, l⟩ | ⟨kvs, k, b, e, ey, eb, l⟩
 ·subst ey
  obtain ⟨z, hd, vs, rel, dd⟩ := dk_rd I.hok e
  refine wpAny_in_of (kV_is ry) hd dd.mapOf ?_
  rw [<- (rel.val k).isSome_eq, <- l]
  exact h _ (I.tok _)
 ·subst ey
  cases (show u = Value.ref b from ry)
  obtain ⟨z, hd, xs, rel, dd⟩ := dt_rd I.hok e
  refine wpAny_in_heap (tupleKind_room_in1 hu) (key_of I.hok eb) hd dd ?_
  have q := (rel.val k).isSome_eq
  rw [Option.isSome_map] at q
  rw [<- q, <- l]
  exact h _ (I.tok _)
theorem d_write {h' : Heap} {t' : Nat} {ob : HO} (I : Inv X pins σ H s) (mu : Mut (H a)) (hs : Heap.SameBut a s.heap h') (he : ∃ q, h'.get? a = some q) (new : ObjOk X.prog X.w (upd H a ob) h' a ob) :
  Inv X pins σ (upd H a ob) { s with heap := h', toks := t' } :=
 I.write (x := a) (e := a) mu (.inl rfl) (fun b q hb z => (hs.2 b hb).trans z) he new
theorem dk_new {P : Program} {w : World} {H' : Hp} {h' : Heap} {kvs : List (Key × V)} {vs : List (Key × Value)} (z : kvs.length <= sizeLine) (hd : (a == sysModules) = false) (rel : KV kvs vs) (dd : h'.DictOf (mixKind P w) a vs) :
  ObjOk P w H' h' a (.dK kvs) := ⟨z, hd, vs, rel, dd⟩
theorem d_setItem {H' : Hp} {Q : Unit -> Shared -> Prop} (hu : A.units + 1 < cLine) (I : Inv X pins σ H s) (g : DPut H a y v H') (ry : RelV y u) (rv : RelV v r) (h : ∀ s', Inv X pins σ H' s' -> Q () s') :
  wpAny (model X.prog X.w) A (setItem (.ref a) u r) Q E s := by
 rcases g with ⟨kvs, k, e, ey, l, eH⟩ | ⟨kvs, k, b, e, ey, eb, l, eH⟩
 ·subst ey eH
  obtain ⟨z, hd, vs, rel, dd⟩ := dk_of I.hok e
  have hz : vs.length <= sizeLine := by rw [<- rel.length]; exact z
  have hl : (putK kvs k v).length <= sizeLine := by have := length_putK kvs k v; omega
  refine wpAny_setItem_pairs (hsz := hz) (kV_is ry) dd fun h' dd' hs => h _ ?_
  have he : ∃ q, h'.get? a = some q := let ⟨q, _, _, hq, _⟩ := dd'; ⟨q, hq⟩
  exact d_write I (by rw [e]; exact True.intro) hs he (dk_new hl hd (rel.put k rv) dd')
 ·subst ey eH
  cases (show u = Value.ref b from ry)
  obtain ⟨z, hd, xs, rel, dd⟩ := dt_of I.hok e
  have hz : xs.length <= sizeLine := by rw [<- Paired.length rel]; exact z
  have hl : (putK kvs k v).length <= sizeLine := by have := length_putK kvs k v; omega
  refine wpAny_setItem_heap (hsz := hz) (tupleKind_room_in1 hu) (key_of I.hok eb) dd fun h' dd' hs => h _ ?_
  obtain ⟨q, es, ep, hq, h2, h3, h4, _, h5⟩ := dd'
  refine d_write I (by rw [e]; exact True.intro) hs ⟨q, hq⟩ ⟨hl, hd, _, (rel.put k eb rv).keeps fun c ys ec => ?_, q, es, ep, hq, h2, h3, h4, h5⟩
  rw [upd_ne (ne_of ec e (fun z => nomatch z))]
  exact ec
end
section
variable {X : Cx} {pins : List (Addr × Obj)} {σ : St} {H : Hp} {s : Shared} {a : Addr} {kvs : List (Key × V)} {k : Key} {u : Value} {A : Around} {E : Value -> Shared -> Prop}
theorem d_len {Q : Value -> Shared -> Prop} (I : Inv X pins σ H s) (e : Rd H a (.dK kvs)) (h : ∀ t s', Inv X pins σ H s' -> Q (.int kvs.length t) s') : wpAny (model X.prog X.w) A (call (.builtin "len") [.ref a]) Q E s := by
 obtain ⟨z, hd, vs, rel, dd⟩ := dk_rd I.hok e
 refine call_len_dict hd dd (by rw [<- rel.length]; rw [sizeLine_eq] at z; omega) ?_
 rw [<- rel.length]
 exact h _ _ (I.tok _)
end
theorem dict_typeIs {X : Cx} {pins : List (Addr × Obj)} {σ : St} {H : Hp} {s : Shared} {a : Addr} {y : V} {o : Option V} (I : Inv X pins σ H s) (g : DGet H a y o) : s.TypeIs (.ref a) "dict" := by
 rcases g with ⟨kvs, k, e, _, _⟩ | ⟨kvs, k, b, e, _, _, _⟩
 ·obtain ⟨_, _, vs, _, dd⟩ := dk_rd I.hok e
  exact dd.typeIs
 ·obtain ⟨_, _, xs, _, dd⟩ := dt_rd I.hok e
  exact dd.typeIs
def sDPut (td ty tv : TE) : TS := fun D σ H => tv σ H fun v H1 => td σ H1 fun x H2 => ty σ H2 fun y H3 => ∃ a H4, x = .ref a /\ DPut H3 a y v H4 /\ D.nx σ H4
section
variable {X : Cx} {o i e value : Expr} {pos pos' tpos : Pos} {td ty tv : TE}
end
theorem dk_empty {P : Program} {w : World} {H : Hp} (h : Heap) (hb : sysModules < h.objs.size) : ObjOk P w H (h.push { cls := .type "dict", data := .dict #[] }) h.objs.size (.dK []) :=
 ⟨Nat.zero_le _, beq_eq_false_iff_ne.mpr (Ne.symm (Nat.ne_of_lt hb)), [], .nil, Heap.DictOf.new h⟩
def tDNewK : TE := fun _ H Q => ∀ p, H p = none -> Q (.ref p) (upd H p (.dK []))
section
variable {X : Cx} {pos : Pos}
theorem pe_dnewK : PE X (.Dict [] [] pos) tDNewK := fun pins s σ H Q I h =>
 wpAny_Dict_empty ⟨.ref s.heap.objs.size, _, I.laid (a := s.heap.objs.size) (o := .dK []) (t' := s.toks) (fun _ _ q => Heap.get?_push_of_some _ q) (Nat.le_refl _) (dk_empty s.heap I.big), rfl, h _ (I.hok.fresh (Nat.le_refl _))⟩
end
section
variable {X : Cx} {pins : List (Addr × Obj)} {σ : St} {H : Hp} {s : Shared} {a : Addr} {y d : V} {u r : Value} {o : Option V} {A : Around} {E : Value -> Shared -> Prop}
end
section
variable {X : Cx} {o e f : Expr} {apos cpos : Pos} {td ty tx : TE}
end
section
variable {X : Cx} {pins : List (Addr × Obj)} {σ : St} {H : Hp} {s : Shared} {a : Addr} {kvs : List (Key × V)} {A : Around} {E : Value -> Shared -> Prop}
end
section
variable {X : Cx} {pins : List (Addr × Obj)} {σ : St} {H : Hp} {s : Shared} {a : Addr} {y : V} {u : Value} {A : Around} {E : Value -> Shared -> Prop}
end
end L2
set_option maxHeartbeats 1000000
namespace Pu
inductive D where
 | non | bl (b : Bool) | int (i : Int) | str (s : List Nat) | tup (xs : List D) | lst (xs : List D)
 | dct (t : Bool) (ks vs : List D)
 | ins (c : String) (ns : List String) (xs : List D)
 | exn (c : String) (ns : List String) (xs : List D)
inductive R (α : Type) where
 | ok (a : α) | exc (x : D) | bad
@[inline] def R.bind {α β : Type} (r : R α) (f : α -> R β) : R β := match r with
 | .ok a => f a
 | .exc x => .exc x
 | .bad => .bad
theorem R.ok_of {α β : Type} {r : R α} {f : α -> R β} {b : β} (h : r.bind f = .ok b) : ∃ a, r = .ok a /\ f a = .ok b := by
 cases r with
 | ok a => exact ⟨a, rfl, h⟩
 | exc x => exact nomatch h
 | bad => exact nomatch h
noncomputable section
open Classical in
def guardR {α : Type} (c : Prop) (r : R α) : R α := if c then r else .bad
theorem guardR_pos {α : Type} {c : Prop} {r : R α} (h : c) : guardR c r = r := if_pos h
theorem guardR_of {α : Type} {c : Prop} {r : R α} {a : α} (h : guardR c r = .ok a) : c /\ r = .ok a := by
 unfold guardR at h
 split at h
 ·exact ⟨by assumption, h⟩
 ·exact nomatch h
inductive OK where
 | l | d (t : Bool) (ks : List D) | i (n : Nat) (c : String) (ns : List String)
def ofK : OK -> List D -> D
 | .l, xs => .lst xs
 | .d t ks, xs => .dct t ks xs
 | .i _ c ns, xs => .ins c ns xs
inductive Sl where
 | v (d : D) | o (k : OK) (xs : List D)
abbrev PSt := List (Option Sl)
abbrev Ex := PSt -> R D
inductive Fl where
 | nx (st : PSt) | rt (d : D) | bk (st : PSt) | ct (st : PSt)
abbrev Bd := PSt -> R Fl
@[irreducible] def big : Nat := 10000000
theorem big_eq : big = 10000000 := by unfold big; rfl
theorem le_big {n : Nat} (h : n <= 10000000) : n <= big := by rw [big_eq]; exact h
theorem lt_big {n : Nat} (h : n < 10000000) : n < big := by rw [big_eq]; exact h
theorem le_bigI {n : Int} (h : n <= 10000000) : n <= (big : Int) := by rw [big_eq]; exact h
theorem ge_bigI {n : Int} (h : -10000000 <= n) : -(big : Int) <= n := by rw [big_eq]; exact h
def sIx (n d : Nat) : Option Int -> Nat
 | none => d
 | some v => if v < 0 then (v + (n : Int)).toNat else min v.toNat n
def ixN (n : Nat) (i : Int) : Option Nat := if 0 <= i then (if i < n then some i.toNat else none) else if -(n : Int) <= i then some (i + n).toNat else none
def atI {α : Type} (xs : List α) (i : Int) : Option α := (ixN xs.length i).bind fun j => xs[j]?
def cut {α : Type} (xs : List α) (lo hi : Option Int) : List α := (xs.drop (sIx xs.length 0 lo)).take (sIx xs.length xs.length hi - sIx xs.length 0 lo)
def rep {α : Type} (n : Nat) (xs : List α) : List α := (List.replicate n xs).flatten
def ofO {α : Type} : Option α -> R α
 | some a => .ok a
 | none => .bad
abbrev Op2 := D -> D -> R D
def dAdd : Op2
 | .int i, .int j => .ok (.int (i + j))
 | .str x, .str y => guardR (x.length + y.length <= big) (.ok (.str (x ++ y)))
 | .lst x, .lst y => guardR (x.length + y.length <= big) (.ok (.lst (x ++ y)))
 | _, _ => .bad
def dFdiv : Op2
 | .int i, .int j => guardR (0 < j /\ j < 1073741824) (.ok (.int (i / j)))
 | _, _ => .bad
def dMod : Op2
 | .int i, .int j => guardR (0 < j) (.ok (.int (i % j)))
 | _, _ => .bad
def dPow : Op2
 | .int i, .int j => guardR (0 <= j /\ j <= 1000000 /\ i.natAbs < 18446744073709551616) (.ok (.int (i ^ j.toNat)))
 | _, _ => .bad
def keyS : D -> Bool
 | .int _ => true
 | .str _ => true
 | _ => false
def keyOk (t : Bool) (d : D) : Bool := match d with
 | .int _ => !t
 | .str _ => !t
 | .tup xs => t && xs.all keyS
 | _ => false
mutual
def eqK : D -> D -> Bool
 | .int i, .int j => i == j
 | .str x, .str y => x == y
 | .tup x, .tup y => eqKs x y
 | _, _ => false
def eqKs : List D -> List D -> Bool
 | [], [] => true
 | a :: x, b :: y => eqK a b && eqKs x y
 | _, _ => false
end
def getK (ks vs : List D) (k : D) : Option D := ((ks.zip vs).find? fun p => eqK p.1 k).map (·.2)
def hasK (ks : List D) (k : D) : Bool := ks.any fun x => eqK x k
def putKs (ks : List D) (k : D) : List D := if hasK ks k = true then ks else ks ++ [k]
def putVs (ks vs : List D) (k v : D) : List D := if hasK ks k = true then (ks.zip vs).map (fun p => if eqK p.1 k = true then v else p.2) else vs ++ [v]
def dIx : Op2
 | .dct t ks vs, k => guardR (keyOk t k = true) (ofO (getK ks vs k))
 | .lst x, .int i => ofO (atI x i)
 | .tup x, .int i => ofO (atI x i)
 | .str x, .int i => guardR (x.length <= big) (ofO ((atI x i).map fun c => .str [c]))
 | _, _ => .bad
mutual
def eqD : D -> D -> Bool
 | .non, .non => true
 | .bl a, .bl b => a == b
 | .bl a, .int j => (if a then (1 : Int) else 0) == j
 | .int i, .bl b => i == (if b then (1 : Int) else 0)
 | .int i, .int j => i == j
 | .str x, .str y => x == y
 | .tup x, .tup y => eqDs x y
 | .lst x, .lst y => eqDs x y
 | _, _ => false
def eqDs : List D -> List D -> Bool
 | [], [] => true
 | a :: x, b :: y => eqD a b && eqDs x y
 | _, _ => false
end
mutual
def dep : D -> Nat
 | .tup x => deps x + 1
 | .lst x => deps x + 1
 | .non => 0
 | .bl _ => 0
 | .int _ => 0
 | .str _ => 0
 | .dct _ _ _ => 0
 | .ins _ _ _ => 0
 | .exn _ _ _ => 0
def deps : List D -> Nat
 | [] => 0
 | a :: x => max (dep a) (deps x)
end
mutual
def plain : D -> Bool
 | .tup x => plains x
 | .lst x => plains x
 | .non => true
 | .bl _ => true
 | .int _ => true
 | .str _ => true
 | .dct _ _ _ => false
 | .ins _ _ _ => false
 | .exn _ _ _ => false
def plains : List D -> Bool
 | [] => true
 | a :: x => plain a && plains x
end
def dEq : Op2 := fun a b => guardR (dep a <= 64 /\ plain a = true /\ plain b = true) (.ok (.bl (eqD a b)))
def dNe : Op2 := fun a b => guardR (dep a <= 64 /\ plain a = true /\ plain b = true) (.ok (.bl (!eqD a b)))
def dLe : Op2
 | .int i, .int j => .ok (.bl (decide (i <= j)))
 | _, _ => .bad
def dGt : Op2
 | .int i, .int j => .ok (.bl (decide (j < i)))
 | _, _ => .bad
def dGe : Op2
 | .int i, .int j => .ok (.bl (decide (j <= i)))
 | _, _ => .bad
def dLen : D -> R D
 | .dct false ks _ => .ok (.int ks.length)
 | .lst x => .ok (.int x.length)
 | .tup x => .ok (.int x.length)
 | .str x => guardR (x.length <= big) (.ok (.int x.length))
 | _ => .bad
def bltD : D -> Bool
 | .ins _ _ _ => false
 | .exn _ _ _ => false
 | _ => true
def isBl : D -> Bool
 | .bl _ => true
 | _ => false
def isIn : D -> Bool
 | .bl _ => true
 | .int _ => true
 | _ => false
def isDc : D -> Bool
 | .dct _ _ _ => true
 | _ => false
def isLs : D -> Bool
 | .lst _ => true
 | _ => false
def findN (x y : List Nat) (lo : Nat) : Option Nat := (List.range' lo (x.length + 1 - lo)).find? fun i => decide (i + y.length <= x.length) && ((x.drop i).take y.length == y)
def inD (x : D) (ys : List D) : Bool := ys.any fun y => eqD y x
def dIn : D -> D -> R D
 | k, .dct t ks _ => guardR (keyOk t k = true) (.ok (.bl (hasK ks k)))
 | x, .lst ys => guardR (deps ys <= 60 /\ plain x = true /\ plains ys = true) (.ok (.bl (inD x ys)))
 | x, .tup ys => guardR (deps ys <= 60 /\ plain x = true /\ plains ys = true) (.ok (.bl (inD x ys)))
 | .str x, .str y => .ok (.bl (findN y x 0).isSome)
 | _, _ => .bad
def eVar (i : Nat) : Ex := fun st => match st[i]? with
 | some (some (.v d)) => .ok d
 | _ => .bad
def ePeek (i : Nat) : Ex := fun st => match st[i]? with
 | some (some (.v d)) => .ok d
 | some (some (.o k xs)) => .ok (ofK k xs)
 | _ => .bad
def eC (d : D) : Ex := fun _ => .ok d
def e2 (op : Op2) (f g : Ex) : Ex := fun st => (f st).bind fun x => (g st).bind fun y => op x y
def e1 (op : D -> R D) (f : Ex) : Ex := fun st => (f st).bind op
def eB (p : D -> Bool) (f : Ex) : Ex := fun st => (f st).bind fun x => guardR (bltD x = true) (.ok (.bl (p x)))
def onB {α : Type} (d : D) (f : Bool -> R α) : R α := match d with
 | .bl b => f b
 | _ => .bad
theorem onB_of {α : Type} {d : D} {f : Bool -> R α} {a : α} (h : onB d f = .ok a) : ∃ b, d = .bl b /\ f b = .ok a := by
 cases d <;> first | exact ⟨_, rfl, h⟩ | exact nomatch h
def eAnd (f g : Ex) : Ex := fun st => (f st).bind fun x => onB x fun b => if b = true then g st else .ok (.bl false)
def eOr (f g : Ex) : Ex := fun st => (f st).bind fun x => onB x fun b => if b = true then .ok (.bl true) else g st
def eNot (f : Ex) : Ex := fun st => (f st).bind fun x => onB x fun b => .ok (.bl (!b))
abbrev Exs := PSt -> R (List D)
def aNil : Exs := fun _ => .ok []
def aCons (f : Ex) (r : Exs) : Exs := fun st => (f st).bind fun x => (r st).bind fun xs => .ok (x :: xs)
def eTup (r : Exs) : Ex := fun st => (r st).bind fun xs => guardR (xs.length <= big) (.ok (.tup xs))
def eLst (r : Exs) : Ex := fun st => (r st).bind fun xs => guardR (xs.length <= big) (.ok (.lst xs))
def eCall (p : List D -> R D) (r : Exs) : Ex := fun st => (r st).bind p
def inI (d : D) {α : Type} (f : Int -> R α) : R α := match d with
 | .int i => f i
 | _ => .bad
theorem inI_of {α : Type} {d : D} {f : Int -> R α} {a : α} (h : inI d f = .ok a) : ∃ i, d = .int i /\ f i = .ok a := by
 cases d <;> first | exact ⟨_, rfl, h⟩ | exact nomatch h
abbrev ExO := PSt -> R (Option Int)
def oSome (f : Ex) : ExO := fun st => (f st).bind fun x => inI x fun i => .ok (some i)
def dSl (x : D) (lo hi : Option Int) : R D := match x with
 | .lst xs => .ok (.lst (cut xs lo hi))
 | .str xs => guardR (xs.length <= big) (.ok (.str (cut xs lo hi)))
 | _ => .bad
def eSl (f : Ex) (lo hi : ExO) : Ex := fun st => (f st).bind fun x => (lo st).bind fun l => (hi st).bind fun h => dSl x l h
abbrev ItE := PSt -> R (List D)
def itE (f : Ex) : ItE := fun st => (f st).bind fun x => match x with
 | .lst xs => .ok xs
 | .tup xs => .ok xs
 | .str xs => guardR (xs.length <= big) (.ok (xs.map fun c => .str [c]))
 | _ => .bad
def rangeD (lo : Int) (n : Nat) : List D := (List.range n).map fun (k : Nat) => .int (lo + (k : Int))
def itR1 (f : Ex) : ItE := fun st => (f st).bind fun x => inI x fun j => guardR (-(big : Int) <= j /\ j <= (big : Int)) (.ok (rangeD 0 j.toNat))
abbrev Tg := D -> PSt -> R PSt
def tgN (i : Nat) : Tg := fun d st => .ok (st.set i (some (.v d)))
def setAll : List Nat -> List D -> PSt -> R PSt
 | [], [], st => .ok st
 | i :: is, d :: ds, st => setAll is ds (st.set i (some (.v d)))
 | _, _, _ => .bad
def tgT (is : List Nat) : Tg := fun d st => match d with
 | .tup xs => setAll is xs st
 | .lst xs => setAll is xs st
 | _ => .bad
def compR (tg : Tg) (c f : Ex) (st : PSt) : List D -> R (List D)
 | [] => .ok []
 | d :: ds => (tg d st).bind fun s1 => (c s1).bind fun x => onB x fun b => if b = true then (f s1).bind fun y => (compR tg c f st ds).bind fun ys => .ok (y :: ys) else compR tg c f st ds
def clr (is : List Nat) (st : PSt) : PSt := is.foldl (fun s i => s.set i none) st
def eComp (is : List Nat) (tg : Tg) (it : ItE) (c f : Ex) : Ex := fun st => (it st).bind fun xs => guardR (xs.length <= big) ((compR tg c f (clr is st) xs).bind fun ys => .ok (.lst ys))
def eTrue : Ex := fun _ => .ok (.bl true)
def onNx (r : R Fl) (f : PSt -> R Fl) : R Fl := r.bind fun x => match x with
 | .nx st => f st
 | .rt d => .ok (.rt d)
 | .bk st => .ok (.bk st)
 | .ct st => .ok (.ct st)
def sNext : Bd := fun st => .ok (.nx st)
def sSeq (a b : Bd) : Bd := fun st => onNx (a st) b
def sSet (i : Nat) (f : Ex) : Bd := fun st => (f st).bind fun d => .ok (.nx (st.set i (some (.v d))))
def sSetO (i : Nat) (f : Ex) : Bd := fun st => (f st).bind fun d => match d with
 | .lst xs => .ok (.nx (st.set i (some (.o .l xs))))
 | _ => .bad
def sTgt (tg : Tg) (f : Ex) : Bd := fun st => (f st).bind fun d => (tg d st).bind fun s1 => .ok (.nx s1)
def sApp (i : Nat) (f : Ex) : Bd := fun st => (f st).bind fun d => match st[i]? with
 | some (some (.o .l xs)) => guardR (xs.length < big) (.ok (.nx (st.set i (some (.o .l (xs ++ [d]))))))
 | _ => .bad
def sPut (i : Nat) (g f : Ex) : Bd := fun st => (f st).bind fun d => (g st).bind fun x => inI x fun j => match st[i]? with
 | some (some (.o .l xs)) => (ofO (ixN xs.length j)).bind fun k => .ok (.nx (st.set i (some (.o .l (xs.set k d)))))
 | _ => .bad
def sDNew (i : Nat) (t : Bool) : Bd := fun st => .ok (.nx (st.set i (some (.o (.d t []) []))))
def sDPut (i : Nat) (g f : Ex) : Bd := fun st => (f st).bind fun d => (g st).bind fun k => match st[i]? with
 | some (some (.o (.d t ks) vs)) => guardR (keyOk t k = true /\ vs.length < big) (.ok (.nx (st.set i (some (.o (.d t (putKs ks k)) (putVs ks vs k d))))))
 | _ => .bad
def sFldC (i : Nat) (c f : String) (e : Ex) : Bd := fun st => (e st).bind fun d => match st[i]? with
 | some (some (.o (.i n c' ns) xs)) => guardR (c' = c /\ f ∉ ns /\ ns.length < 900) (.ok (.nx (st.set i (some (.o (.i n c' (ns ++ [f])) (xs ++ [d]))))))
 | _ => .bad
def dFld (c f : String) : D -> R D
 | .ins c' ns xs => guardR (c' = c) (ofO ((ns.zip xs).lookup f))
 | _ => .bad
def sNever : Bd := fun _ => .bad
def fz1 (st : PSt) (i : Nat) : PSt := match st[i]? with
 | some (some (.o k xs)) => st.set i (some (.v (ofK k xs)))
 | _ => st
def sFz (is : List Nat) (b : Bd) : Bd := fun st => b (is.foldl fz1 st)
def sRet (f : Ex) : Bd := fun st => (f st).bind fun d => .ok (.rt d)
def sIf (c : Ex) (a b : Bd) : Bd := fun st => (c st).bind fun x => onB x fun q => if q = true then a st else b st
def forR (tg : Tg) (body : Bd) : List D -> PSt -> R Fl
 | [], st => .ok (.nx st)
 | d :: ds, st => (tg d st).bind fun s1 => (body s1).bind fun x => match x with
  | .nx s2 => forR tg body ds s2
  | .ct s2 => forR tg body ds s2
  | .bk s2 => .ok (.nx s2)
  | .rt v => .ok (.rt v)
def sFor (tg : Tg) (it : ItE) (body : Bd) : Bd := fun st => (it st).bind fun xs => forR tg body xs st
def runD (np n : Nat) (b : Bd) (ds : List D) : R D :=
 guardR (ds.length = np) ((b (ds.map (fun d => some (.v d)) ++ List.replicate (n - np) none)).bind fun x => match x with
  | .nx _ => .ok .non
  | .rt d => .ok d
  | _ => .bad)
def runI1 (c : String) (np n : Nat) (b : Bd) (x : Nat) (ds : List D) : R D :=
 guardR (ds.length = np) ((b (some (.o (.i x c []) []) :: (ds.map (fun d => some (.v d)) ++ List.replicate (n - np - 1) none))).bind fun (fl : Fl) => match fl with
  | .nx st => (match (st[0]? : Option (Option Sl)) with
   | some (some (.o (.i y c' ns) xs)) => guardR (y = x) (.ok (.ins c' ns xs))
   | _ => .bad)
  | _ => .bad)
open Classical in
def runI (c : String) (np n : Nat) (b : Bd) (ds : List D) : R D := if h : ∃ d, ∀ x, runI1 c np n b x ds = .ok d then .ok (choose h) else .bad
theorem runI_ok {c : String} {np n : Nat} {b : Bd} {ds : List D} {d : D} (h : ∀ x, runI1 c np n b x ds = .ok d) : runI c np n b ds = .ok d := by
 unfold runI
 rw [dif_pos ⟨d, h⟩]
 have := Classical.choose_spec (p := fun d => ∀ x, runI1 c np n b x ds = .ok d) ⟨d, h⟩ 0
 rw [h 0] at this
 exact this.symm
theorem runI_of {c : String} {np n : Nat} {b : Bd} {ds : List D} {d : D} (h : runI c np n b ds = .ok d) (x : Nat) : runI1 c np n b x ds = .ok d := by
 unfold runI at h
 split at h
 ·rename_i e
  have := Classical.choose_spec e x
  rw [this]
  exact h
 ·cases h
end
end Pu
namespace Pu
@[simp] theorem bg0 : 0 <= big := le_big (by decide)
@[simp] theorem bl0 : 0 < big := lt_big (by decide)
@[simp] theorem bi0 : (0 : Int) <= (big : Int) := le_bigI (by decide)
@[simp] theorem bj0 : -(big : Int) <= (0 : Int) := ge_bigI (by decide)
@[simp] theorem bg1 : 1 <= big := le_big (by decide)
@[simp] theorem bl1 : 1 < big := lt_big (by decide)
@[simp] theorem bi1 : (1 : Int) <= (big : Int) := le_bigI (by decide)
@[simp] theorem bj1 : -(big : Int) <= (1 : Int) := ge_bigI (by decide)
@[simp] theorem bg2 : 2 <= big := le_big (by decide)
@[simp] theorem bl2 : 2 < big := lt_big (by decide)
@[simp] theorem bi2 : (2 : Int) <= (big : Int) := le_bigI (by decide)
@[simp] theorem bj2 : -(big : Int) <= (2 : Int) := ge_bigI (by decide)
@[simp] theorem bg3 : 3 <= big := le_big (by decide)
@[simp] theorem bl3 : 3 < big := lt_big (by decide)
@[simp] theorem bi3 : (3 : Int) <= (big : Int) := le_bigI (by decide)
@[simp] theorem bj3 : -(big : Int) <= (3 : Int) := ge_bigI (by decide)
@[simp] theorem bg4 : 4 <= big := le_big (by decide)
@[simp] theorem bl4 : 4 < big := lt_big (by decide)
@[simp] theorem bi4 : (4 : Int) <= (big : Int) := le_bigI (by decide)
@[simp] theorem bj4 : -(big : Int) <= (4 : Int) := ge_bigI (by decide)
@[simp] theorem bg5 : 5 <= big := le_big (by decide)
@[simp] theorem bl5 : 5 < big := lt_big (by decide)
@[simp] theorem bi5 : (5 : Int) <= (big : Int) := le_bigI (by decide)
@[simp] theorem bj5 : -(big : Int) <= (5 : Int) := ge_bigI (by decide)
@[simp] theorem bg6 : 6 <= big := le_big (by decide)
@[simp] theorem bl6 : 6 < big := lt_big (by decide)
@[simp] theorem bi6 : (6 : Int) <= (big : Int) := le_bigI (by decide)
@[simp] theorem bj6 : -(big : Int) <= (6 : Int) := ge_bigI (by decide)
@[simp] theorem bg7 : 7 <= big := le_big (by decide)
@[simp] theorem bl7 : 7 < big := lt_big (by decide)
@[simp] theorem bi7 : (7 : Int) <= (big : Int) := le_bigI (by decide)
@[simp] theorem bj7 : -(big : Int) <= (7 : Int) := ge_bigI (by decide)
@[simp] theorem bg8 : 8 <= big := le_big (by decide)
@[simp] theorem bl8 : 8 < big := lt_big (by decide)
@[simp] theorem bi8 : (8 : Int) <= (big : Int) := le_bigI (by decide)
@[simp] theorem bj8 : -(big : Int) <= (8 : Int) := ge_bigI (by decide)
@[simp] theorem bg9 : 9 <= big := le_big (by decide)
@[simp] theorem bl9 : 9 < big := lt_big (by decide)
@[simp] theorem bi9 : (9 : Int) <= (big : Int) := le_bigI (by decide)
@[simp] theorem bj9 : -(big : Int) <= (9 : Int) := ge_bigI (by decide)
@[simp] theorem bg10 : 10 <= big := le_big (by decide)
@[simp] theorem bl10 : 10 < big := lt_big (by decide)
@[simp] theorem bi10 : (10 : Int) <= (big : Int) := le_bigI (by decide)
@[simp] theorem bj10 : -(big : Int) <= (10 : Int) := ge_bigI (by decide)
@[simp] theorem bg11 : 11 <= big := le_big (by decide)
@[simp] theorem bl11 : 11 < big := lt_big (by decide)
@[simp] theorem bi11 : (11 : Int) <= (big : Int) := le_bigI (by decide)
@[simp] theorem bj11 : -(big : Int) <= (11 : Int) := ge_bigI (by decide)
@[simp] theorem bg12 : 12 <= big := le_big (by decide)
@[simp] theorem bl12 : 12 < big := lt_big (by decide)
@[simp] theorem bi12 : (12 : Int) <= (big : Int) := le_bigI (by decide)
@[simp] theorem bj12 : -(big : Int) <= (12 : Int) := ge_bigI (by decide)
@[simp] theorem bg13 : 13 <= big := le_big (by decide)
@[simp] theorem bl13 : 13 < big := lt_big (by decide)
@[simp] theorem bi13 : (13 : Int) <= (big : Int) := le_bigI (by decide)
@[simp] theorem bj13 : -(big : Int) <= (13 : Int) := ge_bigI (by decide)
@[simp] theorem bg14 : 14 <= big := le_big (by decide)
@[simp] theorem bl14 : 14 < big := lt_big (by decide)
@[simp] theorem bi14 : (14 : Int) <= (big : Int) := le_bigI (by decide)
@[simp] theorem bj14 : -(big : Int) <= (14 : Int) := ge_bigI (by decide)
@[simp] theorem bg15 : 15 <= big := le_big (by decide)
@[simp] theorem bl15 : 15 < big := lt_big (by decide)
@[simp] theorem bi15 : (15 : Int) <= (big : Int) := le_bigI (by decide)
@[simp] theorem bj15 : -(big : Int) <= (15 : Int) := ge_bigI (by decide)
@[simp] theorem bg16 : 16 <= big := le_big (by decide)
@[simp] theorem bl16 : 16 < big := lt_big (by decide)
@[simp] theorem bi16 : (16 : Int) <= (big : Int) := le_bigI (by decide)
@[simp] theorem bj16 : -(big : Int) <= (16 : Int) := ge_bigI (by decide)
@[simp] theorem bg17 : 17 <= big := le_big (by decide)
@[simp] theorem bl17 : 17 < big := lt_big (by decide)
@[simp] theorem bi17 : (17 : Int) <= (big : Int) := le_bigI (by decide)
@[simp] theorem bj17 : -(big : Int) <= (17 : Int) := ge_bigI (by decide)
@[simp] theorem bg18 : 18 <= big := le_big (by decide)
@[simp] theorem bl18 : 18 < big := lt_big (by decide)
@[simp] theorem bi18 : (18 : Int) <= (big : Int) := le_bigI (by decide)
@[simp] theorem bj18 : -(big : Int) <= (18 : Int) := ge_bigI (by decide)
@[simp] theorem bg19 : 19 <= big := le_big (by decide)
@[simp] theorem bl19 : 19 < big := lt_big (by decide)
@[simp] theorem bi19 : (19 : Int) <= (big : Int) := le_bigI (by decide)
@[simp] theorem bj19 : -(big : Int) <= (19 : Int) := ge_bigI (by decide)
@[simp] theorem bg20 : 20 <= big := le_big (by decide)
@[simp] theorem bl20 : 20 < big := lt_big (by decide)
@[simp] theorem bi20 : (20 : Int) <= (big : Int) := le_bigI (by decide)
@[simp] theorem bj20 : -(big : Int) <= (20 : Int) := ge_bigI (by decide)
@[simp] theorem bg21 : 21 <= big := le_big (by decide)
@[simp] theorem bl21 : 21 < big := lt_big (by decide)
@[simp] theorem bi21 : (21 : Int) <= (big : Int) := le_bigI (by decide)
@[simp] theorem bj21 : -(big : Int) <= (21 : Int) := ge_bigI (by decide)
@[simp] theorem bg22 : 22 <= big := le_big (by decide)
@[simp] theorem bl22 : 22 < big := lt_big (by decide)
@[simp] theorem bi22 : (22 : Int) <= (big : Int) := le_bigI (by decide)
@[simp] theorem bj22 : -(big : Int) <= (22 : Int) := ge_bigI (by decide)
@[simp] theorem bg23 : 23 <= big := le_big (by decide)
@[simp] theorem bl23 : 23 < big := lt_big (by decide)
@[simp] theorem bi23 : (23 : Int) <= (big : Int) := le_bigI (by decide)
@[simp] theorem bj23 : -(big : Int) <= (23 : Int) := ge_bigI (by decide)
@[simp] theorem bg24 : 24 <= big := le_big (by decide)
@[simp] theorem bl24 : 24 < big := lt_big (by decide)
@[simp] theorem bi24 : (24 : Int) <= (big : Int) := le_bigI (by decide)
@[simp] theorem bj24 : -(big : Int) <= (24 : Int) := ge_bigI (by decide)
@[simp] theorem bg25 : 25 <= big := le_big (by decide)
@[simp] theorem bl25 : 25 < big := lt_big (by decide)
@[simp] theorem bi25 : (25 : Int) <= (big : Int) := le_bigI (by decide)
@[simp] theorem bj25 : -(big : Int) <= (25 : Int) := ge_bigI (by decide)
@[simp] theorem bg26 : 26 <= big := le_big (by decide)
@[simp] theorem bl26 : 26 < big := lt_big (by decide)
@[simp] theorem bi26 : (26 : Int) <= (big : Int) := le_bigI (by decide)
@[simp] theorem bj26 : -(big : Int) <= (26 : Int) := ge_bigI (by decide)
@[simp] theorem bg27 : 27 <= big := le_big (by decide)
@[simp] theorem bl27 : 27 < big := lt_big (by decide)
@[simp] theorem bi27 : (27 : Int) <= (big : Int) := le_bigI (by decide)
@[simp] theorem bj27 : -(big : Int) <= (27 : Int) := ge_bigI (by decide)
@[simp] theorem bg28 : 28 <= big := le_big (by decide)
@[simp] theorem bl28 : 28 < big := lt_big (by decide)
@[simp] theorem bi28 : (28 : Int) <= (big : Int) := le_bigI (by decide)
@[simp] theorem bj28 : -(big : Int) <= (28 : Int) := ge_bigI (by decide)
@[simp] theorem bg29 : 29 <= big := le_big (by decide)
@[simp] theorem bl29 : 29 < big := lt_big (by decide)
@[simp] theorem bi29 : (29 : Int) <= (big : Int) := le_bigI (by decide)
@[simp] theorem bj29 : -(big : Int) <= (29 : Int) := ge_bigI (by decide)
@[simp] theorem bg30 : 30 <= big := le_big (by decide)
@[simp] theorem bl30 : 30 < big := lt_big (by decide)
@[simp] theorem bi30 : (30 : Int) <= (big : Int) := le_bigI (by decide)
@[simp] theorem bj30 : -(big : Int) <= (30 : Int) := ge_bigI (by decide)
@[simp] theorem bg31 : 31 <= big := le_big (by decide)
@[simp] theorem bl31 : 31 < big := lt_big (by decide)
@[simp] theorem bi31 : (31 : Int) <= (big : Int) := le_bigI (by decide)
@[simp] theorem bj31 : -(big : Int) <= (31 : Int) := ge_bigI (by decide)
@[simp] theorem bg32 : 32 <= big := le_big (by decide)
@[simp] theorem bl32 : 32 < big := lt_big (by decide)
@[simp] theorem bi32 : (32 : Int) <= (big : Int) := le_bigI (by decide)
@[simp] theorem bj32 : -(big : Int) <= (32 : Int) := ge_bigI (by decide)
@[simp] theorem bg33 : 33 <= big := le_big (by decide)
@[simp] theorem bl33 : 33 < big := lt_big (by decide)
@[simp] theorem bi33 : (33 : Int) <= (big : Int) := le_bigI (by decide)
@[simp] theorem bj33 : -(big : Int) <= (33 : Int) := ge_bigI (by decide)
@[simp] theorem bg34 : 34 <= big := le_big (by decide)
@[simp] theorem bl34 : 34 < big := lt_big (by decide)
@[simp] theorem bi34 : (34 : Int) <= (big : Int) := le_bigI (by decide)
@[simp] theorem bj34 : -(big : Int) <= (34 : Int) := ge_bigI (by decide)
@[simp] theorem bg35 : 35 <= big := le_big (by decide)
@[simp] theorem bl35 : 35 < big := lt_big (by decide)
@[simp] theorem bi35 : (35 : Int) <= (big : Int) := le_bigI (by decide)
@[simp] theorem bj35 : -(big : Int) <= (35 : Int) := ge_bigI (by decide)
@[simp] theorem bg36 : 36 <= big := le_big (by decide)
@[simp] theorem bl36 : 36 < big := lt_big (by decide)
@[simp] theorem bi36 : (36 : Int) <= (big : Int) := le_bigI (by decide)
@[simp] theorem bj36 : -(big : Int) <= (36 : Int) := ge_bigI (by decide)
@[simp] theorem bg37 : 37 <= big := le_big (by decide)
@[simp] theorem bl37 : 37 < big := lt_big (by decide)
@[simp] theorem bi37 : (37 : Int) <= (big : Int) := le_bigI (by decide)
@[simp] theorem bj37 : -(big : Int) <= (37 : Int) := ge_bigI (by decide)
@[simp] theorem bg38 : 38 <= big := le_big (by decide)
@[simp] theorem bl38 : 38 < big := lt_big (by decide)
@[simp] theorem bi38 : (38 : Int) <= (big : Int) := le_bigI (by decide)
@[simp] theorem bj38 : -(big : Int) <= (38 : Int) := ge_bigI (by decide)
@[simp] theorem bg39 : 39 <= big := le_big (by decide)
@[simp] theorem bl39 : 39 < big := lt_big (by decide)
@[simp] theorem bi39 : (39 : Int) <= (big : Int) := le_bigI (by decide)
@[simp] theorem bj39 : -(big : Int) <= (39 : Int) := ge_bigI (by decide)
@[simp] theorem bg40 : 40 <= big := le_big (by decide)
@[simp] theorem bl40 : 40 < big := lt_big (by decide)
@[simp] theorem bi40 : (40 : Int) <= (big : Int) := le_bigI (by decide)
@[simp] theorem bj40 : -(big : Int) <= (40 : Int) := ge_bigI (by decide)
@[simp] theorem bg41 : 41 <= big := le_big (by decide)
@[simp] theorem bl41 : 41 < big := lt_big (by decide)
@[simp] theorem bi41 : (41 : Int) <= (big : Int) := le_bigI (by decide)
@[simp] theorem bj41 : -(big : Int) <= (41 : Int) := ge_bigI (by decide)
@[simp] theorem bg42 : 42 <= big := le_big (by decide)
@[simp] theorem bl42 : 42 < big := lt_big (by decide)
@[simp] theorem bi42 : (42 : Int) <= (big : Int) := le_bigI (by decide)
@[simp] theorem bj42 : -(big : Int) <= (42 : Int) := ge_bigI (by decide)
@[simp] theorem bg43 : 43 <= big := le_big (by decide)
@[simp] theorem bl43 : 43 < big := lt_big (by decide)
@[simp] theorem bi43 : (43 : Int) <= (big : Int) := le_bigI (by decide)
@[simp] theorem bj43 : -(big : Int) <= (43 : Int) := ge_bigI (by decide)
@[simp] theorem bg44 : 44 <= big := le_big (by decide)
@[simp] theorem bl44 : 44 < big := lt_big (by decide)
@[simp] theorem bi44 : (44 : Int) <= (big : Int) := le_bigI (by decide)
@[simp] theorem bj44 : -(big : Int) <= (44 : Int) := ge_bigI (by decide)
@[simp] theorem bg45 : 45 <= big := le_big (by decide)
@[simp] theorem bl45 : 45 < big := lt_big (by decide)
@[simp] theorem bi45 : (45 : Int) <= (big : Int) := le_bigI (by decide)
@[simp] theorem bj45 : -(big : Int) <= (45 : Int) := ge_bigI (by decide)
@[simp] theorem bg46 : 46 <= big := le_big (by decide)
@[simp] theorem bl46 : 46 < big := lt_big (by decide)
@[simp] theorem bi46 : (46 : Int) <= (big : Int) := le_bigI (by decide)
@[simp] theorem bj46 : -(big : Int) <= (46 : Int) := ge_bigI (by decide)
@[simp] theorem bg47 : 47 <= big := le_big (by decide)
@[simp] theorem bl47 : 47 < big := lt_big (by decide)
@[simp] theorem bi47 : (47 : Int) <= (big : Int) := le_bigI (by decide)
@[simp] theorem bj47 : -(big : Int) <= (47 : Int) := ge_bigI (by decide)
@[simp] theorem bg48 : 48 <= big := le_big (by decide)
@[simp] theorem bl48 : 48 < big := lt_big (by decide)
@[simp] theorem bi48 : (48 : Int) <= (big : Int) := le_bigI (by decide)
@[simp] theorem bj48 : -(big : Int) <= (48 : Int) := ge_bigI (by decide)
@[simp] theorem bg49 : 49 <= big := le_big (by decide)
@[simp] theorem bl49 : 49 < big := lt_big (by decide)
@[simp] theorem bi49 : (49 : Int) <= (big : Int) := le_bigI (by decide)
@[simp] theorem bj49 : -(big : Int) <= (49 : Int) := ge_bigI (by decide)
@[simp] theorem bg50 : 50 <= big := le_big (by decide)
@[simp] theorem bl50 : 50 < big := lt_big (by decide)
@[simp] theorem bi50 : (50 : Int) <= (big : Int) := le_bigI (by decide)
@[simp] theorem bj50 : -(big : Int) <= (50 : Int) := ge_bigI (by decide)
@[simp] theorem bg51 : 51 <= big := le_big (by decide)
@[simp] theorem bl51 : 51 < big := lt_big (by decide)
@[simp] theorem bi51 : (51 : Int) <= (big : Int) := le_bigI (by decide)
@[simp] theorem bj51 : -(big : Int) <= (51 : Int) := ge_bigI (by decide)
@[simp] theorem bg52 : 52 <= big := le_big (by decide)
@[simp] theorem bl52 : 52 < big := lt_big (by decide)
@[simp] theorem bi52 : (52 : Int) <= (big : Int) := le_bigI (by decide)
@[simp] theorem bj52 : -(big : Int) <= (52 : Int) := ge_bigI (by decide)
@[simp] theorem bg53 : 53 <= big := le_big (by decide)
@[simp] theorem bl53 : 53 < big := lt_big (by decide)
@[simp] theorem bi53 : (53 : Int) <= (big : Int) := le_bigI (by decide)
@[simp] theorem bj53 : -(big : Int) <= (53 : Int) := ge_bigI (by decide)
@[simp] theorem bg54 : 54 <= big := le_big (by decide)
@[simp] theorem bl54 : 54 < big := lt_big (by decide)
@[simp] theorem bi54 : (54 : Int) <= (big : Int) := le_bigI (by decide)
@[simp] theorem bj54 : -(big : Int) <= (54 : Int) := ge_bigI (by decide)
@[simp] theorem bg55 : 55 <= big := le_big (by decide)
@[simp] theorem bl55 : 55 < big := lt_big (by decide)
@[simp] theorem bi55 : (55 : Int) <= (big : Int) := le_bigI (by decide)
@[simp] theorem bj55 : -(big : Int) <= (55 : Int) := ge_bigI (by decide)
@[simp] theorem bg56 : 56 <= big := le_big (by decide)
@[simp] theorem bl56 : 56 < big := lt_big (by decide)
@[simp] theorem bi56 : (56 : Int) <= (big : Int) := le_bigI (by decide)
@[simp] theorem bj56 : -(big : Int) <= (56 : Int) := ge_bigI (by decide)
@[simp] theorem bg57 : 57 <= big := le_big (by decide)
@[simp] theorem bl57 : 57 < big := lt_big (by decide)
@[simp] theorem bi57 : (57 : Int) <= (big : Int) := le_bigI (by decide)
@[simp] theorem bj57 : -(big : Int) <= (57 : Int) := ge_bigI (by decide)
@[simp] theorem bg58 : 58 <= big := le_big (by decide)
@[simp] theorem bl58 : 58 < big := lt_big (by decide)
@[simp] theorem bi58 : (58 : Int) <= (big : Int) := le_bigI (by decide)
@[simp] theorem bj58 : -(big : Int) <= (58 : Int) := ge_bigI (by decide)
@[simp] theorem bg59 : 59 <= big := le_big (by decide)
@[simp] theorem bl59 : 59 < big := lt_big (by decide)
@[simp] theorem bi59 : (59 : Int) <= (big : Int) := le_bigI (by decide)
@[simp] theorem bj59 : -(big : Int) <= (59 : Int) := ge_bigI (by decide)
@[simp] theorem bg60 : 60 <= big := le_big (by decide)
@[simp] theorem bl60 : 60 < big := lt_big (by decide)
@[simp] theorem bi60 : (60 : Int) <= (big : Int) := le_bigI (by decide)
@[simp] theorem bj60 : -(big : Int) <= (60 : Int) := ge_bigI (by decide)
@[simp] theorem bg61 : 61 <= big := le_big (by decide)
@[simp] theorem bl61 : 61 < big := lt_big (by decide)
@[simp] theorem bi61 : (61 : Int) <= (big : Int) := le_bigI (by decide)
@[simp] theorem bj61 : -(big : Int) <= (61 : Int) := ge_bigI (by decide)
@[simp] theorem bg62 : 62 <= big := le_big (by decide)
@[simp] theorem bl62 : 62 < big := lt_big (by decide)
@[simp] theorem bi62 : (62 : Int) <= (big : Int) := le_bigI (by decide)
@[simp] theorem bj62 : -(big : Int) <= (62 : Int) := ge_bigI (by decide)
@[simp] theorem bg63 : 63 <= big := le_big (by decide)
@[simp] theorem bl63 : 63 < big := lt_big (by decide)
@[simp] theorem bi63 : (63 : Int) <= (big : Int) := le_bigI (by decide)
@[simp] theorem bj63 : -(big : Int) <= (63 : Int) := ge_bigI (by decide)
@[simp] theorem bg64 : 64 <= big := le_big (by decide)
@[simp] theorem bl64 : 64 < big := lt_big (by decide)
@[simp] theorem bi64 : (64 : Int) <= (big : Int) := le_bigI (by decide)
@[simp] theorem bj64 : -(big : Int) <= (64 : Int) := ge_bigI (by decide)
@[simp] theorem bind_ok' {α β : Type} (a : α) (f : α -> R β) : (R.ok a).bind f = f a := rfl
@[simp] theorem bind_bad' {α β : Type} (f : α -> R β) : (R.bad : R α).bind f = .bad := rfl
@[simp] theorem onB_bl {α : Type} (b : Bool) (f : Bool -> R α) : onB (.bl b) f = f b := rfl
@[simp] theorem inI_int {α : Type} (i : Int) (f : Int -> R α) : inI (.int i) f = f i := rfl
@[simp] theorem onNx_nx (st : PSt) (f : PSt -> R Fl) : onNx (.ok (.nx st)) f = f st := rfl
@[simp] theorem onNx_rt (d : D) (f : PSt -> R Fl) : onNx (.ok (.rt d)) f = .ok (.rt d) := rfl
@[simp] theorem eVar_ap (i : Nat) (st : PSt) : eVar i st = (match st[i]? with | some (some (.v d)) => R.ok d | _ => .bad) := rfl
@[simp] theorem ePeek_ap (i : Nat) (st : PSt) : ePeek i st = (match st[i]? with | some (some (.v d)) => R.ok d | some (some (.o k xs)) => .ok (ofK k xs) | _ => .bad) := rfl
@[simp] theorem eC_ap (d : D) (st : PSt) : eC d st = .ok d := rfl
@[simp] theorem e2_ap (op : Op2) (f g : Ex) (st : PSt) : e2 op f g st = (f st).bind fun x => (g st).bind fun y => op x y := rfl
@[simp] theorem e1_ap (op : D -> R D) (f : Ex) (st : PSt) : e1 op f st = (f st).bind op := rfl
@[simp] theorem eB_ap (p : D -> Bool) (f : Ex) (st : PSt) : eB p f st = (f st).bind fun x => guardR (bltD x = true) (.ok (.bl (p x))) := rfl
@[simp] theorem eAnd_ap (f g : Ex) (st : PSt) : eAnd f g st = (f st).bind fun x => onB x fun b => if b = true then g st else .ok (.bl false) := rfl
@[simp] theorem eOr_ap (f g : Ex) (st : PSt) : eOr f g st = (f st).bind fun x => onB x fun b => if b = true then .ok (.bl true) else g st := rfl
@[simp] theorem eNot_ap (f : Ex) (st : PSt) : eNot f st = (f st).bind fun x => onB x fun b => .ok (.bl (!b)) := rfl
@[simp] theorem aNil_ap (st : PSt) : aNil st = .ok [] := rfl
@[simp] theorem aCons_ap (f : Ex) (r : Exs) (st : PSt) : aCons f r st = (f st).bind fun x => (r st).bind fun xs => .ok (x :: xs) := rfl
@[simp] theorem eTup_ap (r : Exs) (st : PSt) : eTup r st = (r st).bind fun xs => guardR (xs.length <= big) (.ok (.tup xs)) := rfl
@[simp] theorem eLst_ap (r : Exs) (st : PSt) : eLst r st = (r st).bind fun xs => guardR (xs.length <= big) (.ok (.lst xs)) := rfl
@[simp] theorem eCall_ap (p : List D -> R D) (r : Exs) (st : PSt) : eCall p r st = (r st).bind p := rfl
@[simp] theorem oSome_ap (f : Ex) (st : PSt) : oSome f st = (f st).bind fun x => inI x fun i => .ok (some i) := rfl
@[simp] theorem eSl_ap (f : Ex) (lo hi : ExO) (st : PSt) : eSl f lo hi st = (f st).bind fun x => (lo st).bind fun l => (hi st).bind fun h => dSl x l h := rfl
@[simp] theorem itR1_ap (f : Ex) (st : PSt) : itR1 f st = (f st).bind fun x => inI x fun j => guardR (-(big : Int) <= j /\ j <= (big : Int)) (.ok (rangeD 0 j.toNat)) := rfl
@[simp] theorem forR_nil (tg : Tg) (b : Bd) (st : PSt) : forR tg b [] st = .ok (.nx st) := rfl
theorem forR_cons (tg : Tg) (b : Bd) (d : D) (ds : List D) (st : PSt) : forR tg b (d :: ds) st = (tg d st).bind fun s1 => (b s1).bind fun x => match x with
  | .nx s2 => forR tg b ds s2
  | .ct s2 => forR tg b ds s2
  | .bk s2 => .ok (.nx s2)
  | .rt v => .ok (.rt v) := rfl
@[simp] theorem itE_ap (f : Ex) (st : PSt) : itE f st = (f st).bind fun x => match x with | .lst xs => .ok xs | .tup xs => .ok xs | .str xs => guardR (xs.length <= big) (.ok (xs.map fun c => .str [c])) | _ => .bad := rfl
@[simp] theorem sApp_ap (i : Nat) (f : Ex) (st : PSt) : sApp i f st = (f st).bind fun d => match st[i]? with | some (some (.o .l xs)) => guardR (xs.length < big) (.ok (.nx (st.set i (some (.o .l (xs ++ [d])))))) | _ => .bad := rfl
@[simp] theorem sSetO_ap (i : Nat) (f : Ex) (st : PSt) : sSetO i f st = (f st).bind fun d => match d with | .lst xs => .ok (.nx (st.set i (some (.o .l xs)))) | _ => .bad := rfl
@[simp] theorem sPut_ap (i : Nat) (g f : Ex) (st : PSt) : sPut i g f st = (f st).bind fun d => (g st).bind fun x => inI x fun j => match st[i]? with | some (some (.o .l xs)) => (ofO (ixN xs.length j)).bind fun k => .ok (.nx (st.set i (some (.o .l (xs.set k d))))) | _ => .bad := rfl
@[simp] theorem sFldC_ap (i : Nat) (c f : String) (e : Ex) (st : PSt) : sFldC i c f e st = (e st).bind fun d => match st[i]? with | some (some (.o (.i n c' ns) xs)) => guardR (c' = c /\ f ∉ ns /\ ns.length < 900) (.ok (.nx (st.set i (some (.o (.i n c' (ns ++ [f])) (xs ++ [d])))))) | _ => .bad := rfl
@[simp] theorem dFld_ins (c f c' : String) (ns : List String) (xs : List D) : dFld c f (.ins c' ns xs) = guardR (c' = c) (ofO ((ns.zip xs).lookup f)) := rfl
@[simp] theorem sDNew_ap (i : Nat) (t : Bool) (st : PSt) : sDNew i t st = .ok (.nx (st.set i (some (.o (.d t []) [])))) := rfl
@[simp] theorem sDPut_ap (i : Nat) (g f : Ex) (st : PSt) : sDPut i g f st = (f st).bind fun d => (g st).bind fun k => match st[i]? with | some (some (.o (.d t ks) vs)) => guardR (keyOk t k = true /\ vs.length < big) (.ok (.nx (st.set i (some (.o (.d t (putKs ks k)) (putVs ks vs k d)))))) | _ => .bad := rfl
@[simp] theorem dIx_dct (t : Bool) (ks vs : List D) (k : D) : dIx (.dct t ks vs) k = guardR (keyOk t k = true) (ofO (getK ks vs k)) := by cases k <;> rfl
@[simp] theorem dIn_dct (t : Bool) (ks vs : List D) (k : D) : dIn k (.dct t ks vs) = guardR (keyOk t k = true) (.ok (.bl (hasK ks k))) := by cases k <;> rfl
@[simp] theorem dLen_dct (ks vs : List D) : dLen (.dct false ks vs) = .ok (.int ks.length) := rfl
@[simp] theorem sFz_ap (is : List Nat) (b : Bd) (st : PSt) : sFz is b st = b (is.foldl fz1 st) := rfl
@[simp] theorem fz1_ap (st : PSt) (i : Nat) : fz1 st i = (match st[i]? with | some (some (.o k xs)) => st.set i (some (.v (ofK k xs))) | _ => st) := rfl
@[simp] theorem onNx_bk (st : PSt) (f : PSt -> R Fl) : onNx (.ok (.bk st)) f = .ok (.bk st) := rfl
@[simp] theorem onNx_ct (st : PSt) (f : PSt -> R Fl) : onNx (.ok (.ct st)) f = .ok (.ct st) := rfl
@[simp] theorem onNx_bad (f : PSt -> R Fl) : onNx .bad f = .bad := rfl
@[simp] theorem dIn_str (x y : List Nat) : dIn (.str x) (.str y) = .ok (.bl (findN y x 0).isSome) := rfl
@[simp] theorem dIn_lst (x : D) (ys : List D) : dIn x (.lst ys) = guardR (deps ys <= 60 /\ plain x = true /\ plains ys = true) (.ok (.bl (inD x ys))) := by cases x <;> rfl
@[simp] theorem dIn_tup (x : D) (ys : List D) : dIn x (.tup ys) = guardR (deps ys <= 60 /\ plain x = true /\ plains ys = true) (.ok (.bl (inD x ys))) := by cases x <;> rfl
@[simp] theorem dLen_tup (x : List D) : dLen (.tup x) = .ok (.int x.length) := rfl
@[simp] theorem dGe_int (i j : Int) : dGe (.int i) (.int j) = .ok (.bl (decide (j <= i))) := rfl
@[simp] theorem dAdd_lst (x y : List D) : dAdd (.lst x) (.lst y) = guardR (x.length + y.length <= big) (.ok (.lst (x ++ y))) := rfl
@[simp] theorem dSl_lst (x : List D) (l h : Option Int) : dSl (.lst x) l h = .ok (.lst (cut x l h)) := rfl
@[simp] theorem bltD_non : bltD .non = true := rfl
@[simp] theorem bltD_bl (b : Bool) : bltD (.bl b) = true := rfl
@[simp] theorem bltD_int (b : Int) : bltD (.int b) = true := rfl
@[simp] theorem bltD_str (b : List Nat) : bltD (.str b) = true := rfl
@[simp] theorem bltD_tup (b : List D) : bltD (.tup b) = true := rfl
@[simp] theorem bltD_lst (b : List D) : bltD (.lst b) = true := rfl
@[simp] theorem bltD_dct (t : Bool) (a b : List D) : bltD (.dct t a b) = true := rfl
@[simp] theorem tgN_ap (i : Nat) (d : D) (st : PSt) : tgN i d st = .ok (st.set i (some (.v d))) := rfl
@[simp] theorem tgT_ap (is : List Nat) (xs : List D) (st : PSt) : tgT is (.tup xs) st = setAll is xs st := rfl
@[simp] theorem tgT_apL (is : List Nat) (xs : List D) (st : PSt) : tgT is (.lst xs) st = setAll is xs st := rfl
@[simp] theorem setAll_nil (st : PSt) : setAll [] [] st = .ok st := rfl
@[simp] theorem setAll_cons (i : Nat) (is : List Nat) (d : D) (ds : List D) (st : PSt) : setAll (i :: is) (d :: ds) st = setAll is ds (st.set i (some (.v d))) := rfl
@[simp] theorem clr_nil (st : PSt) : clr [] st = st := rfl
@[simp] theorem clr_cons (i : Nat) (is : List Nat) (st : PSt) : clr (i :: is) st = clr is (st.set i none) := rfl
@[simp] theorem compR_nil (tg : Tg) (c f : Ex) (st : PSt) : compR tg c f st [] = .ok [] := rfl
theorem compR_cons (tg : Tg) (c f : Ex) (st : PSt) (d : D) (ds : List D) : compR tg c f st (d :: ds) = (tg d st).bind fun s1 => (c s1).bind fun x => onB x fun b => if b = true then (f s1).bind fun y => (compR tg c f st ds).bind fun ys => .ok (y :: ys) else compR tg c f st ds := rfl
@[simp] theorem eTrue_ap (st : PSt) : eTrue st = .ok (.bl true) := rfl
@[simp] theorem eComp_ap (is : List Nat) (tg : Tg) (it : ItE) (c f : Ex) (st : PSt) : eComp is tg it c f st = (it st).bind fun xs => guardR (xs.length <= big) ((compR tg c f (clr is st) xs).bind fun ys => .ok (.lst ys)) := rfl
@[simp] theorem sNext_ap (st : PSt) : sNext st = .ok (.nx st) := rfl
@[simp] theorem sSeq_ap (a b : Bd) (st : PSt) : sSeq a b st = onNx (a st) b := rfl
@[simp] theorem sSet_ap (i : Nat) (f : Ex) (st : PSt) : sSet i f st = (f st).bind fun d => .ok (.nx (st.set i (some (.v d)))) := rfl
@[simp] theorem sTgt_ap (tg : Tg) (f : Ex) (st : PSt) : sTgt tg f st = (f st).bind fun d => (tg d st).bind fun s1 => .ok (.nx s1) := rfl
@[simp] theorem sRet_ap (f : Ex) (st : PSt) : sRet f st = (f st).bind fun d => .ok (.rt d) := rfl
@[simp] theorem sIf_ap (c : Ex) (a b : Bd) (st : PSt) : sIf c a b st = (c st).bind fun x => onB x fun q => if q = true then a st else b st := rfl
@[simp] theorem sFor_ap (tg : Tg) (it : ItE) (body : Bd) (st : PSt) : sFor tg it body st = (it st).bind fun xs => forR tg body xs st := rfl
@[simp] theorem dAdd_int (i j : Int) : dAdd (.int i) (.int j) = .ok (.int (i + j)) := rfl
@[simp] theorem dAdd_str (x y : List Nat) : dAdd (.str x) (.str y) = guardR (x.length + y.length <= big) (.ok (.str (x ++ y))) := rfl
@[simp] theorem dFdiv_int (i j : Int) : dFdiv (.int i) (.int j) = guardR (0 < j /\ j < 1073741824) (.ok (.int (i / j))) := rfl
@[simp] theorem dMod_int (i j : Int) : dMod (.int i) (.int j) = guardR (0 < j) (.ok (.int (i % j))) := rfl
@[simp] theorem dPow_int (i j : Int) : dPow (.int i) (.int j) = guardR (0 <= j /\ j <= 1000000 /\ i.natAbs < 18446744073709551616) (.ok (.int (i ^ j.toNat))) := rfl
@[simp] theorem dLe_int (i j : Int) : dLe (.int i) (.int j) = .ok (.bl (decide (i <= j))) := rfl
@[simp] theorem dGt_int (i j : Int) : dGt (.int i) (.int j) = .ok (.bl (decide (j < i))) := rfl
@[simp] theorem dEq_ap (x y : D) : dEq x y = guardR (dep x <= 64 /\ plain x = true /\ plain y = true) (.ok (.bl (eqD x y))) := rfl
@[simp] theorem dNe_ap (x y : D) : dNe x y = guardR (dep x <= 64 /\ plain x = true /\ plain y = true) (.ok (.bl (!eqD x y))) := rfl
@[simp] theorem dep_non : dep .non = 0 := by unfold dep; rfl
@[simp] theorem dep_bl (b : Bool) : dep (.bl b) = 0 := by unfold dep; rfl
@[simp] theorem dep_int (i : Int) : dep (.int i) = 0 := by unfold dep; rfl
@[simp] theorem dep_str (s : List Nat) : dep (.str s) = 0 := by unfold dep; rfl
@[simp] theorem dep_tup (x : List D) : dep (.tup x) = deps x + 1 := by conv => lhs; unfold dep
@[simp] theorem dep_lst (x : List D) : dep (.lst x) = deps x + 1 := by conv => lhs; unfold dep
@[simp] theorem plain_non : plain .non = true := by unfold plain; rfl
@[simp] theorem plain_bl (b : Bool) : plain (.bl b) = true := by unfold plain; rfl
@[simp] theorem plain_int (i : Int) : plain (.int i) = true := by unfold plain; rfl
@[simp] theorem plain_str (s : List Nat) : plain (.str s) = true := by unfold plain; rfl
@[simp] theorem plain_tup (x : List D) : plain (.tup x) = plains x := by conv => lhs; unfold plain
@[simp] theorem plain_lst (x : List D) : plain (.lst x) = plains x := by conv => lhs; unfold plain
@[simp] theorem plain_dct (t : Bool) (k v : List D) : plain (.dct t k v) = false := by unfold plain; rfl
@[simp] theorem plain_ins (c : String) (n : List String) (v : List D) : plain (.ins c n v) = false := by unfold plain; rfl
@[simp] theorem plain_exn (c : String) (n : List String) (v : List D) : plain (.exn c n v) = false := by unfold plain; rfl
@[simp] theorem plains_nil : plains [] = true := by unfold plains; rfl
@[simp] theorem plains_cons (a : D) (x : List D) : plains (a :: x) = (plain a && plains x) := by conv => lhs; unfold plains
@[simp] theorem deps_nil : deps [] = 0 := by unfold deps; rfl
@[simp] theorem deps_cons (a : D) (x : List D) : deps (a :: x) = max (dep a) (deps x) := by conv => lhs; unfold deps
@[simp] theorem eqD_int (i j : Int) : eqD (.int i) (.int j) = (i == j) := by unfold eqD; rfl
@[simp] theorem eqD_str (i j : List Nat) : eqD (.str i) (.str j) = (i == j) := by unfold eqD; rfl
@[simp] theorem eqD_non_non : eqD .non .non = true := by unfold eqD; rfl
@[simp] theorem eqD_non_bl (b : Bool) : eqD .non (.bl b) = false := by unfold eqD; rfl
@[simp] theorem eqD_non_int (j : Int) : eqD .non (.int j) = false := by unfold eqD; rfl
@[simp] theorem eqD_non_str (t : List Nat) : eqD .non (.str t) = false := by unfold eqD; rfl
@[simp] theorem eqD_non_tup (y : List D) : eqD .non (.tup y) = false := by unfold eqD; rfl
@[simp] theorem eqD_non_lst (y : List D) : eqD .non (.lst y) = false := by unfold eqD; rfl
@[simp] theorem eqD_bl_non (a : Bool) : eqD (.bl a) .non = false := by unfold eqD; rfl
@[simp] theorem eqD_bl_bl (a : Bool) (b : Bool) : eqD (.bl a) (.bl b) = (a == b) := by unfold eqD; rfl
@[simp] theorem eqD_bl_int (a : Bool) (j : Int) : eqD (.bl a) (.int j) = ((if a then (1 : Int) else 0) == j) := by unfold eqD; rfl
@[simp] theorem eqD_bl_str (a : Bool) (t : List Nat) : eqD (.bl a) (.str t) = false := by unfold eqD; rfl
@[simp] theorem eqD_bl_tup (a : Bool) (y : List D) : eqD (.bl a) (.tup y) = false := by unfold eqD; rfl
@[simp] theorem eqD_bl_lst (a : Bool) (y : List D) : eqD (.bl a) (.lst y) = false := by unfold eqD; rfl
@[simp] theorem eqD_int_non (i : Int) : eqD (.int i) .non = false := by unfold eqD; rfl
@[simp] theorem eqD_int_bl (i : Int) (b : Bool) : eqD (.int i) (.bl b) = (i == (if b then (1 : Int) else 0)) := by unfold eqD; rfl
@[simp] theorem eqD_int_str (i : Int) (t : List Nat) : eqD (.int i) (.str t) = false := by unfold eqD; rfl
@[simp] theorem eqD_int_tup (i : Int) (y : List D) : eqD (.int i) (.tup y) = false := by unfold eqD; rfl
@[simp] theorem eqD_int_lst (i : Int) (y : List D) : eqD (.int i) (.lst y) = false := by unfold eqD; rfl
@[simp] theorem eqD_str_non (s : List Nat) : eqD (.str s) .non = false := by unfold eqD; rfl
@[simp] theorem eqD_str_bl (s : List Nat) (b : Bool) : eqD (.str s) (.bl b) = false := by unfold eqD; rfl
@[simp] theorem eqD_str_int (s : List Nat) (j : Int) : eqD (.str s) (.int j) = false := by unfold eqD; rfl
@[simp] theorem eqD_str_tup (s : List Nat) (y : List D) : eqD (.str s) (.tup y) = false := by unfold eqD; rfl
@[simp] theorem eqD_str_lst (s : List Nat) (y : List D) : eqD (.str s) (.lst y) = false := by unfold eqD; rfl
@[simp] theorem eqD_tup_non (x : List D) : eqD (.tup x) .non = false := by unfold eqD; rfl
@[simp] theorem eqD_tup_bl (x : List D) (b : Bool) : eqD (.tup x) (.bl b) = false := by unfold eqD; rfl
@[simp] theorem eqD_tup_int (x : List D) (j : Int) : eqD (.tup x) (.int j) = false := by unfold eqD; rfl
@[simp] theorem eqD_tup_str (x : List D) (t : List Nat) : eqD (.tup x) (.str t) = false := by unfold eqD; rfl
@[simp] theorem eqD_tup_tup (x : List D) (y : List D) : eqD (.tup x) (.tup y) = eqDs x y := by conv => lhs; unfold eqD
@[simp] theorem eqD_tup_lst (x : List D) (y : List D) : eqD (.tup x) (.lst y) = false := by unfold eqD; rfl
@[simp] theorem eqD_lst_non (x : List D) : eqD (.lst x) .non = false := by unfold eqD; rfl
@[simp] theorem eqD_lst_bl (x : List D) (b : Bool) : eqD (.lst x) (.bl b) = false := by unfold eqD; rfl
@[simp] theorem eqD_lst_int (x : List D) (j : Int) : eqD (.lst x) (.int j) = false := by unfold eqD; rfl
@[simp] theorem eqD_lst_str (x : List D) (t : List Nat) : eqD (.lst x) (.str t) = false := by unfold eqD; rfl
@[simp] theorem eqD_lst_tup (x : List D) (y : List D) : eqD (.lst x) (.tup y) = false := by unfold eqD; rfl
@[simp] theorem eqD_lst_lst (x : List D) (y : List D) : eqD (.lst x) (.lst y) = eqDs x y := by conv => lhs; unfold eqD
@[simp] theorem eqDs_nil_nil : eqDs [] [] = true := by unfold eqDs; rfl
@[simp] theorem eqDs_nil_cons (b : D) (y : List D) : eqDs [] (b :: y) = false := by unfold eqDs; rfl
@[simp] theorem eqDs_cons_nil (b : D) (y : List D) : eqDs (b :: y) [] = false := by unfold eqDs; rfl
@[simp] theorem eqDs_cons_cons (a b : D) (x y : List D) : eqDs (a :: x) (b :: y) = (eqD a b && eqDs x y) := by conv => lhs; unfold eqDs
@[simp] theorem dLen_str (x : List Nat) : dLen (.str x) = guardR (x.length <= big) (.ok (.int x.length)) := rfl
@[simp] theorem dLen_lst (x : List D) : dLen (.lst x) = .ok (.int x.length) := rfl
@[simp] theorem dIx_str (x : List Nat) (i : Int) : dIx (.str x) (.int i) = guardR (x.length <= big) (ofO ((atI x i).map fun c => .str [c])) := rfl
@[simp] theorem dIx_tup (x : List D) (i : Int) : dIx (.tup x) (.int i) = ofO (atI x i) := rfl
@[simp] theorem dIx_lst (x : List D) (i : Int) : dIx (.lst x) (.int i) = ofO (atI x i) := rfl
@[simp] theorem dSl_str (x : List Nat) (l h : Option Int) : dSl (.str x) l h = guardR (x.length <= big) (.ok (.str (cut x l h))) := rfl
@[simp] theorem ofK_l (xs : List D) : ofK .l xs = .lst xs := rfl
@[simp] theorem ofK_d (t : Bool) (ks xs : List D) : ofK (.d t ks) xs = .dct t ks xs := rfl
@[simp] theorem ofK_i (n : Nat) (c : String) (ns : List String) (xs : List D) : ofK (.i n c ns) xs = .ins c ns xs := rfl
@[simp] theorem ofO_some {α : Type} (a : α) : ofO (some a) = .ok a := rfl
@[simp] theorem gR {α : Type} {c : Prop} {r : R α} (h : c) : guardR c r = r := guardR_pos h
@[simp] theorem neg_big_nat (n : Nat) : -(big : Int) <= (n : Int) := ge_bigI (by omega)
@[simp] theorem neg_big_pos {n : Int} (h : 0 <= n) : -(big : Int) <= n := ge_bigI (by omega)
@[simp] theorem runD_ap {np n : Nat} {b : Bd} {ds : List D} (h : ds.length = np) : runD np n b ds = (b (ds.map (fun d => some (.v d)) ++ List.replicate (n - np) none)).bind fun x => match x with
  | .nx _ => .ok .non
  | .rt d => .ok d
  | _ => .bad := guardR_pos h
theorem atI_in {α : Type} {xs : List α} {i : Int} (h0 : 0 <= i) (h : i < xs.length) : atI xs i = some (xs[i.toNat]'(by omega)) := by
 unfold atI ixN
 rw [if_pos h0, if_pos h]
 exact List.getElem?_eq_getElem (by omega)
theorem atI_nat {α : Type} {xs : List α} {i : Nat} (h : i < xs.length) : atI xs (i : Int) = some xs[i] := by
 rw [atI_in (by omega) (by omega)]
 simp
theorem rangeD_length (lo : Int) (n : Nat) : (rangeD lo n).length = n := by simp [rangeD]
end Pu
namespace Pu
def dList : D -> R D
 | .lst x => .ok (.lst x)
 | .tup x => .ok (.lst x)
 | _ => .bad
def bls : List D -> R (List Bool)
 | [] => .ok []
 | .bl b :: r => (bls r).bind fun x => .ok (b :: x)
 | _ :: _ => .bad
def dInts : List D -> R (List Int)
 | [] => .ok []
 | .int i :: r => (dInts r).bind fun x => .ok (i :: x)
 | _ :: _ => .bad
def dAll : D -> R D
 | .lst x => (bls x).bind fun l => .ok (.bl (l.all id))
 | _ => .bad
theorem bls_of : ∀ {x : List D} {l : List Bool}, bls x = .ok l -> x = l.map D.bl
 | [], l, h => by cases h; rfl
 | d :: x, l, h => by
  cases d <;> first | (cases h; done) | skip
  obtain ⟨l', h1, h2⟩ := R.ok_of h
  cases h2
  rw [bls_of h1]; rfl
theorem dInts_of : ∀ {x : List D} {l : List Int}, dInts x = .ok l -> x = l.map D.int
 | [], l, h => by cases h; rfl
 | d :: x, l, h => by
  cases d <;> first | (cases h; done) | skip
  obtain ⟨l', h1, h2⟩ := R.ok_of h
  cases h2
  rw [dInts_of h1]; rfl
theorem bls_map : ∀ (l : List Bool), bls (l.map D.bl) = .ok l
 | [] => rfl
 | b :: l => by show (bls (l.map D.bl)).bind _ = _; rw [bls_map l]; rfl
theorem dInts_map : ∀ (l : List Int), dInts (l.map D.int) = .ok l
 | [] => rfl
 | b :: l => by show (dInts (l.map D.int)).bind _ = _; rw [dInts_map l]; rfl
def R.nox {α : Type} (r : R α) : R α := match r with
 | .exc _ => .bad
 | r => r
@[simp] theorem nox_ok' {α : Type} (a : α) : (R.ok a).nox = .ok a := rfl
def hRun : List (List String × List String × (String -> Bd)) -> String -> PSt -> R Fl
 | [], _, _ => .bad
 | (yes, no, b) :: hs, c, st => if c ∈ yes then (b c st).nox else if c ∈ no then hRun hs c st else .bad
def sTry (b : Bd) (hs : List (List String × List String × (String -> Bd))) : Bd := fun st => match b st with
 | .exc (.exn c [] []) => hRun hs c st
 | .exc _ => .bad
 | r => r
inductive NFl where
 | nx (xss : List (List D)) (st : PSt) | rt (d : D)
abbrev NB := List (List D) -> PSt -> R NFl
def nSet (j : Nat) (f : Ex) : NB := fun xss st => (f st).bind fun d => .ok (.nx xss (st.set j (some (.v d))))
def nRet (f : Ex) : NB := fun _ st => (f st).bind fun d => .ok (.rt d)
def nNext : NB := fun xss st => .ok (.nx xss st)
def nSeq (a b : NB) : NB := fun xss st => (a xss st).bind fun r => match r with
 | .nx x s => b x s
 | .rt d => .ok (.rt d)
def nIf (c : Ex) (a b : NB) : NB := fun xss st => (c st).bind fun x => onB x fun q => if q = true then a xss st else b xss st
noncomputable def nApp (g f : Ex) : NB := fun xss st => (g st).bind fun x => inI x fun j => (f st).bind fun d => (ofO (ixN xss.length j)).bind fun k => match xss[k]? with
 | some ys => guardR (ys.length < big) (.ok (.nx (xss.set k (ys ++ [d])) st))
 | none => .bad
def nForR (tg : Tg) (body : NB) : List D -> List (List D) -> PSt -> R NFl
 | [], xss, st => .ok (.nx xss st)
 | d :: ds, xss, st => (tg d st).bind fun s1 => (body xss s1).bind fun r => match r with
  | .nx x s2 => nForR tg body ds x s2
  | .rt v => .ok (.rt v)
def nFor (tg : Tg) (it : ItE) (body : NB) : NB := fun xss st => (it st).bind fun ds => nForR tg body ds xss st
def nClose (i : Nat) (b : Bd) : NB := fun xss st => (b (st.set i (some (.v (.lst (xss.map D.lst)))))).bind fun fl => match fl with
 | .rt d => .ok (.rt d)
 | _ => .bad
def atom : D -> Bool
 | .non => true
 | .bl _ => true
 | .int _ => true
 | .str _ => true
 | _ => false
def rowOk : D -> Bool
 | .lst xs => xs.all atom
 | _ => false
noncomputable section
def dCopy2 : D -> R D
 | .lst xs => guardR (xs.length <= big /\ xs.all rowOk = true) (.ok (.lst xs))
 | _ => .bad
def unL : D -> List D
 | .lst xs => xs
 | _ => []
open Classical in
def runIX (c : String) (np n : Nat) (b : Bd) (ds : List D) : R D := if h : ∃ r, ∀ x, runI1 c np n b x ds = r then choose h else .bad
end
def lookN (i : Nat) (xss : List (List D)) (st : PSt) : PSt := st.set i (some (.v (.lst (xss.map D.lst))))
def nIfB (i : Nat) (c : Ex) (a b : NB) : NB := fun xss st => (c (lookN i xss st)).bind fun x => onB x fun q => if q = true then a xss st else b xss st
noncomputable section
end
noncomputable section
def sNestC (i : Nat) (f : Ex) (nb : NB) : Bd := fun st => (f st).bind fun d => (dCopy2 d).bind fun d => (nb ((unL d).map unL) (st.set i none)).bind fun r => match r with
 | .rt d => .ok (.rt d)
 | _ => .bad
end
noncomputable section
def dLRange : D -> R D
 | .int n => guardR (-(big : Int) <= n /\ n <= (big : Int)) (.ok (.lst (rangeD 0 n.toNat)))
 | _ => .bad
end
noncomputable section
def dShl : Op2
 | .int i, .int j => guardR (0 <= j /\ j <= 1000000 /\ i.natAbs < 18446744073709551616) (.ok (.int (i * 2 ^ j.toNat)))
 | _, _ => .bad
def dShr : Op2
 | .int i, .int j => guardR (0 <= j) (.ok (.int (i / 2 ^ j.toNat)))
 | _, _ => .bad
def dAnd : Op2
 | .int i, .int j => guardR (0 <= i /\ 0 <= j) (.ok (.int ((i.toNat &&& j.toNat : Nat) : Int)))
 | _, _ => .bad
def dOr : Op2
 | .int i, .int j => guardR (0 <= i /\ 0 <= j) (.ok (.int ((i.toNat ||| j.toNat : Nat) : Int)))
 | _, _ => .bad
end
def bitsN (i : Int) : Nat := if i = 0 then 0 else i.natAbs.log2 + 1
def dBitLen : D -> R D
 | .int i => .ok (.int (bitsN i : Nat))
 | _ => .bad
def dSum : D -> R D
 | .lst xs => (dInts xs).bind fun l => .ok (.int l.sum)
 | _ => .bad
def nPut (g h f : Ex) : NB := fun xss st => (f st).bind fun d => (g st).bind fun a => inI a fun j => (h st).bind fun b => inI b fun k => (ofO (ixN xss.length j)).bind fun m => match xss[m]? with
 | some ys => (ofO (ixN ys.length k)).bind fun l => .ok (.nx (xss.set m (ys.set l d)) st)
 | none => .bad
def dLtI : Op2
 | .int i, .int j => .ok (.bl (decide (i < j)))
 | _, _ => .bad
noncomputable def dMulI : Op2
 | .int i, .int j => guardR ((-18446744073709551616 < i /\ i < 18446744073709551616) \/ (-18446744073709551616 < j /\ j < 18446744073709551616)) (.ok (.int (i * j)))
 | _, _ => .bad
@[simp] theorem dLtI_int (i j : Int) : dLtI (.int i) (.int j) = .ok (.bl (decide (i < j))) := rfl
@[simp] theorem dMulI_int (i j : Int) : dMulI (.int i) (.int j) = guardR ((-18446744073709551616 < i /\ i < 18446744073709551616) \/ (-18446744073709551616 < j /\ j < 18446744073709551616)) (.ok (.int (i * j))) := rfl
end Pu
namespace Pu
noncomputable section
def b__law_cell : Bd := sSeq (sIf (e2 dLtI (eVar 1) (e1 dLen (eVar 0))) (sRet (e2 dIx (eVar 0) (eVar 1))) (sNext)) (sSeq (sIf (e2 dEq (eVar 0) (eLst (aNil))) (sRet (e2 dMulI (eC (.int 7919)) (eVar 1))) (sNext)) (sRet (e2 dAdd (e2 dFdiv (e2 dIx (eVar 0) (e2 dMod (eVar 1) (e1 dLen (eVar 0)))) (e2 dAdd (eVar 1) (eC (.int 1)))) (e2 dMulI (eC (.int 7919)) (eVar 1)))))
def p__law_cell : List D -> R D := runD 2 2 b__law_cell
def b__law_mix : Bd := sSeq (sSet 3 (e2 dMod (e2 dMulI (e2 dAdd (e2 dMod (eVar 0) (eC (.int 2147483647))) (e2 dMulI (eC (.int 7919)) (eVar 1))) (eC (.int 48271))) (eC (.int 2147483629)))) (sSeq (sSet 3 (e2 dMod (e2 dMulI (e2 dMod (e2 dMulI (eVar 3) (eVar 3)) (eC (.int 2147483647))) (eC (.int 69621))) (eC (.int 2147483587)))) (sRet (e2 dMod (e2 dMod (e2 dMulI (eVar 3) (eVar 3)) (eC (.int 2147483629))) (eVar 2))))
def p__law_mix : List D -> R D := runD 3 4 b__law_mix
def E__law_machine_0 (st : PSt) : R D := (eCall p__law_mix (aCons (eVar 10) (aCons (e2 dAdd (eC (.int 11)) (eVar 13)) (aCons (eVar 4) (aNil))))) st
def E__law_machine_1 (st : PSt) : R D := (e2 dMod (e2 dFdiv (eVar 10) (e2 dIx (eLst (aCons (eC (.int 1)) (aCons (eC (.int 8)) (aCons (eC (.int 64)) (aNil))))) (eVar 13))) (eVar 4)) st
def L__law_machine_2 (st : PSt) : R Fl := (sSeq (sSet 10 (eCall p__law_cell (aCons (eVar 0) (aCons (e2 dAdd (e2 dAdd (eVar 1) (eC (.int 2))) (eVar 9)) (aNil))))) (sSeq (sSetO 11 (eComp [13] (tgN 13) (itR1 (eVar 5)) eTrue (E__law_machine_0))) (sSeq (sSet 12 (eCall p__law_mix (aCons (eVar 10) (aCons (eC (.int 10)) (aCons (eC (.int 7)) (aNil)))))) (sSeq (sIf (e2 dEq (eCall p__law_mix (aCons (eVar 3) (aCons (eC (.int 6)) (aCons (eC (.int 2)) (aNil))))) (eC (.int 0))) (sSeq (sSetO 11 (eComp [13] (tgN 13) (itR1 (eVar 5)) eTrue (E__law_machine_1))) (sSet 12 (e2 dMod (e2 dFdiv (eVar 10) (eC (.int 512))) (eC (.int 7))))) (sIf (eAnd (e2 dEq (eCall p__law_mix (aCons (eVar 3) (aCons (eC (.int 3)) (aCons (eC (.int 2)) (aNil))))) (eC (.int 0))) (e2 dGt (eCall p__law_mix (aCons (eVar 10) (aCons (eC (.int 8)) (aCons (eC (.int 4)) (aNil))))) (eC (.int 0)))) (sPut 11 (eCall p__law_mix (aCons (eVar 10) (aCons (eC (.int 9)) (aCons (eVar 5) (aNil))))) (e2 dMod (e2 dAdd (eVar 9) (eC (.int 1))) (eVar 4))) (sNext))) (sSeq (sFz [11] (sApp 7 (eVar 11))) (sApp 8 (e2 dMulI (eVar 12) (eVar 6)))))))) st
def b__law_machine : Bd := sSeq (sSet 3 (eCall p__law_cell (aCons (eVar 0) (aCons (eVar 1) (aNil))))) (sSeq (sSet 4 (e2 dAdd (eC (.int 1)) (eCall p__law_mix (aCons (eVar 3) (aCons (eC (.int 1)) (aCons (e2 dIx (eLst (aCons (eC (.int 4)) (aCons (eC (.int 5)) (aCons (eC (.int 5)) (aCons (eVar 2) (aNil)))))) (eCall p__law_mix (aCons (eVar 3) (aCons (eC (.int 5)) (aCons (eC (.int 4)) (aNil)))))) (aNil))))))) (sSeq (sSet 5 (e2 dAdd (eC (.int 1)) (eCall p__law_mix (aCons (eVar 3) (aCons (eC (.int 2)) (aCons (eC (.int 3)) (aNil))))))) (sSeq (sSet 6 (e2 dIx (eLst (aCons (eC (.int 1)) (aCons (eC (.int 1)) (aCons (eC (.int 1)) (aCons (e2 dAdd (eC (.int 1)) (e2 dMulI (eC (.int 2)) (e2 dMod (eCall p__law_cell (aCons (eVar 0) (aCons (e2 dAdd (eVar 1) (eC (.int 1))) (aNil)))) (e2 dPow (eC (.int 10)) (eC (.int 27)))))) (aNil)))))) (eCall p__law_mix (aCons (eVar 3) (aCons (eC (.int 4)) (aCons (eC (.int 4)) (aNil))))))) (sSeq (sSetO 7 (eLst (aNil))) (sSeq (sSetO 8 (eLst (aNil))) (sSeq (sFor (tgN 9) (itR1 (eVar 4)) (L__law_machine_2)) (sFz [7, 8] (sRet (eTup (aCons (eVar 7) (aCons (eVar 8) (aNil))))))))))))
def p__law_machine : List D -> R D := runD 3 14 b__law_machine
def L_bits_of_0 (st : PSt) : R Fl := (sSet 1 (e2 dOr (eVar 1) (e2 dShl (eC (.int 1)) (eVar 2)))) st
def b_bits_of : Bd := sSeq (sSet 1 (eC (.int 0))) (sSeq (sFor (tgN 2) (itE (eVar 0)) (L_bits_of_0)) (sRet (eVar 1)))
def p_bits_of : List D -> R D := runD 1 3 b_bits_of
def b__law_whole : Bd := sRet (eAnd (eB isIn (eVar 0)) (eNot (eB isBl (eVar 0))))
def p__law_whole : List D -> R D := runD 1 1 b__law_whole
def E__law_sum_0 (st : PSt) : R D := (e2 dShl (eC (.int 1)) (eVar 1)) st
def C__law_sum_1 (st : PSt) : R D := (e2 dIn (eVar 1) (eVar 0)) st
def b__law_sum : Bd := sRet (e1 dSum (eComp [1] (tgN 1) (itR1 (eC (.int 1001))) (C__law_sum_1) (E__law_sum_0)))
def p__law_sum : List D -> R D := runD 1 2 b__law_sum
def b_has_room : Bd := sRet (e2 dEq (e2 dAnd (e2 dShr (eVar 0) (eVar 1)) (eC (.int 1))) (eC (.int 1)))
def p_has_room : List D -> R D := runD 2 2 b_has_room
def E_rooms_of_0 (st : PSt) : R D := (eVar 1) st
def C_rooms_of_1 (st : PSt) : R D := (eCall p_has_room (aCons (eVar 0) (aCons (eVar 1) (aNil)))) st
def b_rooms_of : Bd := sRet (eComp [1] (tgN 1) (itR1 (e1 dBitLen (eVar 0))) (C_rooms_of_1) (E_rooms_of_0))
def p_rooms_of : List D -> R D := runD 1 2 b_rooms_of
def E__law_led_0 (st : PSt) : R D := (eOr (e2 dEq (eVar 3) (eVar 4)) (e2 dIn (eVar 4) (e2 dIx (eVar 0) (eVar 3)))) st
def E__law_led_1 (st : PSt) : R D := (eComp [4] (tgN 4) (itR1 (e1 dLen (eVar 0))) eTrue (E__law_led_0)) st
def N__law_led_2 (xss : List (List D)) (st : PSt) : R NFl := (nIfB 1 (eAnd (e2 dIx (e2 dIx (eVar 1) (eVar 3)) (eVar 2)) (e2 dIx (e2 dIx (eVar 1) (eVar 2)) (eVar 4))) (nPut (eVar 3) (eVar 4) (eC (.bl true))) (nNext)) xss st
def N__law_led_3 (xss : List (List D)) (st : PSt) : R NFl := (nFor (tgN 4) (itR1 (e1 dLen (eVar 0))) N__law_led_2) xss st
def N__law_led_4 (xss : List (List D)) (st : PSt) : R NFl := (nFor (tgN 3) (itR1 (e1 dLen (eVar 0))) N__law_led_3) xss st
def b__law_led : Bd := sNestC 1 (eComp [3] (tgN 3) (itR1 (e1 dLen (eVar 0))) eTrue (E__law_led_1)) (nSeq (nFor (tgN 2) (itR1 (e1 dLen (eVar 0))) N__law_led_4) (nClose 1 (sRet (eVar 1))))
def p__law_led : List D -> R D := runD 1 5 b__law_led
def L_seen_among_0 (st : PSt) : R Fl := (sDPut 3 (eVar 4) (e2 dAnd (e2 dOr (eCall p_bits_of (aCons (e2 dIx (eVar 0) (eVar 4)) (aNil))) (e2 dShl (eC (.int 1)) (eVar 4))) (eVar 1))) st
def L_seen_among_1 (st : PSt) : R Fl := (sIf (eCall p_has_room (aCons (e2 dIx (ePeek 3) (eVar 4)) (aCons (eVar 5) (aNil)))) (sDPut 3 (eVar 4) (e2 dOr (e2 dIx (ePeek 3) (eVar 4)) (e2 dIx (ePeek 3) (eVar 5)))) (sNext)) st
def L_seen_among_2 (st : PSt) : R Fl := (sFor (tgN 4) (itE (eVar 2)) (L_seen_among_1)) st
def b_seen_among : Bd := sSeq (sSet 2 (eCall p_rooms_of (aCons (eVar 1) (aNil)))) (sSeq (sDNew 3 false) (sSeq (sFor (tgN 4) (itE (eVar 2)) (L_seen_among_0)) (sSeq (sFor (tgN 5) (itE (eVar 2)) (L_seen_among_2)) (sFz [3] (sRet (eVar 3))))))
def p_seen_among : List D -> R D := runD 2 6 b_seen_among
def b_all_rooms : Bd := sRet (eCall p_bits_of (aCons (e1 dLRange (e1 (dFld "Machine" "many") (eVar 0))) (aNil)))
def p_all_rooms : List D -> R D := runD 1 1 b_all_rooms
def b_seen_from : Bd := sRet (e2 dIx (eCall p_seen_among (aCons (e1 (dFld "Machine" "steps") (eVar 0)) (aCons (eCall p_all_rooms (aCons (eVar 0) (aNil))) (aNil)))) (eVar 1))
def p_seen_from : List D -> R D := runD 2 2 b_seen_from
def E_reaching_0 (st : PSt) : R D := (eVar 3) st
def C_reaching_1 (st : PSt) : R D := (e2 dNe (e2 dAnd (e2 dIx (eVar 2) (eVar 3)) (eVar 1)) (eC (.int 0))) st
def b_reaching : Bd := sSeq (sSet 2 (eCall p_seen_among (aCons (e1 (dFld "Machine" "steps") (eVar 0)) (aCons (eCall p_all_rooms (aCons (eVar 0) (aNil))) (aNil))))) (sRet (eCall p_bits_of (aCons (eComp [3] (tgN 3) (itR1 (e1 (dFld "Machine" "many") (eVar 0))) (C_reaching_1) (E_reaching_0)) (aNil))))
def p_reaching : List D -> R D := runD 2 4 b_reaching
def b_is_filled_list : Bd := sRet (eAnd (eB isLs (eVar 0)) (eAnd (e2 dGe (e1 dLen (eVar 0)) (eC (.int 1))) (e2 dLe (e1 dLen (eVar 0)) (eVar 1))))
def p_is_filled_list : List D -> R D := runD 2 2 b_is_filled_list
def b_is_whole : Bd := sRet (eAnd (eB isIn (eVar 0)) (eNot (eB isBl (eVar 0))))
def p_is_whole : List D -> R D := runD 1 1 b_is_whole
def b_is_below : Bd := sRet (eAnd (eCall p_is_whole (aCons (eVar 0) (aNil))) (eAnd (e2 dGe (eVar 0) (eC (.int 0))) (e2 dLtI (eVar 0) (eVar 1))))
def p_is_below : List D -> R D := runD 2 2 b_is_below
def E_is_row_0 (st : PSt) : R D := (eCall p_is_below (aCons (eVar 3) (aCons (eVar 2) (aNil)))) st
def b_is_row : Bd := sRet (eAnd (e2 dEq (e1 dLen (eVar 0)) (eVar 1)) (e1 dAll (eComp [3] (tgN 3) (itE (eVar 0)) eTrue (E_is_row_0))))
def p_is_row : List D -> R D := runD 3 4 b_is_row
def E_are_steps_0 (st : PSt) : R D := (eCall p_is_filled_list (aCons (eVar 1) (aCons (eC (.int 3)) (aNil)))) st
def E_are_steps_1 (st : PSt) : R D := (eCall p_is_row (aCons (eVar 1) (aCons (e1 dLen (e2 dIx (eVar 0) (eC (.int 0)))) (aCons (e1 dLen (eVar 0)) (aNil))))) st
def b_are_steps : Bd := sSeq (sIf (eNot (eCall p_is_filled_list (aCons (eVar 0) (aCons (eC (.int 8)) (aNil))))) (sRet (eC (.bl false))) (sNext)) (sSeq (sIf (eNot (e1 dAll (eComp [1] (tgN 1) (itE (eVar 0)) eTrue (E_are_steps_0)))) (sRet (eC (.bl false))) (sNext)) (sRet (e1 dAll (eComp [1] (tgN 1) (itE (eVar 0)) eTrue (E_are_steps_1)))))
def p_are_steps : List D -> R D := runD 1 2 b_are_steps
def E_are_ranks_0 (st : PSt) : R D := (eAnd (eCall p_is_whole (aCons (eVar 2) (aNil))) (e2 dGe (eVar 2) (eC (.int 0)))) st
def b_are_ranks : Bd := sSeq (sIf (eOr (eNot (eB isLs (eVar 0))) (e2 dNe (e1 dLen (eVar 0)) (eVar 1))) (sRet (eC (.bl false))) (sNext)) (sRet (e1 dAll (eComp [2] (tgN 2) (itE (eVar 0)) eTrue (E_are_ranks_0))))
def p_are_ranks : List D -> R D := runD 2 3 b_are_ranks
def E_Machine___init___0 (st : PSt) : R D := (e1 dList (eVar 3)) st
def b_Machine___init__ : Bd := sSeq (sIf (eNot (eCall p_are_steps (aCons (eVar 1) (aNil)))) (sNever) (sNext)) (sSeq (sIf (eNot (eCall p_are_ranks (aCons (eVar 2) (aCons (e1 dLen (eVar 1)) (aNil))))) (sNever) (sNext)) (sSeq (sFldC 0 "Machine" "steps" (eComp [3] (tgN 3) (itE (eVar 1)) eTrue (E_Machine___init___0))) (sSeq (sFldC 0 "Machine" "ranks" (e1 dList (eVar 2))) (sSeq (sFldC 0 "Machine" "many" (e1 dLen (eVar 1))) (sFldC 0 "Machine" "letters" (e1 dLen (e2 dIx (eVar 1) (eC (.int 0)))))))))
def p_Machine___init__ : List D -> R D := runI "Machine" 2 4 b_Machine___init__
def E_law_0 (st : PSt) : R D := (e1 dList (eVar 16)) st
def E_law_1 (st : PSt) : R D := (eCall p__law_mix (aCons (eVar 15) (aCons (eC (.int 21)) (aCons (eVar 2) (aNil))))) st
def E_law_2 (st : PSt) : R D := (eVar 10) st
def C_law_3 (st : PSt) : R D := (e2 dIn (eVar 10) (eVar 3)) st
def E_law_4 (st : PSt) : R D := (eVar 10) st
def C_law_5 (st : PSt) : R D := (eNot (eCall p__law_whole (aCons (eVar 10) (aNil)))) st
def E_law_6 (st : PSt) : R D := (eVar 17) st
def C_law_7 (st : PSt) : R D := (e2 dIx (e2 dIx (eVar 7) (eVar 10)) (eVar 17)) st
def L_law_10 (st : PSt) : R Fl := (sSeq (sSet 13 (eCall p_seen_from (aCons (eVar 1) (aCons (eVar 10) (aNil))))) (sSeq (sSet 14 (eComp [17] (tgN 17) (itR1 (e1 dLen (eVar 11))) (C_law_7) (E_law_6))) (sSeq (sIf (eOr (eNot (eCall p__law_whole (aCons (eVar 13) (aNil)))) (e2 dNe (eVar 13) (eCall p__law_sum (aCons (eVar 14) (aNil))))) (sRet (eC (.bl false))) (sNext)) (sIf (e2 dGt (e2 dAnd (eVar 13) (eVar 8)) (eC (.int 0))) (sSet 9 (e2 dAdd (eVar 9) (e2 dShl (eC (.int 1)) (eVar 10)))) (sNext))))) st
def b_law : Bd := sSeq (sTgt (tgT [11, 12]) (eCall p__law_machine (aCons (eVar 0) (aCons (eC (.int 0)) (aCons (eC (.int 8)) (aNil)))))) (sSeq (sSet 1 (eCall p_Machine___init__ (aCons (eComp [16] (tgN 16) (itE (eVar 11)) eTrue (E_law_0)) (aCons (e1 dList (eVar 12)) (aNil))))) (sSeq (sSet 2 (e2 dAdd (eC (.int 1)) (eCall p__law_mix (aCons (eCall p__law_cell (aCons (eVar 0) (aCons (eC (.int 1)) (aNil)))) (aCons (eC (.int 22)) (aCons (eC (.int 200)) (aNil))))))) (sSeq (sIf (e2 dEq (eCall p__law_mix (aCons (eCall p__law_cell (aCons (eVar 0) (aCons (eC (.int 1)) (aNil)))) (aCons (eC (.int 24)) (aCons (eC (.int 8)) (aNil))))) (eC (.int 0))) (sSet 2 (eC (.int 1001))) (sNext)) (sSeq (sSet 3 (eComp [15] (tgN 15) (itE (eSl (eVar 0) (oSome (eC (.int 2))) (oSome (eC (.int 52))))) eTrue (E_law_1))) (sSeq (sSet 4 (e1 dList (eVar 3))) (sSeq (sSet 5 (eCall p_bits_of (aCons (eVar 4) (aNil)))) (sSeq (sIf (eOr (eNot (eCall p__law_whole (aCons (eVar 5) (aNil)))) (eOr (e2 dNe (eVar 5) (eCall p__law_sum (aCons (eVar 3) (aNil)))) (e2 dNe (eVar 4) (eVar 3)))) (sRet (eC (.bl false))) (sNext)) (sSeq (sSet 6 (eCall p_rooms_of (aCons (eVar 5) (aNil)))) (sSeq (sIf (eOr (eNot (eB isLs (eVar 6))) (e2 dNe (eVar 6) (eComp [10] (tgN 10) (itR1 (eC (.int 1001))) (C_law_3) (E_law_2)))) (sRet (eC (.bl false))) (sNext)) (sSeq (sIf (e2 dGt (e1 dLen (eComp [10] (tgN 10) (itE (eVar 6)) (C_law_5) (E_law_4))) (eC (.int 0))) (sRet (eC (.bl false))) (sNext)) (sSeq (sSet 7 (eCall p__law_led (aCons (eVar 11) (aNil)))) (sSeq (sSet 8 (eCall p__law_mix (aCons (eCall p__law_cell (aCons (eVar 0) (aCons (eC (.int 3)) (aNil)))) (aCons (eC (.int 23)) (aCons (e2 dShl (eC (.int 1)) (e1 dLen (eVar 11))) (aNil)))))) (sSeq (sSet 9 (eC (.int 0))) (sSeq (sFor (tgN 10) (itR1 (e1 dLen (eVar 11))) (L_law_10)) (sSeq (sSet 6 (eCall p_reaching (aCons (eVar 1) (aCons (eVar 8) (aNil))))) (sRet (eAnd (eCall p__law_whole (aCons (eVar 6) (aNil))) (e2 dEq (eVar 6) (eVar 9)))))))))))))))))))
def p_law : List D -> R D := runD 1 18 b_law
end
end Pu
namespace Pu
@[simp] theorem bind_exc' {α β : Type} (x : D) (f : α -> R β) : (R.exc x : R α).bind f = .exc x := rfl
@[simp] theorem nox_bad' {α : Type} : (R.bad : R α).nox = .bad := rfl
@[simp] theorem nox_exc' {α : Type} (x : D) : (R.exc x : R α).nox = .bad := rfl
@[simp] theorem onNx_exc (x : D) (f : PSt -> R Fl) : onNx (.exc x) f = .exc x := rfl
@[simp] theorem sTry_ap (b : Bd) (hs : List (List String × List String × (String -> Bd))) (st : PSt) : sTry b hs st = (match b st with | .exc (.exn c [] []) => hRun hs c st | .exc _ => .bad | r => r) := rfl
@[simp] theorem hRun_cons (yes no : List String) (b : String -> Bd) (hs : List (List String × List String × (String -> Bd))) (c : String) (st : PSt) : hRun ((yes, no, b) :: hs) c st = if c ∈ yes then (b c st).nox else if c ∈ no then hRun hs c st else .bad := rfl
@[simp] theorem dAll_lst (x : List D) : dAll (.lst x) = (bls x).bind fun l => .ok (.bl (l.all id)) := rfl
@[simp] theorem dList_lst (x : List D) : dList (.lst x) = .ok (.lst x) := rfl
@[simp] theorem dList_tup (x : List D) : dList (.tup x) = .ok (.lst x) := rfl
theorem all_true {x : List D} {l : List Bool} (h : x = l.map D.bl) (ht : ∀ b ∈ l, b = true) : dAll (.lst x) = .ok (.bl true) := by
 subst h
 rw [dAll_lst, bls_map]
 have : l.all id = true := List.all_eq_true.mpr fun b hb => by simp [ht b hb]
 simp [this]
end Pu
namespace Pu
@[simp] theorem nSet_ap (j : Nat) (f : Ex) (xss : List (List D)) (st : PSt) : nSet j f xss st = (f st).bind fun d => .ok (.nx xss (st.set j (some (.v d)))) := rfl
@[simp] theorem nRet_ap (f : Ex) (xss : List (List D)) (st : PSt) : nRet f xss st = (f st).bind fun d => .ok (.rt d) := rfl
@[simp] theorem nIf_ap (c : Ex) (a b : NB) (xss : List (List D)) (st : PSt) : nIf c a b xss st = (c st).bind fun x => onB x fun q => if q = true then a xss st else b xss st := rfl
@[simp] theorem nApp_ap (g f : Ex) (xss : List (List D)) (st : PSt) : nApp g f xss st = (g st).bind fun x => inI x fun j => (f st).bind fun d => (ofO (ixN xss.length j)).bind fun k => match xss[k]? with
 | some ys => guardR (ys.length < big) (.ok (.nx (xss.set k (ys ++ [d])) st))
 | none => .bad := rfl
end Pu
namespace Pu
end Pu
namespace Pu
theorem seq_nx {a b : Bd} {st st' : PSt} {r : R Fl} (h : a st = .ok (.nx st')) (h2 : b st' = r) : sSeq a b st = r := by
 rw [sSeq_ap, h]
 exact h2
theorem seq_same {a b : Bd} {st : PSt} {r : R Fl} (h : a st = .ok (.nx st)) (h2 : b st = r) : sSeq a b st = r := seq_nx h h2
theorem seq_rt {a b : Bd} {st : PSt} {d : D} (h : a st = .ok (.rt d)) : sSeq a b st = .ok (.rt d) := by
 rw [sSeq_ap, h]
 rfl
theorem run_rt {np n : Nat} {b : Bd} {ds : List D} {d : D} (h : ds.length = np) (hb : b (ds.map (fun d => some (.v d)) ++ List.replicate (n - np) none) = .ok (.rt d)) : runD np n b ds = .ok d := by
 rw [runD_ap h, hb]
 rfl
end Pu
namespace Pu
theorem rangeD_zero (n : Nat) : rangeD 0 n = (List.range n).map fun (k : Nat) => D.int (k : Int) := by
 unfold rangeD
 refine List.map_congr_left fun k _ => ?_
 rw [Int.zero_add]
theorem compR_map {tg : Tg} {c f : Ex} {st : PSt} (g : D -> D) : ∀ (ds : List D), (∀ d ∈ ds, ∃ s1, tg d st = .ok s1 /\ c s1 = .ok (.bl true) /\ f s1 = .ok (g d)) -> compR tg c f st ds = .ok (ds.map g)
 | [], _ => rfl
 | d :: ds, h => by
  obtain ⟨s1, e1, e2, e3⟩ := h d List.mem_cons_self
  rw [compR_cons, e1]
  simp only [bind_ok', e2, onB_bl, if_true, e3, compR_map g ds fun d hd => h d (List.mem_cons_of_mem _ hd), List.map_cons]
end Pu
namespace Pu
theorem set_ok {i : Nat} {f : Ex} {st : PSt} {d : D} (h : f st = .ok d) : sSet i f st = .ok (.nx (st.set i (some (.v d)))) := by rw [sSet_ap, h, bind_ok']
theorem setO_ok {i : Nat} {f : Ex} {st : PSt} {xs : List D} (h : f st = .ok (.lst xs)) : sSetO i f st = .ok (.nx (st.set i (some (.o .l xs)))) := by rw [sSetO_ap, h, bind_ok']
theorem call_ok {p : List D -> R D} {r : Exs} {st : PSt} {ds : List D} {x : R D} (h : r st = .ok ds) (hp : p ds = x) : eCall p r st = x := by rw [eCall_ap, h, bind_ok', hp]
theorem op_ok {op : Op2} {f g : Ex} {st : PSt} {x y : D} {z : R D} (hf : f st = .ok x) (hg : g st = .ok y) (h : op x y = z) : e2 op f g st = z := by rw [e2_ap, hf, bind_ok', hg, bind_ok', h]
theorem if_t {c : Ex} {a b : Bd} {st : PSt} {r : R Fl} (h : c st = .ok (.bl true)) (ha : a st = r) : sIf c a b st = r := by rw [sIf_ap, h, bind_ok', onB_bl, if_pos rfl, ha]
theorem if_f {c : Ex} {a b : Bd} {st : PSt} {r : R Fl} (h : c st = .ok (.bl false)) (hb : b st = r) : sIf c a b st = r := by rw [sIf_ap, h, bind_ok', onB_bl, if_neg Bool.false_ne_true, hb]
theorem and_ok {f g : Ex} {st : PSt} {p q : Bool} (hf : f st = .ok (.bl p)) (hg : p = true -> g st = .ok (.bl q)) : eAnd f g st = .ok (.bl (p && q)) := by
 rw [eAnd_ap, hf, bind_ok', onB_bl]
 cases p with
 | true => rw [if_pos rfl, hg rfl]; rfl
 | false => rfl
theorem or_ok {f g : Ex} {st : PSt} {p q : Bool} (hf : f st = .ok (.bl p)) (hg : p = false -> g st = .ok (.bl q)) : eOr f g st = .ok (.bl (p || q)) := by
 rw [eOr_ap, hf, bind_ok', onB_bl]
 cases p with
 | true => rfl
 | false => rw [if_neg Bool.false_ne_true, hg rfl]; rfl
theorem not_ok {f : Ex} {st : PSt} {p : Bool} (hf : f st = .ok (.bl p)) : eNot f st = .ok (.bl (!p)) := by rw [eNot_ap, hf, bind_ok', onB_bl]
theorem ret_ok {f : Ex} {st : PSt} {d : D} (h : f st = .ok d) : sRet f st = .ok (.rt d) := by rw [sRet_ap, h, bind_ok']
theorem for_ok {tg : Tg} {it : ItE} {L : Bd} {st : PSt} {xs : List D} {r : R Fl} (h : it st = .ok xs) (hr : forR tg L xs st = r) : sFor tg it L st = r := by rw [sFor_ap, h, bind_ok', hr]
theorem arg_ok {f : Ex} {r : Exs} {st : PSt} {d : D} {ds : List D} (h : f st = .ok d) (hr : r st = .ok ds) : aCons f r st = .ok (d :: ds) := by rw [aCons_ap, h, bind_ok', hr, bind_ok']
theorem lst_ok {r : Exs} {st : PSt} {ds : List D} (h : r st = .ok ds) (hl : ds.length <= 1000 := by exact of_decide_eq_true rfl) : eLst r st = .ok (.lst ds) := by rw [eLst_ap, h, bind_ok', guardR_pos (le_big (Nat.le_trans hl (by decide)))]
theorem mod_ok {i j : Int} (h : 0 < j) : dMod (.int i) (.int j) = .ok (.int (i % j)) := guardR_pos h
theorem fdiv_ok {i j : Int} (h : 0 < j /\ j < 1073741824) : dFdiv (.int i) (.int j) = .ok (.int (i / j)) := guardR_pos h
theorem eqi_ok (i j : Int) : dEq (.int i) (.int j) = .ok (.bl (decide (i = j))) := by
 have : (i == j) = decide (i = j) := by by_cases h : i = j <;> simp [h]
 rw [<- this]
 exact guardR_pos ⟨Nat.zero_le 64, rfl, rfl⟩
theorem nei_ok (i j : Int) : dNe (.int i) (.int j) = .ok (.bl (!decide (i = j))) := by
 have : (i == j) = decide (i = j) := by by_cases h : i = j <;> simp [h]
 rw [<- this]
 exact guardR_pos ⟨Nat.zero_le 64, rfl, rfl⟩
theorem app_ok {i : Nat} {f : Ex} {st : PSt} {d : D} {xs : List D} (h : f st = .ok d) (hs : st[i]? = some (some (.o .l xs))) (hl : xs.length < 1000000) : sApp i f st = .ok (.nx (st.set i (some (.o .l (xs ++ [d]))))) := by
 rw [sApp_ap, h, bind_ok', hs]
 exact guardR_pos (lt_big (Nat.lt_trans hl (by decide)))
theorem r1_ok {f : Ex} {st : PSt} {n : Nat} (h : f st = .ok (.int n)) (hn : n <= 1000000) : itR1 f st = .ok ((List.range n).map fun (k : Nat) => D.int (k : Int)) := by
 rw [itR1_ap, h, bind_ok', <- rangeD_zero]
 exact guardR_pos ⟨ge_bigI (by omega), le_bigI (by omega)⟩
theorem comp_if {E C : Ex} {is : List Nat} {tg : Tg} {it : ItE} {st : PSt} {ys xs : List D} (h : it st = .ok xs) (hl : xs.length <= 1000000) (hc : compR tg C E (clr is st) xs = .ok ys) : eComp is tg it C E st = .ok (.lst ys) := by
 rw [eComp_ap, h, bind_ok', guardR_pos (le_big (Nat.le_trans hl (by decide))), hc, bind_ok']
theorem for_go {tg : Tg} {L : Bd} {d : D} {ds : List D} {st s1 s2 : PSt} {r : R Fl} (ht : tg d st = .ok s1) (hL : L s1 = .ok (.nx s2)) (hr : forR tg L ds s2 = r) : forR tg L (d :: ds) st = r := by
 rw [forR_cons, ht, bind_ok', hL]
 exact hr
theorem ix_ok {xs : List D} {i : Int} {d : D} (h : atI xs i = some d) : dIx (.lst xs) (.int i) = .ok d := by
 show ofO (atI xs i) = _
 rw [h]
 rfl
theorem lt_t {p q : Nat} (h : p < q) : decide ((p : Int) < (q : Int)) = true := decide_eq_true (by omega)
theorem lt_f {p q : Nat} (h : ¬ p < q) : decide ((p : Int) < (q : Int)) = false := decide_eq_false (by omega)
theorem ok_bl {r : R D} {p q : Bool} (h : r = .ok (.bl p)) (e : p = q) : r = .ok (.bl q) := by rw [h, e]
end Pu
namespace Pu
def nats (l : List Nat) : List D := l.map fun (x : Nat) => D.int (x : Int)
structure Mch (S : List (List Nat)) (rk : List Nat) (c : Nat) : Prop where
 one : 1 <= S.length
 most : S.length <= 8
 c1 : 1 <= c
 c3 : c <= 3
 row : ∀ r ∈ S, r.length = c /\ ∀ x ∈ r, x < S.length
 rks : rk.length = S.length
def stD (S : List (List Nat)) : List D := S.map fun r => D.lst (nats r)
theorem compR_ex {tg : Tg} {c f : Ex} {st : PSt} {P : D -> D -> Prop} : ∀ (ds : List D), (∀ d ∈ ds, ∃ s1 y, tg d st = .ok s1 /\ c s1 = .ok (.bl true) /\ f s1 = .ok y /\ P d y) -> ∃ ys, compR tg c f st ds = .ok ys /\ ys.length = ds.length /\ ∀ y ∈ ys, ∃ d ∈ ds, P d y
 | [], _ => ⟨[], rfl, rfl, fun _ h => nomatch h⟩
 | d :: ds, h => by
  obtain ⟨s1, y, e1, e2, e3, e4⟩ := h d List.mem_cons_self
  obtain ⟨ys, e5, e6, e7⟩ := compR_ex ds fun d hd => h d (List.mem_cons_of_mem _ hd)
  refine ⟨y :: ys, ?_, by simp [e6], fun z hz => ?_⟩
  ·rw [compR_cons, e1]
   simp [e2, e3, e5]
  ·rcases List.mem_cons.mp hz with rfl | hz
   ·exact ⟨d, List.mem_cons_self, e4⟩
   ·obtain ⟨d', h1, h2⟩ := e7 z hz
    exact ⟨d', List.mem_cons_of_mem _ h1, h2⟩
theorem mem_rangeD {lo : Int} {n : Nat} {d : D} (h : d ∈ rangeD lo n) : ∃ k : Nat, k < n /\ d = .int (lo + k) := by
 unfold rangeD at h
 obtain ⟨k, h1, h2⟩ := List.mem_map.mp h
 exact ⟨k, List.mem_range.mp h1, h2.symm⟩
theorem nats_of : ∀ (ys : List D) (n : Int), (∀ y ∈ ys, ∃ i : Int, y = .int i /\ 0 <= i /\ i < n) -> ∃ r : List Nat, ys = nats r /\ ∀ x ∈ r, (x : Int) < n
 | [], _, _ => ⟨[], rfl, fun _ h => nomatch h⟩
 | y :: ys, n, h => by
  obtain ⟨i, rfl, h0, h1⟩ := h y List.mem_cons_self
  obtain ⟨r, rfl, h2⟩ := nats_of ys n fun y hy => h y (List.mem_cons_of_mem _ hy)
  refine ⟨i.toNat :: r, ?_, fun x hx => ?_⟩
  ·unfold nats; rw [List.map_cons, Int.toNat_of_nonneg h0]
  ·rcases List.mem_cons.mp hx with rfl | hx
   ·rw [Int.toNat_of_nonneg h0]; exact h1
   ·exact h2 x hx
theorem comp_gen {E : Ex} {st : PSt} {j v n : Nat} {P : D -> Prop} (hv : st[v]? = some (some (.v (.int n)))) (hn : n <= 100000) (hE : ∀ k : Nat, k < n -> ∃ y, E ((st.set j none).set j (some (.v (.int k)))) = .ok y /\ P y) :
  ∃ ys, eComp [j] (tgN j) (itR1 (eVar v)) eTrue E st = .ok (.lst ys) /\ ys.length = n /\ ∀ y ∈ ys, P y := by
 obtain ⟨ys, e1, e2, e3⟩ := compR_ex (tg := tgN j) (c := eTrue) (f := E) (st := st.set j none) (P := fun _ y => P y) (rangeD 0 n) (fun d hd => by
  obtain ⟨k, hk, rfl⟩ := mem_rangeD hd
  obtain ⟨y, h1, h2⟩ := hE k hk
  rw [Int.zero_add]
  exact ⟨_, y, rfl, rfl, h1, h2⟩)
 rw [rangeD_length] at e2
 refine ⟨ys, ?_, e2, fun y hy => let ⟨_, _, h⟩ := e3 y hy; h⟩
 simp [hv, show (n : Int) <= (big : Int) from le_bigI (by omega), rangeD_length, show n <= big from le_big (by omega), e1]
theorem comp_nats {E : Ex} {st : PSt} {j v n : Nat} {m : Int} (hv : st[v]? = some (some (.v (.int n)))) (hn : n <= 100000) (hE : ∀ k : Nat, k < n -> ∃ i, E ((st.set j none).set j (some (.v (.int k)))) = .ok (.int i) /\ 0 <= i /\ i < m) :
  ∃ r, eComp [j] (tgN j) (itR1 (eVar v)) eTrue E st = .ok (.lst (nats r)) /\ r.length = n /\ ∀ x ∈ r, (x : Int) < m := by
 obtain ⟨ys, e1, e2, e3⟩ := comp_gen (P := fun y => ∃ i : Int, y = .int i /\ 0 <= i /\ i < m) hv hn fun k hk => let ⟨i, h1, h2⟩ := hE k hk; ⟨_, h1, i, rfl, h2⟩
 obtain ⟨r, rfl, h⟩ := nats_of ys m e3
 exact ⟨r, e1, by rw [<- e2]; unfold nats; simp, h⟩
end Pu
namespace Pu
theorem atI_mem {α : Type} {xs : List α} {i : Int} (h0 : 0 <= i) (h : i < xs.length) : ∃ a ∈ xs, atI xs i = some a := ⟨_, List.getElem_mem _, atI_in h0 h⟩
theorem comp_all {E : Ex} {st : PSt} {j v : Nat} {xs : List D} (hv : st[v]? = some (some (.v (.lst xs)))) (hl : xs.length <= 100000) (h : ∀ d ∈ xs, E ((st.set j none).set j (some (.v d))) = .ok (.bl true)) : e1 dAll (eComp [j] (tgN j) (itE (eVar v)) eTrue E) st = .ok (.bl true) := by
 have e := compR_map (tg := tgN j) (c := eTrue) (f := E) (st := st.set j none) (fun _ => D.bl true) xs fun d hd => ⟨_, rfl, rfl, h d hd⟩
 have e2 : xs.map (fun _ => D.bl true) = (xs.map fun _ => true).map D.bl := by simp
 simp [hv, show xs.length <= big from le_big (by omega), e]
 rw [e2, <- dAll_lst]
 exact all_true rfl fun b hb => by obtain ⟨_, _, z⟩ := List.mem_map.mp hb; exact z.symm
theorem comp_same {E : Ex} {st : PSt} {j v : Nat} {xs : List D} (hv : st[v]? = some (some (.v (.lst xs)))) (hl : xs.length <= 100000) (h : ∀ d ∈ xs, E ((st.set j none).set j (some (.v d))) = .ok d) : eComp [j] (tgN j) (itE (eVar v)) eTrue E st = .ok (.lst xs) := by
 have e := compR_map (tg := tgN j) (c := eTrue) (f := E) (st := st.set j none) id xs fun d hd => ⟨_, rfl, rfl, h d hd⟩
 simp [hv, show xs.length <= big from le_big (by omega), e]
theorem whole_int (i : Int) : p_is_whole [.int i] = .ok (.bl true) := by
 unfold p_is_whole b_is_whole
 simp [isIn, isBl]
theorem below_nat {x n : Nat} (h : x < n) : p_is_below [.int x, .int n] = .ok (.bl true) := by
 have hw := whole_int x
 unfold p_is_below b_is_below
 simp [hw, h]
theorem filled_ok (xs : List D) (m : Int) : p_is_filled_list [.lst xs, .int m] = .ok (.bl (decide (1 <= (xs.length : Int)) && decide ((xs.length : Int) <= m))) := by
 unfold p_is_filled_list b_is_filled_list
 by_cases h : 1 <= xs.length
 ·have h' : (1 : Int) <= xs.length := by omega
  simp [isLs, h, h']
 ·have h' : ¬ (1 : Int) <= xs.length := by omega
  simp [isLs, h, h']
theorem nats_len (r : List Nat) : (nats r).length = r.length := by unfold nats; simp
theorem stD_len (S : List (List Nat)) : (stD S).length = S.length := by unfold stD; simp
theorem mem_nats {r : List Nat} {d : D} (h : d ∈ nats r) : ∃ x ∈ r, d = .int (x : Nat) := by
 obtain ⟨x, h1, h2⟩ := List.mem_map.mp h
 exact ⟨x, h1, h2.symm⟩
theorem mem_stD {S : List (List Nat)} {d : D} (h : d ∈ stD S) : ∃ r ∈ S, d = .lst (nats r) := by
 obtain ⟨x, h1, h2⟩ := List.mem_map.mp h
 exact ⟨x, h1, h2.symm⟩
theorem row_ok (r : List Nat) (n : Nat) (h : ∀ x ∈ r, x < n) (hl : r.length <= 1000) : p_is_row [.lst (nats r), .int r.length, .int n] = .ok (.bl true) := by
 have e := comp_all (E := E_is_row_0) (st := [some (.v (.lst (nats r))), some (.v (.int r.length)), some (.v (.int n)), none]) (j := 3) (v := 0) (xs := nats r) rfl (by rw [nats_len]; omega) (fun d hd => by
  obtain ⟨x, hx, rfl⟩ := mem_nats hd
  have := h x hx
  simp [E_is_row_0, below_nat this])
 refine run_rt rfl ?_
 unfold b_is_row
 have h1 : e2 dEq (e1 dLen (eVar 0)) (eVar 1) [some (.v (.lst (nats r))), some (.v (.int r.length)), some (.v (.int n)), none] = .ok (.bl true) := by simp [nats_len]
 show sRet _ [some (.v (.lst (nats r))), some (.v (.int r.length)), some (.v (.int n)), none] = _
 rw [sRet_ap, eAnd_ap, h1]
 show (e1 dAll _ _).bind _ = _
 rw [e]
 rfl
def mD (S : List (List Nat)) (rk : List Nat) (c : Nat) : D := .ins "Machine" ["steps", "ranks", "many", "letters"] [.lst (stD S), .lst (nats rk), .int S.length, .int c]
section
variable {S : List (List Nat)} {rk : List Nat} {c : Nat}
theorem Mch.row0 (M : Mch S rk c) : ∃ r T, S = r :: T /\ r.length = c := by
 cases S with
 | nil => exact absurd M.one (by simp)
 | cons r T => exact ⟨r, T, rfl, (M.row r List.mem_cons_self).1⟩
theorem Mch.at0 (M : Mch S rk c) : ∃ r, r ∈ S /\ atI (stD S) 0 = some (.lst (nats r)) /\ r.length = c := by
 obtain ⟨r, T, rfl, h⟩ := M.row0
 refine ⟨r, List.mem_cons_self, ?_, h⟩
 have := atI_nat (xs := stD (r :: T)) (i := 0) (by simp [stD])
 simpa [stD] using this
theorem steps_ok (M : Mch S rk c) : p_are_steps [.lst (stD S)] = .ok (.bl true) := by
 obtain ⟨r0, hr0, e0, l0⟩ := M.at0
 have h1 := M.one
 have h8 := M.most
 have f1 := filled_ok (stD S) 8
 rw [stD_len] at f1
 have f1' : p_is_filled_list [.lst (stD S), .int 8] = .ok (.bl true) := by rw [f1]; congr 2; simp; omega
 have a1 := comp_all (E := E_are_steps_0) (st := [some (.v (.lst (stD S))), none]) (j := 1) (v := 0) (xs := stD S) rfl (by rw [stD_len]; omega) (fun d hd => by
  obtain ⟨r, hr, rfl⟩ := mem_stD hd
  have f := filled_ok (nats r) 3
  rw [nats_len, (M.row r hr).1] at f
  have h3 := M.c3
  have h0 := M.c1
  simp [E_are_steps_0, f]
  omega)
 have a2 := comp_all (E := E_are_steps_1) (st := [some (.v (.lst (stD S))), none]) (j := 1) (v := 0) (xs := stD S) rfl (by rw [stD_len]; omega) (fun d hd => by
  obtain ⟨r, hr, rfl⟩ := mem_stD hd
  have h3 := M.c3
  have f := row_ok r S.length (M.row r hr).2 (by rw [(M.row r hr).1]; omega)
  have el : (nats r0).length = r.length := by rw [nats_len, l0, (M.row r hr).1]
  simp [E_are_steps_1, e0, el, stD_len, f])
 refine run_rt rfl ?_
 unfold b_are_steps
 refine seq_same (by simp [f1']) (seq_same ?_ ?_)
 ·rw [sIf_ap, eNot_ap]
  show ((e1 dAll _ [some (.v (.lst (stD S))), none]).bind _).bind _ = _
  rw [a1]; rfl
 ·rw [sRet_ap]
  show (e1 dAll _ [some (.v (.lst (stD S))), none]).bind _ = _
  rw [a2]; rfl
theorem ranks_ok (M : Mch S rk c) : p_are_ranks [.lst (nats rk), .int S.length] = .ok (.bl true) := by
 have h8 := M.most
 have a1 := comp_all (E := E_are_ranks_0) (st := [some (.v (.lst (nats rk))), some (.v (.int S.length)), none]) (j := 2) (v := 0) (xs := nats rk) rfl (by rw [nats_len, M.rks]; omega) (fun d hd => by
  obtain ⟨x, hx, rfl⟩ := mem_nats hd
  simp [E_are_ranks_0, whole_int])
 refine run_rt rfl ?_
 unfold b_are_ranks
 refine seq_same (by simp [isLs, nats_len, M.rks]) ?_
 rw [sRet_ap]
 show (e1 dAll _ [some (.v (.lst (nats rk))), some (.v (.int S.length)), none]).bind _ = _
 rw [a1]; rfl
theorem fld_many : dFld "Machine" "many" (mD S rk c) = .ok (.int S.length) := by unfold mD; rw [dFld_ins, guardR_pos rfl]; rfl
theorem fld_steps : dFld "Machine" "steps" (mD S rk c) = .ok (.lst (stD S)) := by unfold mD; rw [dFld_ins, guardR_pos rfl]; rfl
end
end Pu
namespace Pu
section
variable {S : List (List Nat)} {rk : List Nat} {c : Nat}
theorem init_ok (M : Mch S rk c) : p_Machine___init__ [.lst (stD S), .lst (nats rk)] = .ok (mD S rk c) := by
 obtain ⟨r0, hr0, e0, l0⟩ := M.at0
 have h8 := M.most
 refine runI_ok fun x => ?_
 unfold runI1
 rw [guardR_pos (show ([D.lst (stD S), D.lst (nats rk)] : List D).length = 2 from rfl)]
 have hs := steps_ok M
 have hk := ranks_ok M
 have cp := comp_same (E := E_Machine___init___0) (st := [some (.o (.i x "Machine" []) []), some (.v (.lst (stD S))), some (.v (.lst (nats rk))), none]) (j := 3) (v := 1) (xs := stD S) rfl (by rw [stD_len]; omega) (fun d hd => by
  obtain ⟨r, hr, rfl⟩ := mem_stD hd
  simp [E_Machine___init___0])
 have key : b_Machine___init__ [some (.o (.i x "Machine" []) []), some (.v (.lst (stD S))), some (.v (.lst (nats rk))), none] = .ok (.nx [some (.o (.i x "Machine" ["steps", "ranks", "many", "letters"]) [.lst (stD S), .lst (nats rk), .int S.length, .int c]), some (.v (.lst (stD S))), some (.v (.lst (nats rk))), none]) := by
  unfold b_Machine___init__
  refine seq_same (by simp [hs]) (seq_same (by simp [stD_len, hk]) ?_)
  refine seq_nx (st' := [some (.o (.i x "Machine" ["steps"]) [.lst (stD S)]), some (.v (.lst (stD S))), some (.v (.lst (nats rk))), none]) ?_ ?_
  ·rw [sFldC_ap, cp]
   simp
  refine seq_nx (st' := [some (.o (.i x "Machine" ["steps", "ranks"]) [.lst (stD S), .lst (nats rk)]), some (.v (.lst (stD S))), some (.v (.lst (nats rk))), none]) (by simp) ?_
  refine seq_nx (st' := [some (.o (.i x "Machine" ["steps", "ranks", "many"]) [.lst (stD S), .lst (nats rk), .int S.length]), some (.v (.lst (stD S))), some (.v (.lst (nats rk))), none]) (by simp [stD_len]) ?_
  simp [e0, nats_len, l0]
 show (b_Machine___init__ [some (.o (.i x "Machine" []) []), some (.v (.lst (stD S))), some (.v (.lst (nats rk))), none]).bind _ = _
 rw [key]
 simp [mD]
end
end Pu
namespace Pu
theorem nats_cons (x : Nat) (l : List Nat) : nats (x :: l) = .int (x : Nat) :: nats l := rfl
theorem nats_plain : ∀ l : List Nat, plains (nats l) = true /\ deps (nats l) = 0 /\ eqDs (nats l) (nats l) = true
 | [] => ⟨rfl, by unfold nats; simp, by unfold nats; simp [eqDs]⟩
 | x :: l => by
  obtain ⟨h1, h2, h3⟩ := nats_plain l
  rw [nats_cons]
  refine ⟨by simp [h1], by simp [h2], ?_⟩
  unfold eqDs
  rw [h3]
  simp
theorem ne_nats (l : List Nat) : dNe (.lst (nats l)) (.lst (nats l)) = .ok (.bl false) /\ dEq (.lst (nats l)) (.lst (nats l)) = .ok (.bl true) := by
 obtain ⟨k1, k2, k3⟩ := nats_plain l
 have kd : dep (.lst (nats l)) = 1 := by unfold dep; rw [k2]
 have ke : eqD (.lst (nats l)) (.lst (nats l)) = true := by (conv => lhs; unfold eqD); exact k3
 have kp : plain (.lst (nats l)) = true := by (conv => lhs; unfold plain); exact k1
 rw [dNe_ap, dEq_ap, guardR_pos ⟨by omega, kp, kp⟩, guardR_pos ⟨by omega, kp, kp⟩, ke]
 exact ⟨rfl, rfl⟩
end Pu
namespace Pu
section
variable {S : List (List Nat)} {rk : List Nat} {c : Nat}
def stp (S : List (List Nat)) (q a : Nat) : Nat := (S.getD q []).getD a 0
theorem stp_at (M : Mch S rk c) {q a : Nat} (hq : q < S.length) (ha : a < c) : ∃ r, atI (stD S) (q : Int) = some (.lst (nats r)) /\ atI (nats r) (a : Int) = some (.int (stp S q a)) /\ stp S q a < S.length := by
 have hr := M.row S[q] (List.getElem_mem hq)
 have ha' : a < S[q].length := by rw [hr.1]; exact ha
 have e : stp S q a = S[q][a] := by
  simp [stp, List.getD_eq_getElem?_getD, List.getElem?_eq_getElem hq, List.getElem?_eq_getElem ha']
 refine ⟨S[q], ?_, ?_, ?_⟩
 ·rw [atI_nat (by rw [stD_len]; exact hq)]; simp [stD]
 ·rw [atI_nat (by rw [nats_len]; exact ha'), e]; simp [nats]
 ·rw [e]; exact hr.2 _ (List.getElem_mem ha')
end
theorem nodup_lt : ∀ (n : Nat) (l : List Nat), l.Nodup -> (∀ x ∈ l, x < n) -> l.length <= n
 | 0, l, _, h => by
  cases l with
  | nil => exact Nat.le_refl _
  | cons x l => exact absurd (h x List.mem_cons_self) (by omega)
 | n + 1, l, nd, h => by
  have ih := nodup_lt n (l.erase n) (nd.erase n) fun x hx => by
   have h1 := h x (List.mem_of_mem_erase hx)
   have h2 : x ≠ n := fun e => ((nd.mem_erase_iff).mp hx).1 e
   omega
  by_cases hm : n ∈ l
  ·rw [List.length_erase_of_mem hm] at ih; omega
  ·rw [List.erase_of_not_mem hm] at ih; omega
theorem in_nats (g : Nat) (l : List Nat) : inD (.int g) (nats l) = decide (g ∈ l) := by
 unfold inD nats
 rw [List.any_map]
 by_cases h : g ∈ l
 ·rw [decide_eq_true h, List.any_eq_true]
  exact ⟨g, h, by simp [eqD]⟩
 ·rw [decide_eq_false h, List.any_eq_false]
  intro x hx
  have : ¬ (x : Int) = (g : Int) := fun z => h (by have : x = g := by omega
                                                   rw [<- this]; exact hx)
  simp [eqD, this]
theorem at_stD {S : List (List Nat)} {q : Nat} (hq : q < S.length) : atI (stD S) (q : Int) = some (.lst (nats S[q])) := by
 rw [atI_nat (by rw [stD_len]; exact hq)]
 unfold stD
 rw [List.getElem_map]
end Pu
namespace Pu
def orN (l : List Nat) : Nat -> Nat := fun b => l.foldl (fun b r => b ||| 2 ^ r) b
theorem orN_bit (r : Nat) : ∀ (l : List Nat) (b : Nat), (orN l b).testBit r = (b.testBit r || decide (r ∈ l))
 | [], b => by simp [orN]
 | x :: l, b => by
  show (orN l (b ||| 2 ^ x)).testBit r = _
  rw [orN_bit r l, Nat.testBit_or, Nat.testBit_two_pow]
  by_cases h : x = r
  ·simp [h]
  ·have h' : ¬ r = x := fun z => h z.symm
   simp [h, h']
def setN (l : List Nat) : Nat := orN l 0
theorem setN_bit (l : List Nat) (r : Nat) : (setN l).testBit r = decide (r ∈ l) := by
 unfold setN
 rw [orN_bit, Nat.zero_testBit, Bool.false_or]
theorem setN_eq {l l' : List Nat} (h : ∀ r, r ∈ l ↔ r ∈ l') : setN l = setN l' := Nat.eq_of_testBit_eq fun r => by
 rw [setN_bit, setN_bit, decide_eq_decide.mpr (h r)]
def memN (n : Nat) : List Nat := (List.range (bitsN n)).filter fun r => n.testBit r
theorem bits_out {n r : Nat} (h : bitsN n <= r) : n.testBit r = false := by
 unfold bitsN at h
 by_cases h0 : (n : Int) = 0
 ·have : n = 0 := by omega
  rw [this, Nat.zero_testBit]
 ·rw [if_neg h0] at h
  have hn : n ≠ 0 := fun z => h0 (by rw [z]; rfl)
  have h1 : n < 2 ^ (n.log2 + 1) := (Nat.log2_lt hn).mp (Nat.lt_succ_self _)
  exact Nat.testBit_lt_two_pow (Nat.lt_of_lt_of_le h1 (Nat.pow_le_pow_right (by decide) (by simpa using h)))
theorem mem_memN {n r : Nat} : r ∈ memN n ↔ n.testBit r = true := by
 unfold memN
 rw [List.mem_filter, List.mem_range]
 refine ⟨fun h => h.2, fun h => ⟨?_, h⟩⟩
 rcases Nat.lt_or_ge r (bitsN n) with h1 | h1
 ·exact h1
 ·rw [bits_out h1] at h; cases h
theorem memN_setN {l : List Nat} {r : Nat} : r ∈ memN (setN l) ↔ r ∈ l := by
 rw [mem_memN, setN_bit, decide_eq_true_eq]
theorem memN_lt {n k r : Nat} (h : n < 2 ^ k) (hr : r ∈ memN n) : r < k := by
 rw [mem_memN] at hr
 rcases Nat.lt_or_ge r k with h1 | h1
 ·exact h1
 ·rw [Nat.testBit_lt_two_pow (Nat.lt_of_lt_of_le h (Nat.pow_le_pow_right (by decide) h1))] at hr
  cases hr
theorem bitsN_le {n k : Nat} (h : n < 2 ^ k) : bitsN n <= k := by
 unfold bitsN
 by_cases h0 : (n : Int) = 0
 ·rw [if_pos h0]; exact Nat.zero_le _
 ·rw [if_neg h0]
  have hn : n ≠ 0 := fun z => h0 (by rw [z]; rfl)
  have : n.log2 < k := (Nat.log2_lt hn).mpr h
  show (n : Int).natAbs.log2 + 1 <= k
  rw [Int.natAbs_natCast]
  omega
@[simp] theorem dShl_int (i j : Int) : dShl (.int i) (.int j) = guardR (0 <= j /\ j <= 1000000 /\ i.natAbs < 18446744073709551616) (.ok (.int (i * 2 ^ j.toNat))) := rfl
@[simp] theorem dShr_int (i j : Int) : dShr (.int i) (.int j) = guardR (0 <= j) (.ok (.int (i / 2 ^ j.toNat))) := rfl
@[simp] theorem dAnd_int (i j : Int) : dAnd (.int i) (.int j) = guardR (0 <= i /\ 0 <= j) (.ok (.int ((i.toNat &&& j.toNat : Nat) : Int))) := rfl
@[simp] theorem dOr_int (i j : Int) : dOr (.int i) (.int j) = guardR (0 <= i /\ 0 <= j) (.ok (.int ((i.toNat ||| j.toNat : Nat) : Int))) := rfl
@[simp] theorem dBitLen_int (i : Int) : dBitLen (.int i) = .ok (.int (bitsN i : Nat)) := rfl
theorem bit_test (n r : Nat) : (((n : Int) / 2 ^ r).toNat &&& (1 : Int).toNat) = if n.testBit r = true then 1 else 0 := by
 have e : ((n : Int) / 2 ^ r).toNat = n / 2 ^ r := by
  have : (n : Int) / 2 ^ r = ((n / 2 ^ r : Nat) : Int) := by push_cast; rfl
  rw [this, Int.toNat_natCast]
 rw [e, show (1 : Int).toNat = 1 from rfl, Nat.and_one_is_mod, Nat.testBit_eq_decide_div_mod_eq]
 by_cases h : n / 2 ^ r % 2 = 1
 ·simp [h]
 ·have : n / 2 ^ r % 2 = 0 := by omega
  simp [this]
theorem has_ok (n r : Nat) : p_has_room [.int n, .int r] = .ok (.bl (n.testBit r)) := by
 have hb := bit_test n r
 have h0 : 0 <= (n : Int) / 2 ^ r := Int.ediv_nonneg (by omega) (Int.pow_nonneg (by decide))
 refine run_rt rfl ?_
 unfold b_has_room
 show sRet _ [some (.v (.int n)), some (.v (.int r))] = _
 have e1 : e2 dShr (eVar 0) (eVar 1) [some (.v (.int n)), some (.v (.int r))] = .ok (.int ((n : Int) / 2 ^ r)) := by simp
 have e2' : e2 dAnd (e2 dShr (eVar 0) (eVar 1)) (eC (.int 1)) [some (.v (.int n)), some (.v (.int r))] = .ok (.int ((if n.testBit r = true then 1 else 0 : Nat) : Int)) := by
  rw [e2_ap, e1, bind_ok', eC_ap, bind_ok', dAnd_int, guardR_pos ⟨h0, by decide⟩, hb]
 rw [sRet_ap, e2_ap, e2']
 cases n.testBit r <;> simp
theorem compR_if {tg : Tg} {C E : Ex} {st : PSt} {q : Nat -> Bool} {G : Nat -> D} : ∀ (ks : List Nat), (∀ k ∈ ks, ∃ s1, tg (.int k) st = .ok s1 /\ C s1 = .ok (.bl (q k)) /\ E s1 = .ok (G k)) -> compR tg C E st (nats ks) = .ok ((ks.filter q).map G)
 | [], _ => rfl
 | k :: ks, h => by
  obtain ⟨s1, e1, e2, e3⟩ := h k List.mem_cons_self
  have ih := compR_if ks fun k hk => h k (List.mem_cons_of_mem _ hk)
  show compR tg C E st (.int k :: nats ks) = _
  rw [compR_cons, e1]
  cases hq : q k with
  | true =>
   rw [List.filter_cons_of_pos hq, List.map_cons]
   simp [e2, e3, hq, ih]
  | false =>
   rw [List.filter_cons_of_neg (by rw [hq]; decide)]
   simp [e2, hq, ih]
theorem rangeD_nats (n : Nat) : rangeD 0 n = nats (List.range n) := by
 rw [rangeD_zero]
 rfl
theorem rooms_ok {n k : Nat} (h : n < 2 ^ k) (hk : k <= 2000) : p_rooms_of [.int n] = .ok (.lst (nats (memN n))) := by
 have hb := bitsN_le h
 have e := compR_if (tg := tgN 1) (C := C_rooms_of_1) (E := E_rooms_of_0) (st := [some (.v (.int n)), none]) (q := fun r => n.testBit r) (G := fun r => .int r) (List.range (bitsN n)) (fun r _ => ⟨_, rfl, by
  simp [C_rooms_of_1, has_ok n r], by simp [E_rooms_of_0]⟩)
 refine run_rt rfl ?_
 unfold b_rooms_of
 show sRet _ [some (.v (.int n)), none] = _
 have hi : itR1 (e1 dBitLen (eVar 0)) [some (.v (.int n)), none] = .ok (nats (List.range (bitsN n))) := by
  simp [show ((bitsN n : Nat) : Int) <= (big : Int) from le_bigI (by omega)]
  exact rangeD_nats _
 rw [sRet_ap, eComp_ap, hi]
 simp only [bind_ok', nats_len, List.length_range]
 rw [guardR_pos (le_big (by omega)), show clr [1] [some (Sl.v (D.int n)), none] = [some (.v (.int n)), none] from rfl, e]
 rfl
theorem bits_loop (a : Option Sl) : ∀ (l : List Nat) (b : Nat) (x2 : Option Sl), (∀ r ∈ l, r <= 1000000) -> ∃ x2', forR (tgN 2) L_bits_of_0 (nats l) [a, some (.v (.int b)), x2] = .ok (.nx [a, some (.v (.int (orN l b))), x2'])
 | [], b, x2, _ => ⟨x2, rfl⟩
 | r :: l, b, x2, h => by
  obtain ⟨x2', e⟩ := bits_loop a l (b ||| 2 ^ r) (some (.v (.int r))) fun r hr => h r (List.mem_cons_of_mem _ hr)
  refine ⟨x2', ?_⟩
  have hr := h r List.mem_cons_self
  have hr' : (r : Int) <= 1000000 := by omega
  have ee : ((1 : Int) * 2 ^ (r : Int).toNat) = ((2 ^ r : Nat) : Int) := by push_cast; simp
  show forR (tgN 2) L_bits_of_0 (.int r :: nats l) _ = _
  rw [forR_cons]
  have e3 : (2 : Int) ^ r = ((2 ^ r : Nat) : Int) := by push_cast; rfl
  have t : L_bits_of_0 [a, some (.v (.int b)), some (.v (.int r))] = .ok (.nx [a, some (.v (.int ((b ||| 2 ^ r : Nat) : Int))), some (.v (.int r))]) := by
   have h1 : e2 dShl (eC (.int 1)) (eVar 2) [a, some (.v (.int b)), some (.v (.int r))] = .ok (.int ((2 ^ r : Nat) : Int)) := by
    simp only [e2_ap, eC_ap, eVar_ap, bind_ok', List.getElem?_cons_succ, List.getElem?_cons_zero]
    rw [dShl_int, guardR_pos ⟨by omega, hr', by decide⟩, ee]
   unfold L_bits_of_0
   rw [sSet_ap, e2_ap, h1]
   simp only [eVar_ap, bind_ok', List.getElem?_cons_succ, List.getElem?_cons_zero]
   rw [dOr_int, guardR_pos ⟨Int.natCast_nonneg _, Int.natCast_nonneg _⟩, Int.toNat_natCast, Int.toNat_natCast]
   rfl
  show (L_bits_of_0 [a, some (.v (.int b)), some (.v (.int r))]).bind _ = _
  rw [t]
  exact e
theorem bits_ok {l : List Nat} (h : ∀ r ∈ l, r <= 1000000) (hl : l.length <= 1000000) : p_bits_of [.lst (nats l)] = .ok (.int (setN l)) := by
 obtain ⟨x2', e⟩ := bits_loop (some (.v (.lst (nats l)))) l 0 none h
 refine run_rt rfl ?_
 unfold b_bits_of
 refine seq_nx (st' := [some (.v (.lst (nats l))), some (.v (.int 0)), none]) (by simp) ?_
 refine seq_nx (st' := [some (.v (.lst (nats l))), some (.v (.int (setN l))), x2']) ?_ (by simp)
 rw [sFor_ap, show itE (eVar 0) [some (Sl.v (D.lst (nats l))), some (.v (.int 0)), none] = .ok (nats l) from rfl, bind_ok']
 exact e
theorem memN_range {n k : Nat} (h : n < 2 ^ k) : (List.range k).filter (fun r => n.testBit r) = memN n := by
 have hb := bitsN_le h
 unfold memN
 obtain ⟨d, rfl⟩ : ∃ d, k = bitsN n + d := ⟨k - bitsN n, by omega⟩
 have h0 : ((List.range d).map (bitsN n + ·)).filter (fun r => n.testBit r) = [] := List.filter_eq_nil_iff.mpr fun x hx => by
  obtain ⟨y, _, rfl⟩ := List.mem_map.mp hx
  rw [bits_out (Nat.le_add_right _ _)]
  decide
 rw [List.range_add, List.filter_append, h0, List.append_nil]
end Pu
namespace Pu
inductive Rch (S : List (List Nat)) (c : Nat) (al : Nat -> Bool) (s : Nat) : Nat -> Prop where
 | here : Rch S c al s s
 | on {r l : Nat} : Rch S c al s r -> l < c -> al (stp S r l) = true -> Rch S c al s (stp S r l)
theorem memN_nodup (n : Nat) : (memN n).Nodup := List.nodup_range.filter _
theorem setN_lt {l : List Nat} {k : Nat} (h : ∀ r ∈ l, r < k) : setN l < 2 ^ k := Nat.lt_pow_two_of_testBit _ fun r hr => by
 rw [setN_bit]
 exact decide_eq_false fun z => by have := h r z; omega
open Classical in
noncomputable def seenN (S : List (List Nat)) (c n r : Nat) : Nat := setN ((List.range S.length).filter fun g => decide (Rch S c (fun g => n.testBit g) r g))
section
variable {S : List (List Nat)} {rk : List Nat} {c n : Nat}
theorem rch_lt (M : Mch S rk c) {al : Nat -> Bool} {s g : Nat} (hs : s < S.length) (h : Rch S c al s g) : g < S.length := by
 induction h with
 | here => exact hs
 | on _ hl _ ih => obtain ⟨_, _, _, h⟩ := stp_at M ih hl; exact h
theorem rch_in {al : Nat -> Bool} {s g : Nat} (hs : al s = true) (h : Rch S c al s g) : al g = true := by
 cases h with
 | here => exact hs
 | on _ _ ha => exact ha
open Classical in
theorem seenN_bit (M : Mch S rk c) {r : Nat} (hr : r < S.length) (g : Nat) : (seenN S c n r).testBit g = true ↔ Rch S c (fun g => n.testBit g) r g := by
 unfold seenN
 rw [setN_bit, decide_eq_true_eq, List.mem_filter, List.mem_range, decide_eq_true_eq]
 exact ⟨fun h => h.2, fun h => ⟨rch_lt M hr h, h⟩⟩
theorem step_mem (M : Mch S rk c) {a b : Nat} (ha : a < S.length) : b ∈ S.getD a [] ↔ ∃ l, l < c /\ stp S a l = b := by
 have hr := (M.row S[a] (List.getElem_mem ha)).1
 have hg : S.getD a [] = S[a] := by rw [List.getD_eq_getElem?_getD, List.getElem?_eq_getElem ha]; rfl
 have e : ∀ l, stp S a l = S[a].getD l 0 := fun l => by unfold stp; rw [hg]
 rw [hg]
 constructor
 ·intro h
  obtain ⟨l, hl, rfl⟩ := List.mem_iff_getElem.mp h
  exact ⟨l, by omega, by rw [e, List.getD_eq_getElem?_getD, List.getElem?_eq_getElem hl]; rfl⟩
 ·rintro ⟨l, hl, rfl⟩
  have hl' : l < S[a].length := by omega
  rw [e, List.getD_eq_getElem?_getD, List.getElem?_eq_getElem hl']
  exact List.getElem_mem hl'
theorem Rch.trans {al : Nat -> Bool} {a b d : Nat} (h1 : Rch S c al a b) (h2 : Rch S c al b d) : Rch S c al a d := by
 induction h2 with
 | here => exact h1
 | on _ hl ha ih => exact .on ih hl ha
end
theorem inl_ok (g : Nat) (l : List Nat) : dIn (.int g) (.lst (nats l)) = .ok (.bl (decide (g ∈ l))) := by
 obtain ⟨p1, p2, _⟩ := nats_plain l
 rw [<- in_nats]
 exact guardR_pos ⟨by rw [p2]; exact Nat.zero_le 60, rfl, p1⟩
theorem shl_ok {n : Nat} (h : n <= 1000000) : dShl (.int 1) (.int n) = .ok (.int ((2 ^ n : Nat) : Int)) := by
 have e : ((2 ^ n : Nat) : Int) = 1 * 2 ^ (n : Int).toNat := by rw [Int.one_mul, Int.toNat_natCast]; push_cast; rfl
 rw [e]
 exact guardR_pos ⟨by omega, by omega, by decide⟩
theorem andN_ok (a b : Nat) : dAnd (.int a) (.int b) = .ok (.int ((a &&& b : Nat) : Int)) := by
 rw [<- Int.toNat_natCast a, <- Int.toNat_natCast b]
 exact guardR_pos ⟨by omega, by omega⟩
theorem has_nats (g : Nat) (l : List Nat) : hasK (nats l) (.int g) = decide (g ∈ l) := by
 unfold hasK nats
 rw [List.any_map]
 by_cases h : g ∈ l
 ·rw [decide_eq_true h, List.any_eq_true]
  exact ⟨g, h, by simp [eqK]⟩
 ·rw [decide_eq_false h, List.any_eq_false]
  intro x hx
  have : ¬ (x : Int) = (g : Int) := fun z => h (by have e : x = g := by omega
                                                   rw [<- e]; exact hx)
  simp [eqK, this]
theorem get_nats (V : Nat -> D) {g : Nat} : ∀ {l : List Nat}, g ∈ l -> getK (nats l) (l.map V) (.int g) = some (V g)
 | [], h => nomatch h
 | x :: l, h => by
  show getK (.int x :: nats l) (V x :: l.map V) (.int g) = _
  unfold getK
  rw [List.zip_cons_cons, List.find?_cons]
  by_cases e : x = g
  ·simp [eqK, e]
  ·have : ¬ (x : Int) = (g : Int) := by omega
   simp only [eqK, beq_eq_false_iff_ne.mpr this]
   exact get_nats V ((List.mem_cons.mp h).resolve_left fun z => e z.symm)
theorem nats_app (l : List Nat) (x : Nat) : nats (l ++ [x]) = nats l ++ [.int x] := by unfold nats; simp
theorem at_seen {ks vs : List D} {g : Nat} {d : D} (h : getK ks vs (.int g) = some d) : dIx (.dct false ks vs) (.int g) = .ok d := by
 show guardR (keyOk false (.int g) = true) (ofO (getK ks vs (.int g))) = _
 rw [guardR_pos (c := keyOk false (.int g) = true) rfl, h]
 rfl
end Pu
namespace Pu
inductive Pw (B : Nat -> Nat -> Prop) (K : Nat -> Prop) : Nat -> Nat -> Prop where
 | one {a b : Nat} : B a b -> Pw B K a b
 | mid {a m b : Nat} : K m -> Pw B K a m -> Pw B K m b -> Pw B K a b
theorem Pw.cut {B : Nat -> Nat -> Prop} {K K' : Nat -> Prop} {k a b : Nat} (hK : ∀ m, K' m -> K m \/ m = k) (h : Pw B K' a b) : Pw B K a b \/ (Pw B K a k /\ Pw B K k b) := by
 induction h with
 | one h => exact .inl (.one h)
 | mid hm _ _ i1 i2 =>
  rename_i a m b _ _
  rcases hK m hm with hm | rfl
  ·rcases i1 with x | ⟨x1, x2⟩
   ·rcases i2 with y | ⟨y1, y2⟩
    ·exact .inl (.mid hm x y)
    ·exact .inr ⟨.mid hm x y1, y2⟩
   ·rcases i2 with y | ⟨y1, y2⟩
    ·exact .inr ⟨x1, .mid hm x2 y⟩
    ·exact .inr ⟨x1, y2⟩
  ·exact .inr ⟨i1.elim id fun z => z.1, i2.elim id fun z => z.2⟩
theorem Pw.mono {B : Nat -> Nat -> Prop} {K K' : Nat -> Prop} {a b : Nat} (hK : ∀ m, K m -> K' m) (h : Pw B K a b) : Pw B K' a b := by
 induction h with
 | one h => exact .one h
 | mid hm _ _ i1 i2 => exact .mid (hK _ hm) i1 i2
def overV (V : Nat -> Nat) (m : Nat) : Nat -> Nat := fun r => if (V r).testBit m = true then V r ||| V m else V r
theorem over_pw {B : Nat -> Nat -> Prop} {R : Nat -> Prop} (hR : ∀ a b, R a -> B a b -> R b) : ∀ (ks ds : List Nat) (V : Nat -> Nat), (∀ k ∈ ks, R k) -> (∀ r, R r -> ∀ g, (V r).testBit g = true ↔ Pw B (· ∈ ds) r g) -> ∀ r, R r -> ∀ g, ((ks.foldl overV V) r).testBit g = true ↔ Pw B (· ∈ ds ++ ks) r g
 | [], ds, V, _, h, r, hr, g => by rw [List.append_nil]; exact h r hr g
 | k :: ks, ds, V, hk, h, r, hr, g => by
  have e : ds ++ k :: ks = (ds ++ [k]) ++ ks := by simp
  rw [e]
  refine over_pw hR ks (ds ++ [k]) (overV V k) (fun x hx => hk x (List.mem_cons_of_mem _ hx)) (fun r hr g => ?_) r hr g
  have hk' := hk k List.mem_cons_self
  have up : ∀ {a b : Nat}, Pw B (· ∈ ds) a b -> Pw B (· ∈ ds ++ [k]) a b := fun z => z.mono fun m hm => List.mem_append_left _ hm
  have in_k : k ∈ ds ++ [k] := by simp
  unfold overV
  by_cases hb : (V r).testBit k = true
  ·rw [if_pos hb, Nat.testBit_or, Bool.or_eq_true, h r hr g, h k hk' g]
   constructor
   ·rintro (z | z)
    ·exact up z
    ·exact .mid in_k (up ((h r hr k).mp hb)) (up z)
   ·intro z
    rcases z.cut (K := (· ∈ ds)) (k := k) (fun m hm => by simpa using hm) with y | ⟨_, y⟩
    ·exact .inl y
    ·exact .inr y
  ·rw [if_neg hb, h r hr g]
   constructor
   ·exact up
   ·intro z
    rcases z.cut (K := (· ∈ ds)) (k := k) (fun m hm => by simpa using hm) with y | ⟨y, _⟩
    ·exact y
    ·exact absurd ((h r hr k).mpr y) hb
section
variable {S : List (List Nat)} {rk : List Nat} {c n : Nat}
def nearV (S : List (List Nat)) (n : Nat) : Nat -> Nat := fun r => (setN (S.getD r []) ||| 2 ^ r) &&& n
theorem near_bit {r g : Nat} : (nearV S n r).testBit g = true ↔ (r = g \/ g ∈ S.getD r []) /\ n.testBit g = true := by
 unfold nearV
 rw [Nat.testBit_and, Nat.testBit_or, setN_bit, Nat.testBit_two_pow, Bool.and_eq_true, Bool.or_eq_true, decide_eq_true_eq, decide_eq_true_eq]
 exact ⟨fun h => ⟨h.1.symm, h.2⟩, fun h => ⟨h.1.symm, h.2⟩⟩
theorem among_bit (M : Mch S rk c) (hn : n < 2 ^ S.length) {r : Nat} (hr : r ∈ memN n) (g : Nat) : (((memN n).foldl overV (nearV S n)) r).testBit g = true ↔ Rch S c (fun g => n.testBit g) r g := by
 have hp := over_pw (B := fun a b => (a = b \/ b ∈ S.getD a []) /\ n.testBit b = true) (R := (· ∈ memN n)) (fun a b _ h => mem_memN.mpr h.2) (memN n) [] (nearV S n) (fun k hk => hk) (fun r _ g => by
  rw [near_bit]
  constructor
  ·exact fun h => .one h
  ·intro h
   cases h with
   | one h => exact h
   | mid h _ _ => cases h) r hr g
 rw [hp, List.nil_append]
 clear hp
 constructor
 ·intro h
  have hi : ∀ {a b : Nat}, Pw (fun a b => (a = b \/ b ∈ S.getD a []) /\ n.testBit b = true) (· ∈ memN n) a b -> a ∈ memN n -> Rch S c (fun g => n.testBit g) a b := by
   intro a b h
   induction h with
   | one h =>
    intro ha
    obtain ⟨rfl | h1, h2⟩ := h
    ·exact .here
    ·obtain ⟨l, hl, rfl⟩ := (step_mem M (memN_lt hn ha)).mp h1
     exact .on .here hl h2
   | mid hm _ _ i1 i2 => exact fun ha => Rch.trans (i1 ha) (i2 hm)
  exact hi h hr
 ·intro h
  induction h with
  | here => exact .one ⟨.inl rfl, mem_memN.mp hr⟩
  | on h1 hl ha ih =>
   have hx : _ ∈ memN n := mem_memN.mpr (rch_in (al := fun g => n.testBit g) (mem_memN.mp hr) h1)
   exact .mid hx ih (.one ⟨.inr ((step_mem M (memN_lt hn hx)).mpr ⟨_, hl, rfl⟩), ha⟩)
theorem among_is (M : Mch S rk c) (hn : n < 2 ^ S.length) {r : Nat} (hr : r ∈ memN n) : ((memN n).foldl overV (nearV S n)) r = seenN S c n r := Nat.eq_of_testBit_eq fun g => by
 have e := (among_bit M hn hr g).trans (seenN_bit M (memN_lt hn hr) g).symm
 cases h1 : (((memN n).foldl overV (nearV S n)) r).testBit g with
 | true => exact (e.mp h1).symm
 | false =>
  cases h2 : (seenN S c n r).testBit g with
  | true => rw [e.mpr h2] at h1; cases h1
  | false => rfl
theorem orNN_ok (a b : Nat) : dOr (.int a) (.int b) = .ok (.int ((a ||| b : Nat) : Int)) := by
 rw [<- Int.toNat_natCast a, <- Int.toNat_natCast b]
 exact guardR_pos ⟨by omega, by omega⟩
def amst (S : List (List Nat)) (n : Nat) (ks : List Nat) (V : Nat -> Nat) (x4 x5 : Option Sl) : PSt := [some (.v (.lst (stD S))), some (.v (.int n)), some (.v (.lst (nats (memN n)))), some (.o (.d false (nats ks)) (ks.map fun r => D.int (V r : Nat))), x4, x5]
theorem put_new {ks : List Nat} {V : Nat -> Nat} {r : Nat} {x : D} (hr : r ∉ ks) : putKs (nats ks) (.int r) = nats (ks ++ [r]) /\ putVs (nats ks) (ks.map fun r => D.int (V r : Nat)) (.int r) x = (ks.map fun r => D.int (V r : Nat)) ++ [x] := by
 have hk : hasK (nats ks) (.int r) = false := by rw [has_nats, decide_eq_false hr]
 unfold putKs putVs
 rw [hk, nats_app]
 exact ⟨rfl, rfl⟩
theorem put_old {ks : List Nat} {V : Nat -> Nat} {r x : Nat} (hr : r ∈ ks) : putKs (nats ks) (.int r) = nats ks /\ putVs (nats ks) (ks.map fun r => D.int (V r : Nat)) (.int r) (.int x) = ks.map fun k => D.int ((if k = r then x else V k : Nat) : Int) := by
 have hk : hasK (nats ks) (.int r) = true := by rw [has_nats, decide_eq_true hr]
 unfold putKs putVs
 rw [hk, if_pos rfl, if_pos rfl]
 refine ⟨rfl, ?_⟩
 unfold nats
 rw [List.zip_map', List.map_map]
 refine List.map_congr_left fun k _ => ?_
 show (if eqK (.int (k : Int)) (.int (r : Int)) = true then D.int (x : Int) else D.int (V k : Int)) = _
 by_cases e : k = r
 ·rw [if_pos e, if_pos (by rw [e]; simp [eqK])]
 ·have : ¬ (k : Int) = (r : Int) := by omega
  rw [if_neg e, if_neg (by simp [eqK, this])]
theorem dput_ok {i : Nat} {g f : Ex} {st : PSt} {k d : D} {ks vs : List D} (hf : f st = .ok d) (hg : g st = .ok k) (hs : st[i]? = some (some (.o (.d false ks) vs))) (hk : keyOk false k = true) (hl : vs.length < 1000) : sDPut i g f st = .ok (.nx (st.set i (some (.o (.d false (putKs ks k)) (putVs ks vs k d))))) := by
 unfold sDPut
 rw [hf, bind_ok', hg, bind_ok', hs]
 exact guardR_pos ⟨hk, lt_big (by omega)⟩
theorem near_loop (M : Mch S rk c) : ∀ (rs ks : List Nat) (x4 : Option Sl), (ks ++ rs).Nodup -> (∀ r ∈ ks ++ rs, r < S.length) -> ∃ x4', forR (tgN 4) L_seen_among_0 (nats rs) (amst S n ks (nearV S n) x4 none) = .ok (.nx (amst S n (ks ++ rs) (nearV S n) x4' none))
 | [], ks, x4, _, _ => ⟨x4, by rw [List.append_nil]; rfl⟩
 | r :: rs, ks, x4, nd, hl => by
  have n8 := M.most
  have h1 : ks ++ r :: rs = (ks ++ [r]) ++ rs := by simp
  rw [h1] at nd hl
  obtain ⟨x4', e⟩ := near_loop M rs (ks ++ [r]) (some (.v (.int r))) nd hl
  refine ⟨x4', ?_⟩
  rw [h1]
  have hr : r ∉ ks := fun z => (List.nodup_append.mp (List.nodup_append.mp nd).1).2.2 r z r (List.mem_singleton.mpr rfl) rfl
  have hrl : r < S.length := hl r (by simp)
  have hlen : ks.length <= S.length := nodup_lt S.length ks (List.nodup_append.mp (List.nodup_append.mp nd).1).1 fun x hx => hl x (by simp [hx])
  have hg : S.getD r [] = S[r] := by rw [List.getD_eq_getElem?_getD, List.getElem?_eq_getElem hrl]; rfl
  have hrow := M.row S[r] (List.getElem_mem hrl)
  have c3 := M.c3
  have hb := bits_ok (l := S[r]) (fun x hx => by have := hrow.2 x hx; omega) (by rw [hrow.1]; omega)
  obtain ⟨p1, p2⟩ := put_new (V := nearV S n) (x := .int (nearV S n r : Nat)) hr
  refine for_go rfl (s2 := amst S n (ks ++ [r]) (nearV S n) (some (.v (.int r))) none) ?_ e
  have hv : e2 dAnd (e2 dOr (eCall p_bits_of (aCons (e2 dIx (eVar 0) (eVar 4)) (aNil))) (e2 dShl (eC (.int 1)) (eVar 4))) (eVar 1) (amst S n ks (nearV S n) (some (.v (.int r))) none) = .ok (.int (nearV S n r : Nat)) := by
   unfold nearV
   rw [hg]
   exact op_ok (op_ok (call_ok (arg_ok (op_ok rfl rfl (ix_ok (at_stD hrl))) rfl) hb) (op_ok rfl rfl (shl_ok (by omega))) (orNN_ok _ _)) rfl (andN_ok _ _)
  refine (dput_ok hv rfl rfl rfl (by rw [List.length_map]; omega)).trans ?_
  rw [p1, p2]
  unfold amst
  rw [List.map_append]
  rfl
theorem over_turn {ks : List Nat} {V : Nat -> Nat} {r m : Nat} (hl : ks.length < 1000) (hr : r ∈ ks) (hm : m ∈ ks) : L_seen_among_1 (amst S n ks V (some (.v (.int r))) (some (.v (.int m)))) = .ok (.nx (amst S n ks (fun k => if k = r then overV V m r else V k) (some (.v (.int r))) (some (.v (.int m))))) := by
 have gr : e2 dIx (ePeek 3) (eVar 4) (amst S n ks V (some (.v (.int r))) (some (.v (.int m)))) = .ok (.int (V r : Nat)) := op_ok rfl rfl (at_seen (get_nats (fun r => D.int (V r : Nat)) hr))
 have gm : e2 dIx (ePeek 3) (eVar 5) (amst S n ks V (some (.v (.int r))) (some (.v (.int m)))) = .ok (.int (V m : Nat)) := op_ok rfl rfl (at_seen (get_nats (fun r => D.int (V r : Nat)) hm))
 have t := call_ok (arg_ok gr (show aCons (eVar 5) aNil (amst S n ks V (some (.v (.int r))) (some (.v (.int m)))) = .ok [.int m] from rfl)) (has_ok (V r) m)
 by_cases hb : (V r).testBit m = true
 ·rw [hb] at t
  obtain ⟨p1, p2⟩ := put_old (V := V) (x := V r ||| V m) hr
  refine if_t t ((dput_ok (op_ok gr gm (orNN_ok _ _)) rfl rfl rfl (by rw [List.length_map]; omega)).trans ?_)
  rw [p1, p2]
  unfold overV
  rw [if_pos hb]
  rfl
 ·rw [Bool.eq_false_iff.mpr hb] at t
  refine if_f t ?_
  have : (fun k => if k = r then overV V m r else V k) = V := funext fun k => by
   by_cases e : k = r
   ·rw [if_pos e, e]; unfold overV; rw [if_neg hb]
   ·rw [if_neg e]
  rw [this]
  rfl
theorem over_loop {ks : List Nat} {V : Nat -> Nat} {m : Nat} (hl : ks.length < 1000) (hm : m ∈ ks) : ∀ (rs : List Nat) (W : Nat -> Nat) (x4 : Option Sl), (∀ r ∈ rs, r ∈ ks) -> W m = V m -> (∀ r ∈ rs, W r = V r \/ W r = overV V m r) -> ∃ W' x4', forR (tgN 4) L_seen_among_1 (nats rs) (amst S n ks W x4 (some (.v (.int m)))) = .ok (.nx (amst S n ks W' x4' (some (.v (.int m))))) /\ ∀ r, W' r = if r ∈ rs then overV V m r else W r
 | [], W, x4, _, _, _ => ⟨W, x4, rfl, fun r => by rw [if_neg (by simp)]⟩
 | r :: rs, W, x4, hs, hw, hv => by
  have ho : overV W m r = overV V m r := by
   rcases hv r List.mem_cons_self with h | h
   ·unfold overV; rw [h, hw]
   ·unfold overV at h ⊢
    rw [h, hw]
    by_cases hb : (V r).testBit m = true
    ·rw [if_pos hb]
     by_cases hb2 : (V r ||| V m).testBit m = true
     ·rw [if_pos hb2, Nat.or_assoc, Nat.or_self]
     ·rw [if_neg hb2]
    ·rw [if_neg hb, if_neg hb]
  have hom : overV V m m = V m := by
   unfold overV
   split
   ·exact Nat.or_self _
   ·rfl
  obtain ⟨W', x4', e, h⟩ := over_loop hl hm rs (fun k => if k = r then overV W m r else W k) (some (.v (.int r))) (fun x hx => hs x (List.mem_cons_of_mem _ hx)) (by
   show (if m = r then overV W m r else W m) = V m
   by_cases e : m = r
   ·rw [if_pos e, ho, <- e, hom]
   ·rw [if_neg e, hw]) (fun x hx => by
   show (if x = r then overV W m r else W x) = V x \/ (if x = r then overV W m r else W x) = overV V m x
   by_cases e : x = r
   ·rw [if_pos e, ho, e]; exact .inr rfl
   ·rw [if_neg e]; exact hv x (List.mem_cons_of_mem _ hx))
  refine ⟨W', x4', for_go rfl (over_turn hl (hs r List.mem_cons_self) hm) e, fun x => ?_⟩
  rw [h x]
  by_cases hx : x ∈ rs
  ·rw [if_pos hx, if_pos (List.mem_cons_of_mem _ hx)]
  ·rw [if_neg hx]
   by_cases e : x = r
   ·rw [if_pos e, if_pos (by rw [e]; exact List.mem_cons_self), ho, e]
   ·rw [if_neg e, if_neg (by simp [e, hx])]
theorem amst_congr {ks : List Nat} {V W : Nat -> Nat} {x4 x5 : Option Sl} (h : ∀ k ∈ ks, V k = W k) : amst S n ks V x4 x5 = amst S n ks W x4 x5 := by
 unfold amst
 rw [List.map_congr_left fun k hk => congrArg (fun x : Nat => D.int (x : Int)) (h k hk)]
theorem mids_loop (hl : (memN n).length < 1000) : ∀ (ms : List Nat) (V : Nat -> Nat) (x4 x5 : Option Sl), (∀ m ∈ ms, m ∈ memN n) -> ∃ x4' x5', forR (tgN 5) L_seen_among_2 (nats ms) (amst S n (memN n) V x4 x5) = .ok (.nx (amst S n (memN n) (ms.foldl overV V) x4' x5'))
 | [], V, x4, x5, _ => ⟨x4, x5, rfl⟩
 | m :: ms, V, x4, x5, hs => by
  obtain ⟨W, y4, e, h⟩ := over_loop (S := S) (n := n) (V := V) hl (hs m List.mem_cons_self) (memN n) V x4 (fun r hr => hr) rfl fun r _ => .inl rfl
  obtain ⟨z4, z5, e'⟩ := mids_loop hl ms (overV V m) y4 (some (.v (.int m))) fun x hx => hs x (List.mem_cons_of_mem _ hx)
  refine ⟨z4, z5, for_go rfl (for_ok (L := L_seen_among_1) rfl e) ?_⟩
  rw [amst_congr (W := overV V m) fun k hk => by rw [h k, if_pos hk]]
  exact e'
theorem among_ok (M : Mch S rk c) (hn : n < 2 ^ S.length) : p_seen_among [.lst (stD S), .int n] = .ok (.dct false (nats (memN n)) ((memN n).map fun r => D.int (seenN S c n r : Nat))) := by
 have n8 := M.most
 have hro := rooms_ok hn (by omega)
 have hlen : (memN n).length <= S.length := nodup_lt S.length _ (memN_nodup _) fun x hx => memN_lt hn hx
 obtain ⟨x4, e1⟩ := near_loop (n := n) M (memN n) [] none (memN_nodup n) fun r hr => memN_lt hn hr
 obtain ⟨y4, y5, e2⟩ := mids_loop (S := S) (n := n) (by omega) (memN n) (nearV S n) x4 none fun m hm => hm
 refine run_rt rfl (seq_nx (st' := [some (.v (.lst (stD S))), some (.v (.int n)), some (.v (.lst (nats (memN n)))), none, none, none]) (set_ok (call_ok rfl hro)) (seq_nx (st' := amst S n [] (nearV S n) none none) rfl (seq_nx (for_ok rfl e1) (seq_nx (for_ok rfl e2) ?_))))
 rw [amst_congr fun k hk => among_is M hn hk]
 rfl
end
end Pu
namespace Pu
def cvL (ns : List Int) (k : Nat) : Int := if k < ns.length then ns.getD k 0 else if ns.length = 0 then 7919 * (k : Int) else ns.getD (k % ns.length) 0 / ((k : Int) + 1) + 7919 * (k : Int)
theorem atI_nsL {ns : List Int} {k : Nat} (h : k < ns.length) : atI (ns.map D.int) (k : Int) = some (.int (ns.getD k 0)) := by
 rw [atI_nat (by simpa using h)]
 simp [List.getD_eq_getElem?_getD, List.getElem?_eq_getElem h]
theorem ints_plain : ∀ ns : List Int, plains (ns.map D.int) = true /\ deps (ns.map D.int) = 0
 | [] => ⟨rfl, by simp⟩
 | x :: ns => by
  obtain ⟨h1, h2⟩ := ints_plain ns
  rw [List.map_cons]
  exact ⟨by simp [h1], by simp [h2]⟩
theorem ints_nil (ns : List Int) : eqDs (ns.map D.int) [] = decide (ns.length = 0) := by
 cases ns <;> simp [eqDs]
theorem cellL_ok (ns : List Int) (k : Nat) (hk : k <= 100000) : p__law_cell [.lst (ns.map D.int), .int k] = .ok (.int (cvL ns k)) := by
 have ln : e1 dLen (eVar 0) [some (.v (.lst (ns.map D.int))), some (.v (.int k))] = .ok (.int (ns.length : Nat)) := by
  show R.ok (D.int (((ns.map D.int).length : Nat) : Int)) = _
  rw [List.length_map]
 have m7 : ∀ i : Int, dMulI (.int 7919) (.int i) = .ok (.int (7919 * i)) := fun i => guardR_pos (.inl (by decide))
 refine run_rt rfl ?_
 unfold cvL
 by_cases h : k < ns.length
 ·rw [if_pos h]
  exact seq_rt (if_t (op_ok rfl ln (by show R.ok (D.bl (decide ((k : Int) < (ns.length : Nat)))) = _; rw [lt_t h])) (ret_ok (op_ok rfl rfl (ix_ok (atI_nsL h)))))
 ·rw [if_neg h]
  obtain ⟨p1, p2⟩ := ints_plain ns
  have t2 : e2 dEq (eVar 0) (eLst (aNil)) [some (.v (.lst (ns.map D.int))), some (.v (.int k))] = .ok (.bl (decide (ns.length = 0))) := op_ok rfl (lst_ok rfl) (by
   rw [<- ints_nil]
   exact guardR_pos ⟨by show deps (ns.map D.int) + 1 <= 64; rw [p2]; decide, p1, rfl⟩)
  refine seq_nx (if_f (op_ok rfl ln (by show R.ok (D.bl (decide ((k : Int) < (ns.length : Nat)))) = _; rw [lt_f h])) rfl) ?_
  by_cases h0 : ns.length = 0
  ·rw [if_pos h0]
   exact seq_rt (if_t (ok_bl t2 (decide_eq_true h0)) (ret_ok (op_ok rfl rfl (m7 _))))
  ·rw [if_neg h0]
   have hm : k % ns.length < ns.length := Nat.mod_lt _ (Nat.pos_of_ne_zero h0)
   have ec : ((k % ns.length : Nat) : Int) = (k : Int) % (ns.length : Nat) := by push_cast; rfl
   have e := atI_nsL hm
   rw [ec] at e
   exact seq_nx (if_f (ok_bl t2 (decide_eq_false h0)) rfl) (ret_ok (op_ok (op_ok (op_ok rfl (op_ok rfl ln (mod_ok (by omega))) (ix_ok e)) (op_ok rfl rfl rfl) (fdiv_ok ⟨by omega, by omega⟩)) (op_ok rfl rfl (m7 _)) rfl))
theorem cellL_ok' (ns : List Int) (i : Int) (h : 0 <= i) (hi : i <= 100000) : p__law_cell [.lst (ns.map D.int), .int i] = .ok (.int (cvL ns i.toNat)) := by
 have := cellL_ok ns i.toNat (by omega)
 rwa [Int.toNat_of_nonneg h] at this
def mixL (c k m : Int) : Int :=
 let a := (c % 2147483647 + 7919 * k) * 48271 % 2147483629
 let b := a * a % 2147483647 * 69621 % 2147483587
 b * b % 2147483629 % m
theorem mixL_lt (c k : Int) {m : Int} (h : 0 < m) : 0 <= mixL c k m /\ mixL c k m < m := ⟨Int.emod_nonneg _ (by omega), Int.emod_lt_of_pos _ h⟩
theorem mixL_ok (c k m : Int) (h : 0 < m) : p__law_mix [.int c, .int k, .int m] = .ok (.int (mixL c k m)) := by
 unfold p__law_mix b__law_mix mixL
 have a0 : ∀ x : Int, 0 <= x % 2147483629 := fun x => Int.emod_nonneg _ (by decide)
 have a1 : ∀ x : Int, x % 2147483629 < 2147483629 := fun x => Int.emod_lt_of_pos _ (by decide)
 have b0 : ∀ x : Int, 0 <= x % 2147483587 := fun x => Int.emod_nonneg _ (by decide)
 have b1 : ∀ x : Int, x % 2147483587 < 2147483587 := fun x => Int.emod_lt_of_pos _ (by decide)
 generalize hA : (c % 2147483647 + 7919 * k) * 48271 % 2147483629 = a
 have h1 := a0 ((c % 2147483647 + 7919 * k) * 48271)
 have h2 := a1 ((c % 2147483647 + 7919 * k) * 48271)
 rw [hA] at h1 h2
 generalize hB : a * a % 2147483647 * 69621 % 2147483587 = b
 have h3 := b0 (a * a % 2147483647 * 69621)
 have h4 := b1 (a * a % 2147483647 * 69621)
 rw [hB] at h3 h4
 have g1 : -18446744073709551616 < a := by omega
 have g2 : a < 18446744073709551616 := by omega
 have g3 : -18446744073709551616 < b := by omega
 have g4 : b < 18446744073709551616 := by omega
 simp [hA, g1, g2, hB, g3, g4, h]
end Pu
namespace Pu
section
variable {ns : List Int} {cl f : Int} {n c : Nat}
def mst (ns : List Int) (mo cl f : Int) (n c : Nat) (S rk : List D) (x9 x10 x11 x12 : Option Sl) : PSt :=
 [some (.v (.lst (ns.map D.int))), some (.v (.int 0)), some (.v (.int mo)), some (.v (.int cl)), some (.v (.int n)), some (.v (.int c)), some (.v (.int f)), some (.o .l S), some (.o .l rk), x9, x10, x11, x12, none]
theorem put_nats (r : List Nat) (k v : Nat) : (nats r).set k (.int (v : Int)) = nats (r.set k v) := by
 unfold nats
 rw [List.map_set]
theorem stD_app (S : List (List Nat)) (r : List Nat) : stD (S ++ [r]) = stD S ++ [.lst (nats r)] := by unfold stD; simp
theorem natsZ_app (rk : List Nat) {v : Int} (h : 0 <= v) : nats (rk ++ [v.toNat]) = nats rk ++ [.int v] := by
 unfold nats
 rw [List.map_append, List.map_singleton, Int.toNat_of_nonneg h]
theorem mulS_ok {v f : Int} (h0 : 0 <= v) (h7 : v < 7) : dMulI (.int v) (.int f) = .ok (.int (v * f)) := guardR_pos (.inl ⟨by omega, by omega⟩)
theorem put_ok {i : Nat} {g e : Ex} {st : PSt} {d : D} {j : Int} {xs : List D} (he : e st = .ok d) (hg : g st = .ok (.int j)) (hs : st[i]? = some (some (.o .l xs))) (h0 : 0 <= j) (h1 : j < xs.length) : sPut i g e st = .ok (.nx (st.set i (some (.o .l (xs.set j.toNat d))))) := by
 have : ixN xs.length j = some j.toNat := by
  unfold ixN
  rw [if_pos h0, if_pos h1]
 rw [sPut_ap, he, bind_ok', hg, bind_ok', hs]
 show R.bind (ofO (ixN xs.length j)) _ = _
 rw [this]
 rfl
theorem turn_machL (mo : Int) (hf : 0 <= f) (hn : 1 <= n /\ n <= 8) (hc : 1 <= c /\ c <= 3) (S : List (List Nat)) (rk : List Nat) (hS : S.length <= 1000) (hrk : rk.length <= 1000) (x : Nat) (hx : x < n) (x10 x11 x12 : Option Sl) :
  ∃ r v y10 y11 y12, L__law_machine_2 (mst ns mo cl f n c (stD S) (nats rk) (some (.v (.int x))) x10 x11 x12) = .ok (.nx (mst ns mo cl f n c (stD (S ++ [r])) (nats (rk ++ [v])) (some (.v (.int x))) y10 y11 y12)) /\ r.length = c /\ ∀ z ∈ r, z < n := by
 have hcell := cellL_ok' ns (0 + 2 + x) (by omega) (by omega)
 generalize cvL ns (0 + 2 + (x : Int)).toNat = one at hcell
 have n0 : (0 : Int) < n := by omega
 have c0 : (0 : Int) < c := by omega
 obtain ⟨r0, e0, l0, b0⟩ := comp_nats (E := E__law_machine_0) (st := mst ns mo cl f n c (stD S) (nats rk) (some (.v (.int x))) (some (.v (.int one))) x11 x12) (j := 13) (v := 5) (n := c) (m := n) rfl (by omega) (fun k hk => ⟨mixL one (11 + k) n, call_ok rfl (mixL_ok _ _ _ n0), mixL_lt _ _ n0⟩)
 have m0 := mixL_ok one 10 7 (by decide)
 obtain ⟨m1, m2⟩ := mixL_lt one 10 (m := 7) (by decide)
 generalize mixL one 10 7 = rv at m0 m1 m2
 obtain ⟨r1, e1', l1, b1⟩ := comp_nats (E := E__law_machine_1) (st := mst ns mo cl f n c (stD S) (nats rk) (some (.v (.int x))) (some (.v (.int one))) (some (.o .l (nats r0))) (some (.v (.int rv)))) (j := 13) (v := 5) (n := c) (m := n) rfl (by omega) (fun k hk => by
  have go : ∀ w : Int, 0 < w /\ w < 1073741824 -> atI [D.int 1, .int 8, .int 64] (k : Int) = some (.int w) -> ∃ i, E__law_machine_1 (((mst ns mo cl f n c (stD S) (nats rk) (some (.v (.int x))) (some (.v (.int one))) (some (.o .l (nats r0))) (some (.v (.int rv)))).set 13 none).set 13 (some (.v (.int k)))) = .ok (.int i) /\ 0 <= i /\ i < n := fun w hw ha => by
   refine ⟨one / w % n, op_ok (op_ok rfl (op_ok (lst_ok rfl) rfl (?_ : _ = R.ok (D.int w))) (fdiv_ok hw)) rfl (mod_ok n0), Int.emod_nonneg _ (by omega), Int.emod_lt_of_pos _ n0⟩
   show ofO (atI [D.int 1, .int 8, .int 64] (k : Int)) = _
   rw [ha]
   rfl
  have h3 : k = 0 \/ k = 1 \/ k = 2 := by omega
  rcases h3 with rfl | rfl | rfl
  ·exact go 1 (by decide) rfl
  ·exact go 8 (by decide) rfl
  ·exact go 64 (by decide) rfl)
 have m6 := mixL_ok cl 6 2 (by decide)
 have m3 := mixL_ok cl 3 2 (by decide)
 have m8 := mixL_ok one 8 4 (by decide)
 have m9 := mixL_ok one 9 c c0
 obtain ⟨m91, m92⟩ := mixL_lt one 9 (m := c) c0
 have up : ∀ {r : List Nat} {v : Int} (b : Bd), 0 <= v -> v < 7 -> r.length = c -> (∀ z ∈ r, z < n) -> b (mst ns mo cl f n c (stD S) (nats rk) (some (.v (.int x))) (some (.v (.int one))) (some (.o .l (nats r0))) (some (.v (.int rv)))) = .ok (.nx (mst ns mo cl f n c (stD S) (nats rk) (some (.v (.int x))) (some (.v (.int one))) (some (.o .l (nats r))) (some (.v (.int v))))) ->
   ∃ r v y10 y11 y12, (sSeq b (sSeq (sFz [11] (sApp 7 (eVar 11))) (sApp 8 (e2 dMulI (eVar 12) (eVar 6))))) (mst ns mo cl f n c (stD S) (nats rk) (some (.v (.int x))) (some (.v (.int one))) (some (.o .l (nats r0))) (some (.v (.int rv)))) = .ok (.nx (mst ns mo cl f n c (stD (S ++ [r])) (nats (rk ++ [v])) (some (.v (.int x))) y10 y11 y12)) /\ r.length = c /\ ∀ z ∈ r, z < n := fun {r v} b h0 h7 hl hr h => by
  refine ⟨r, (v * f).toNat, some (.v (.int one)), some (.v (.lst (nats r))), some (.v (.int v)), seq_nx h ?_, hl, hr⟩
  rw [stD_app, natsZ_app rk (Int.mul_nonneg h0 hf)]
  refine seq_nx (st' := mst ns mo cl f n c (stD S ++ [.lst (nats r)]) (nats rk) (some (.v (.int x))) (some (.v (.int one))) (some (.v (.lst (nats r)))) (some (.v (.int v)))) ?_ ?_
  ·exact app_ok (st := mst ns mo cl f n c (stD S) (nats rk) (some (.v (.int x))) (some (.v (.int one))) (some (.v (.lst (nats r)))) (some (.v (.int v)))) rfl rfl (by rw [stD_len]; omega)
  ·exact app_ok (op_ok rfl rfl (mulS_ok h0 h7)) rfl (by rw [nats_len]; omega)
 have key : ∃ r v y10 y11 y12, (sSeq (sIf (e2 dEq (eCall p__law_mix (aCons (eVar 3) (aCons (eC (.int 6)) (aCons (eC (.int 2)) (aNil))))) (eC (.int 0))) (sSeq (sSetO 11 (eComp [13] (tgN 13) (itR1 (eVar 5)) eTrue (E__law_machine_1))) (sSet 12 (e2 dMod (e2 dFdiv (eVar 10) (eC (.int 512))) (eC (.int 7))))) (sIf (eAnd (e2 dEq (eCall p__law_mix (aCons (eVar 3) (aCons (eC (.int 3)) (aCons (eC (.int 2)) (aNil))))) (eC (.int 0))) (e2 dGt (eCall p__law_mix (aCons (eVar 10) (aCons (eC (.int 8)) (aCons (eC (.int 4)) (aNil))))) (eC (.int 0)))) (sPut 11 (eCall p__law_mix (aCons (eVar 10) (aCons (eC (.int 9)) (aCons (eVar 5) (aNil))))) (e2 dMod (e2 dAdd (eVar 9) (eC (.int 1))) (eVar 4))) (sNext))) (sSeq (sFz [11] (sApp 7 (eVar 11))) (sApp 8 (e2 dMulI (eVar 12) (eVar 6))))) (mst ns mo cl f n c (stD S) (nats rk) (some (.v (.int x))) (some (.v (.int one))) (some (.o .l (nats r0))) (some (.v (.int rv)))) = .ok (.nx (mst ns mo cl f n c (stD (S ++ [r])) (nats (rk ++ [v])) (some (.v (.int x))) y10 y11 y12)) /\ r.length = c /\ ∀ z ∈ r, z < n := by
  have t6 := op_ok (op := dEq) (f := eCall p__law_mix (aCons (eVar 3) (aCons (eC (.int 6)) (aCons (eC (.int 2)) (aNil))))) (g := eC (.int 0)) (st := mst ns mo cl f n c (stD S) (nats rk) (some (.v (.int x))) (some (.v (.int one))) (some (.o .l (nats r0))) (some (.v (.int rv)))) (call_ok rfl m6) rfl (eqi_ok _ _)
  by_cases h6 : mixL cl 6 2 = 0
  ·rw [decide_eq_true h6] at t6
   refine up (r := r1) (v := one / 512 % 7) _ (Int.emod_nonneg _ (by decide)) (Int.emod_lt_of_pos _ (by decide)) l1 (fun z hz => by have := b1 z hz; omega) (if_t t6 ?_)
   exact seq_nx (st' := mst ns mo cl f n c (stD S) (nats rk) (some (.v (.int x))) (some (.v (.int one))) (some (.o .l (nats r1))) (some (.v (.int rv)))) (setO_ok e1') (set_ok (op_ok (op_ok rfl rfl (fdiv_ok (by decide))) rfl (mod_ok (by decide))))
  ·rw [decide_eq_false h6] at t6
   have t3 := and_ok (st := mst ns mo cl f n c (stD S) (nats rk) (some (.v (.int x))) (some (.v (.int one))) (some (.o .l (nats r0))) (some (.v (.int rv)))) (op_ok (call_ok (r := aCons (eVar 3) (aCons (eC (.int 3)) (aCons (eC (.int 2)) (aNil)))) rfl m3) (rfl : eC (.int 0) _ = _) (eqi_ok _ _)) (fun _ => op_ok (op := dGt) (call_ok (r := aCons (eVar 10) (aCons (eC (.int 8)) (aCons (eC (.int 4)) (aNil)))) rfl m8) (rfl : eC (.int 0) _ = _) rfl)
   cases h3 : decide (mixL cl 3 2 = 0) && decide (0 < mixL one 8 4) with
   | true =>
    rw [h3] at t3
    have hv : ((x : Int) + 1) % n = (((x + 1) % n : Nat) : Int) := by push_cast; rfl
    have hp := put_nats r0 (mixL one 9 c).toNat ((x + 1) % n)
    rw [<- hv] at hp
    refine up (r := r0.set (mixL one 9 c).toNat ((x + 1) % n)) (v := rv) _ m1 m2 (by rw [List.length_set]; exact l0) (fun z hz => by
     rcases List.mem_or_eq_of_mem_set hz with hz | rfl
     ·have := b0 z hz; omega
     ·exact Nat.mod_lt _ (by omega)) (if_f t6 (if_t t3 ?_))
    rw [<- hp]
    exact put_ok (op_ok (op_ok rfl rfl rfl) rfl (mod_ok n0)) (call_ok rfl m9) rfl m91 (by rw [nats_len, l0]; exact m92)
   | false =>
    rw [h3] at t3
    exact up (r := r0) (v := rv) _ m1 m2 l0 (fun z hz => by have := b0 z hz; omega) (if_f t6 (if_f t3 rfl))
 obtain ⟨r, v, y10, y11, y12, hk, hl, hr⟩ := key
 refine ⟨r, v, y10, y11, y12, ?_, hl, hr⟩
 exact seq_nx (st' := mst ns mo cl f n c (stD S) (nats rk) (some (.v (.int x))) (some (.v (.int one))) x11 x12) (set_ok (call_ok rfl hcell)) (seq_nx (st' := mst ns mo cl f n c (stD S) (nats rk) (some (.v (.int x))) (some (.v (.int one))) (some (.o .l (nats r0))) x12) (setO_ok e0) (seq_nx (st' := mst ns mo cl f n c (stD S) (nats rk) (some (.v (.int x))) (some (.v (.int one))) (some (.o .l (nats r0))) (some (.v (.int rv)))) (set_ok (call_ok rfl m0)) hk))
theorem loop_machL (mo : Int) (hf : 0 <= f) (hn : 1 <= n /\ n <= 8) (hc : 1 <= c /\ c <= 3) : ∀ (ks : List Nat) (S : List (List Nat)) (rk : List Nat) (x9 x10 x11 x12 : Option Sl), (∀ x ∈ ks, x < n) -> S.length + ks.length <= 1000 -> rk.length = S.length -> (∀ r ∈ S, r.length = c /\ ∀ z ∈ r, z < n) ->
  ∃ S' rk' y9 y10 y11 y12, forR (tgN 9) L__law_machine_2 (ks.map fun (k : Nat) => D.int (k : Int)) (mst ns mo cl f n c (stD S) (nats rk) x9 x10 x11 x12) = .ok (.nx (mst ns mo cl f n c (stD S') (nats rk') y9 y10 y11 y12)) /\ S'.length = S.length + ks.length /\ rk'.length = S'.length /\ ∀ r ∈ S', r.length = c /\ ∀ z ∈ r, z < n
 | [], S, rk, x9, x10, x11, x12, _, _, he, hr => ⟨S, rk, x9, x10, x11, x12, rfl, rfl, he, hr⟩
 | x :: ks, S, rk, x9, x10, x11, x12, hk, hl, he, hr => by
  rw [List.length_cons] at hl
  obtain ⟨r, v, y10, y11, y12, t, tl, tr⟩ := turn_machL (ns := ns) (cl := cl) mo hf hn hc S rk (by omega) (by omega) x (hk x List.mem_cons_self) x10 x11 x12
  obtain ⟨S', rk', z9, z10, z11, z12, e, h1, h2, h3⟩ := loop_machL mo hf hn hc ks (S ++ [r]) (rk ++ [v]) (some (.v (.int x))) y10 y11 y12 (fun x hx => hk x (List.mem_cons_of_mem _ hx)) (by rw [List.length_append, List.length_singleton]; omega) (by rw [List.length_append, List.length_append, List.length_singleton, List.length_singleton, he]) (fun r' hr' => by
   rcases List.mem_append.mp hr' with h | h
   ·exact hr r' h
   ·rw [List.mem_singleton.mp h]; exact ⟨tl, tr⟩)
  refine ⟨S', rk', z9, z10, z11, z12, ?_, by rw [h1, List.length_append, List.length_singleton, List.length_cons]; omega, h2, h3⟩
  rw [<- e, List.map_cons, forR_cons]
  show (L__law_machine_2 (mst ns mo cl f n c (stD S) (nats rk) (some (.v (.int x))) x10 x11 x12)).bind _ = _
  rw [t]
  rfl
end
theorem pick4 {xs : List D} {a : Int} (h : xs.length = 4) (h0 : 0 <= a) (h1 : a < 4) : ∃ d ∈ xs, dIx (.lst xs) (.int a) = .ok d := by
 obtain ⟨d, hd, e⟩ := atI_mem h0 (show a < xs.length by omega)
 exact ⟨d, hd, by show ofO (atI xs a) = _; rw [e]; rfl⟩
theorem machL_ok (ns : List Int) {mo : Int} (h1 : 1 <= mo) (h8 : mo <= 8) : ∃ S rk c, p__law_machine [.lst (ns.map D.int), .int 0, .int mo] = .ok (.tup [.lst (stD S), .lst (nats rk)]) /\ Mch S rk c := by
 have hc0 := cellL_ok' ns 0 (by decide) (by decide)
 have hc1 := cellL_ok' ns (0 + 1) (by decide) (by decide)
 generalize cvL ns (0 : Int).toNat = cl at hc0
 generalize cvL ns (0 + 1 : Int).toNat = cl1 at hc1
 let st (x3 x4 x5 x6 x7 x8 : Option Sl) : PSt := [some (.v (.lst (ns.map D.int))), some (.v (.int 0)), some (.v (.int mo)), x3, x4, x5, x6, x7, x8, none, none, none, none, none]
 obtain ⟨w, hw, w1, w8⟩ : ∃ w : Int, e2 dIx (eLst (aCons (eC (.int 4)) (aCons (eC (.int 5)) (aCons (eC (.int 5)) (aCons (eVar 2) aNil))))) (eCall p__law_mix (aCons (eVar 3) (aCons (eC (.int 5)) (aCons (eC (.int 4)) aNil)))) (st (some (.v (.int cl))) none none none none none) = .ok (.int w) /\ 1 <= w /\ w <= 8 := by
  obtain ⟨a1, a2⟩ := mixL_lt cl 5 (m := 4) (by decide)
  obtain ⟨d, hd, e⟩ := pick4 (xs := [.int 4, .int 5, .int 5, .int mo]) rfl a1 a2
  have : ∃ w : Int, d = .int w /\ 1 <= w /\ w <= 8 := by
   simp only [List.mem_cons, List.not_mem_nil, or_false] at hd
   rcases hd with rfl | rfl | rfl | rfl
   ·exact ⟨4, rfl, by decide, by decide⟩
   ·exact ⟨5, rfl, by decide, by decide⟩
   ·exact ⟨5, rfl, by decide, by decide⟩
   ·exact ⟨mo, rfl, h1, h8⟩
  obtain ⟨w, rfl, hw⟩ := this
  exact ⟨w, op_ok (lst_ok rfl) (call_ok rfl (mixL_ok cl 5 4 (by decide))) e, hw⟩
 have m1 := mixL_ok cl 1 w (by omega)
 obtain ⟨m11, m12⟩ := mixL_lt cl 1 (m := w) (by omega)
 have m2 := mixL_ok cl 2 3 (by decide)
 obtain ⟨m21, m22⟩ := mixL_lt cl 2 (m := 3) (by decide)
 obtain ⟨n, hn⟩ : ∃ n : Nat, 1 + mixL cl 1 w = n := ⟨(1 + mixL cl 1 w).toNat, by omega⟩
 obtain ⟨c, hc⟩ : ∃ c : Nat, 1 + mixL cl 2 3 = c := ⟨(1 + mixL cl 2 3).toNat, by omega⟩
 obtain ⟨f, hf, f0⟩ : ∃ f : Int, e2 dIx (eLst (aCons (eC (.int 1)) (aCons (eC (.int 1)) (aCons (eC (.int 1)) (aCons (e2 dAdd (eC (.int 1)) (e2 dMulI (eC (.int 2)) (e2 dMod (eCall p__law_cell (aCons (eVar 0) (aCons (e2 dAdd (eVar 1) (eC (.int 1))) (aNil)))) (e2 dPow (eC (.int 10)) (eC (.int 27)))))) (aNil)))))) (eCall p__law_mix (aCons (eVar 3) (aCons (eC (.int 4)) (aCons (eC (.int 4)) (aNil))))) (st (some (.v (.int cl))) (some (.v (.int n))) (some (.v (.int c))) none none none) = .ok (.int f) /\ 0 <= f := by
  obtain ⟨a1, a2⟩ := mixL_lt cl 4 (m := 4) (by decide)
  have g0 : 0 <= cl1 % 10 ^ 27 := Int.emod_nonneg _ (by decide)
  obtain ⟨d, hd, e⟩ := pick4 (xs := [.int 1, .int 1, .int 1, .int (1 + 2 * (cl1 % 10 ^ 27))]) rfl a1 a2
  have : ∃ w : Int, d = .int w /\ 0 <= w := by
   simp only [List.mem_cons, List.not_mem_nil, or_false] at hd
   rcases hd with rfl | rfl | rfl | rfl
   ·exact ⟨1, rfl, by decide⟩
   ·exact ⟨1, rfl, by decide⟩
   ·exact ⟨1, rfl, by decide⟩
   ·exact ⟨_, rfl, by omega⟩
  obtain ⟨w, rfl, hw⟩ := this
  refine ⟨w, op_ok (lst_ok (arg_ok rfl (arg_ok rfl (arg_ok rfl (arg_ok (op_ok rfl (op_ok rfl (op_ok (call_ok rfl hc1) (op_ok rfl rfl (?_ : _ = R.ok (D.int (10 ^ 27)))) (mod_ok (j := 10 ^ 27) (by decide))) (?_ : _ = R.ok (D.int (2 * (cl1 % 10 ^ 27))))) rfl) rfl))))) (call_ok rfl (mixL_ok cl 4 4 (by decide))) e, hw⟩
  ·exact guardR_pos ⟨by decide, by decide, by decide⟩
  ·exact guardR_pos (.inl (by decide))
 obtain ⟨S, rk, y9, y10, y11, y12, e, k1, k2, k3⟩ := loop_machL (ns := ns) (cl := cl) (f := f) (n := n) (c := c) mo f0 (by omega) (by omega) (List.range n) [] [] none none none none (fun x hx => List.mem_range.mp hx) (by simp; omega) rfl (fun _ h => nomatch h)
 rw [List.length_range, List.length_nil, Nat.zero_add] at k1
 refine ⟨S, rk, c, run_rt rfl ?_, ⟨by omega, by omega, by omega, by omega, by rw [k1]; exact k3, k2⟩⟩
 refine seq_nx (st' := st (some (.v (.int cl))) none none none none none) (set_ok (call_ok rfl hc0)) ?_
 refine seq_nx (st' := st (some (.v (.int cl))) (some (.v (.int n))) none none none none) (set_ok (op_ok rfl (call_ok (arg_ok rfl (arg_ok rfl (arg_ok hw rfl))) m1) (by rw [<- hn]; rfl))) ?_
 refine seq_nx (st' := st (some (.v (.int cl))) (some (.v (.int n))) (some (.v (.int c))) none none none) (set_ok (op_ok rfl (call_ok rfl m2) (by rw [<- hc]; rfl))) ?_
 refine seq_nx (st' := st (some (.v (.int cl))) (some (.v (.int n))) (some (.v (.int c))) (some (.v (.int f))) none none) (set_ok hf) ?_
 refine seq_nx (st' := st (some (.v (.int cl))) (some (.v (.int n))) (some (.v (.int c))) (some (.v (.int f))) (some (.o .l [])) none) (setO_ok (lst_ok rfl)) ?_
 refine seq_nx (st' := mst ns mo cl f n c [] [] none none none none) (setO_ok (lst_ok rfl)) ?_
 refine seq_nx (st' := mst ns mo cl f n c (stD S) (nats rk) y9 y10 y11 y12) (for_ok (r1_ok rfl (by omega)) e) ?_
 exact ret_ok (guardR_pos (le_big (by show 2 <= _; decide)))
end Pu
namespace Pu
theorem wholeL_ok (i : Int) : p__law_whole [.int i] = .ok (.bl true) := run_rt rfl (ret_ok (and_ok (p := true) (q := true) (guardR_pos rfl) fun _ => not_ok (p := false) (guardR_pos rfl)))
theorem isL_ok {i : Nat} {st : PSt} {xs : List D} (h : st[i]? = some (some (.v (.lst xs)))) : eNot (eB isLs (eVar i)) st = .ok (.bl false) := by
 have e : eVar i st = .ok (.lst xs) := by unfold eVar; rw [h]
 refine not_ok (p := true) ?_
 unfold eB
 rw [e]
 exact guardR_pos rfl
end Pu
namespace Pu
def inAll (n : Nat) : Nat -> Bool := fun g => (setN (List.range n)).testBit g
theorem inAll_lt {n g : Nat} : inAll n g = decide (g < n) := by
 unfold inAll
 rw [setN_bit]
 exact decide_eq_decide.mpr List.mem_range
section
variable {S : List (List Nat)} {rk : List Nat} {c n : Nat}
def Bas (S : List (List Nat)) (a b : Nat) : Prop := a = b \/ b ∈ S.getD a []
inductive Pth (S : List (List Nat)) (k : Nat) : Nat -> Nat -> Prop where
 | one {a b : Nat} : Bas S a b -> Pth S k a b
 | mid {a m b : Nat} : m < k -> Pth S k a m -> Pth S k m b -> Pth S k a b
theorem Pth.cut {k a b : Nat} (h : Pth S (k + 1) a b) : Pth S k a b \/ (Pth S k a k /\ Pth S k k b) := by
 induction h with
 | one h => exact .inl (.one h)
 | mid hm _ _ i1 i2 =>
  rename_i a m b _ _
  by_cases e : m = k
  ·subst e
   exact .inr ⟨i1.elim id fun z => z.1, i2.elim id fun z => z.2⟩
  ·have hm : m < k := by omega
   rcases i1 with x | ⟨x1, x2⟩
   ·rcases i2 with y | ⟨y1, y2⟩
    ·exact .inl (.mid hm x y)
    ·exact .inr ⟨.mid hm x y1, y2⟩
   ·rcases i2 with y | ⟨y1, y2⟩
    ·exact .inr ⟨x1, .mid hm x2 y⟩
    ·exact .inr ⟨x1, y2⟩
theorem rch_pth (M : Mch S rk c) {a b : Nat} (ha : a < S.length) (h : Rch S c (inAll S.length) a b) : Pth S S.length a b := by
 induction h with
 | here => exact .one (.inl rfl)
 | on h1 hl _ ih =>
  have hr := rch_lt M ha h1
  exact .mid hr ih (.one (.inr ((step_mem M hr).mpr ⟨_, hl, rfl⟩)))
theorem bas_rch (M : Mch S rk c) {a b : Nat} (ha : a < S.length) (h : Bas S a b) : Rch S c (inAll S.length) a b := by
 rcases h with rfl | h
 ·exact .here
 ·obtain ⟨l, hl, rfl⟩ := (step_mem M ha).mp h
  obtain ⟨_, _, _, h3⟩ := stp_at M ha hl
  exact .on .here hl (by rw [inAll_lt]; exact decide_eq_true h3)
def rowD (n : Nat) (f : Nat -> Bool) : List D := (List.range n).map fun b => D.bl (f b)
def matD (n : Nat) (T : Nat -> Nat -> Bool) : List (List D) := (List.range n).map fun a => rowD n (T a)
theorem at_row {n b : Nat} {f : Nat -> Bool} (hb : b < n) : atI (rowD n f) (b : Int) = some (.bl (f b)) := by
 rw [atI_nat (by unfold rowD; simpa using hb)]
 simp [rowD]
theorem at_mat {n a : Nat} {T : Nat -> Nat -> Bool} (ha : a < n) : atI ((matD n T).map D.lst) (a : Int) = some (.lst (rowD n (T a))) := by
 rw [atI_nat (by unfold matD; simpa using ha)]
 simp [matD]
def put1 (T : Nat -> Nat -> Bool) (a b : Nat) : Nat -> Nat -> Bool := fun x y => if x = a /\ y = b then true else T x y
theorem range_get {α : Type} (n i : Nat) (f : Nat -> α) : ((List.range n).map f)[i]? = if i < n then some (f i) else none := by
 rw [List.getElem?_map]
 by_cases h : i < n
 ·rw [List.getElem?_range h, if_pos h]; rfl
 ·rw [List.getElem?_eq_none (by simpa using h), if_neg h]; rfl
theorem mat_put {n a b : Nat} {T : Nat -> Nat -> Bool} (ha : a < n) (hb : b < n) : (matD n T).set a ((rowD n (T a)).set b (.bl true)) = matD n (put1 T a b) := by
 apply List.ext_getElem?
 intro i
 unfold matD
 rw [List.getElem?_set, range_get, range_get, List.length_map, List.length_range]
 by_cases e : a = i
 ·subst e
  rw [if_pos rfl, if_pos ha, if_pos ha]
  refine congrArg some (List.ext_getElem? fun j => ?_)
  unfold rowD
  rw [List.getElem?_set, range_get, range_get, List.length_map, List.length_range]
  unfold put1
  by_cases e2 : b = j
  ·subst e2
   rw [if_pos rfl, if_pos hb, if_pos hb, if_pos ⟨rfl, rfl⟩]
  ·have : (if a = a /\ j = b then true else T a j) = T a j := if_neg fun z => e2 z.2.symm
   rw [if_neg e2, this]
 ·rw [if_neg e]
  have : rowD n (put1 T a b i) = rowD n (T i) := by
   congr 1
   funext y
   unfold put1
   rw [if_neg fun z => e z.1.symm]
  rw [this]
def Snd (S : List (List Nat)) (c : Nat) (T : Nat -> Nat -> Bool) : Prop := ∀ a b, a < S.length -> b < S.length -> T a b = true -> Rch S c (inAll S.length) a b
def LeT (n : Nat) (T T' : Nat -> Nat -> Bool) : Prop := ∀ a b, a < n -> b < n -> T a b = true -> T' a b = true
def lst3 (S : List (List Nat)) (x2 x3 x4 : Option Sl) : PSt := [some (.v (.lst (stD S))), none, x2, x3, x4]
theorem nfor_go {tg : Tg} {b : NB} {d : D} {ds : List D} {xss xss' : List (List D)} {st s1 s2 : PSt} {r : R NFl} (ht : tg d st = .ok s1) (hb : b xss s1 = .ok (.nx xss' s2)) (hr : nForR tg b ds xss' s2 = r) : nForR tg b (d :: ds) xss st = r := by
 show (tg d st).bind _ = _
 rw [ht, bind_ok', hb]
 exact hr
theorem nfor_ok {tg : Tg} {it : ItE} {b : NB} {ds : List D} {xss : List (List D)} {st : PSt} {r : R NFl} (h : it st = .ok ds) (hr : nForR tg b ds xss st = r) : nFor tg it b xss st = r := by
 unfold nFor
 rw [h, bind_ok', hr]
theorem look_ok {T : Nat -> Nat -> Bool} {st : PSt} {i j a b n : Nat} {m : Nat} (h1 : st[m]? = some (some (.v (.lst ((matD n T).map D.lst))))) (h2 : st[i]? = some (some (.v (.int (a : Int))))) (h3 : st[j]? = some (some (.v (.int (b : Int))))) (ha : a < n) (hb : b < n) : e2 dIx (e2 dIx (eVar m) (eVar i)) (eVar j) st = .ok (.bl (T a b)) := by
 have v1 : eVar m st = .ok (.lst ((matD n T).map D.lst)) := by unfold eVar; rw [h1]
 have v2 : eVar i st = .ok (.int (a : Int)) := by unfold eVar; rw [h2]
 have v3 : eVar j st = .ok (.int (b : Int)) := by unfold eVar; rw [h3]
 exact op_ok (op_ok v1 v2 (ix_ok (at_mat ha))) v3 (ix_ok (at_row hb))
theorem led_one {T : Nat -> Nat -> Bool} (hT : Snd S c T) {k a b : Nat} (hk : k < S.length) (ha : a < S.length) (hb : b < S.length) : ∃ T', N__law_led_2 (matD S.length T) (lst3 S (some (.v (.int k))) (some (.v (.int a))) (some (.v (.int b)))) = .ok (.nx (matD S.length T') (lst3 S (some (.v (.int k))) (some (.v (.int a))) (some (.v (.int b))))) /\ Snd S c T' /\ LeT S.length T T' /\ (T a k = true -> T k b = true -> T' a b = true) := by
 have t := and_ok (look_ok (T := T) (st := lookN 1 (matD S.length T) (lst3 S (some (.v (.int k))) (some (.v (.int a))) (some (.v (.int b))))) (m := 1) (i := 3) (j := 2) rfl rfl rfl ha hk) fun _ => look_ok (T := T) (m := 1) (i := 2) (j := 4) rfl rfl rfl hk hb
 by_cases h : (T a k && T k b) = true
 ·rw [h] at t
  rw [Bool.and_eq_true] at h
  refine ⟨put1 T a b, ?_, fun x y hx hy hz => ?_, fun x y _ _ hz => ?_, fun _ _ => ?_⟩
  ·show R.bind _ _ = _
   rw [t]
   show nPut (eVar 3) (eVar 4) (eC (.bl true)) (matD S.length T) (lst3 S (some (.v (.int k))) (some (.v (.int a))) (some (.v (.int b)))) = _
   have i1 : ixN (matD S.length T).length (a : Int) = some a := by
    unfold ixN
    rw [if_pos (by omega), if_pos (by unfold matD; simp; omega)]
    rfl
   have i2 : ixN (rowD S.length (T a)).length (b : Int) = some b := by
    unfold ixN
    rw [if_pos (by omega), if_pos (by unfold rowD; simp; omega)]
    rfl
   have i3 : (matD S.length T)[a]? = some (rowD S.length (T a)) := by
    unfold matD
    rw [List.getElem?_map, List.getElem?_range ha]
    rfl
   show R.bind (ofO (ixN (matD S.length T).length (a : Int))) _ = _
   rw [i1]
   show (match (matD S.length T)[a]? with | some ys => (ofO (ixN ys.length (b : Int))).bind fun l => R.ok (NFl.nx ((matD S.length T).set a (ys.set l (.bl true))) (lst3 S (some (.v (.int k))) (some (.v (.int a))) (some (.v (.int b))))) | none => .bad) = _
   rw [i3]
   show R.bind (ofO (ixN (rowD S.length (T a)).length (b : Int))) _ = _
   rw [i2, <- mat_put ha hb]
   rfl
  ·unfold put1 at hz
   by_cases e : x = a /\ y = b
   ·rw [e.1, e.2]
    exact Rch.trans (hT a k ha hk h.1) (hT k b hk hb h.2)
   ·rw [if_neg e] at hz
    exact hT x y hx hy hz
  ·unfold put1
   split
   ·rfl
   ·exact hz
  ·unfold put1
   rw [if_pos ⟨rfl, rfl⟩]
 ·have h' : (T a k && T k b) = false := by simpa using h
  rw [h'] at t
  refine ⟨T, ?_, hT, fun _ _ _ _ hz => hz, fun h1 h2 => absurd (by rw [h1, h2]; rfl) h⟩
  show R.bind _ _ = _
  rw [t]
  rfl
theorem led_row {k a : Nat} (hk : k < S.length) (ha : a < S.length) : ∀ (bs : List Nat) (T : Nat -> Nat -> Bool) (x4 : Option Sl), (∀ b ∈ bs, b < S.length) -> Snd S c T -> ∃ T' y4, nForR (tgN 4) N__law_led_2 (bs.map fun (k : Nat) => D.int (k : Int)) (matD S.length T) (lst3 S (some (.v (.int k))) (some (.v (.int a))) x4) = .ok (.nx (matD S.length T') (lst3 S (some (.v (.int k))) (some (.v (.int a))) y4)) /\ Snd S c T' /\ LeT S.length T T' /\ ∀ b ∈ bs, T a k = true -> T k b = true -> T' a b = true
 | [], T, x4, _, hT => ⟨T, x4, rfl, hT, fun _ _ _ _ h => h, fun _ h => nomatch h⟩
 | b :: bs, T, x4, hb, hT => by
  obtain ⟨T1, e1', s1, l1, c1⟩ := led_one hT hk ha (hb b List.mem_cons_self)
  obtain ⟨T2, y4, e2', s2, l2, c2⟩ := led_row hk ha bs T1 (some (.v (.int b))) (fun b h => hb b (List.mem_cons_of_mem _ h)) s1
  refine ⟨T2, y4, nfor_go rfl e1' e2', s2, fun x y hx hy h => l2 x y hx hy (l1 x y hx hy h), fun b' h' t1 t2 => ?_⟩
  rcases List.mem_cons.mp h' with rfl | h'
  ·exact l2 _ _ ha (hb _ List.mem_cons_self) (c1 t1 t2)
  ·exact c2 b' h' (l1 _ _ ha hk t1) (l1 _ _ hk (hb b' (List.mem_cons_of_mem _ h')) t2)
theorem len_it (M : Mch S rk c) (x2 x3 x4 : Option Sl) : itR1 (e1 dLen (eVar 0)) (lst3 S x2 x3 x4) = .ok ((List.range S.length).map fun (k : Nat) => D.int (k : Int)) := by
 have n8 := M.most
 refine r1_ok (?_ : _ = R.ok (D.int S.length)) (by omega)
 rw [<- stD_len S]
 rfl
theorem led_all (M : Mch S rk c) {k : Nat} (hk : k < S.length) : ∀ (as : List Nat) (T : Nat -> Nat -> Bool) (x3 x4 : Option Sl), (∀ a ∈ as, a < S.length) -> Snd S c T -> ∃ T' y3 y4, nForR (tgN 3) N__law_led_3 (as.map fun (k : Nat) => D.int (k : Int)) (matD S.length T) (lst3 S (some (.v (.int k))) x3 x4) = .ok (.nx (matD S.length T') (lst3 S (some (.v (.int k))) y3 y4)) /\ Snd S c T' /\ LeT S.length T T' /\ ∀ a ∈ as, ∀ b, b < S.length -> T a k = true -> T k b = true -> T' a b = true
 | [], T, x3, x4, _, hT => ⟨T, x3, x4, rfl, hT, fun _ _ _ _ h => h, fun _ h => nomatch h⟩
 | a :: as, T, x3, x4, ha, hT => by
  obtain ⟨T1, y4, e1', s1, l1, c1⟩ := led_row hk (ha a List.mem_cons_self) (List.range S.length) T x4 (fun b h => List.mem_range.mp h) hT
  obtain ⟨T2, z3, z4, e2', s2, l2, c2⟩ := led_all M hk as T1 (some (.v (.int a))) y4 (fun b h => ha b (List.mem_cons_of_mem _ h)) s1
  refine ⟨T2, z3, z4, nfor_go rfl (nfor_ok (len_it M _ _ _) e1') e2', s2, fun x y hx hy h => l2 x y hx hy (l1 x y hx hy h), fun a' h' b hb t1 t2 => ?_⟩
  rcases List.mem_cons.mp h' with rfl | h'
  ·exact l2 _ _ (ha _ List.mem_cons_self) hb (c1 b (List.mem_range.mpr hb) t1 t2)
  ·exact c2 a' h' b hb (l1 _ _ (ha a' (List.mem_cons_of_mem _ h')) hk t1) (l1 _ _ hk hb t2)
theorem led_done (M : Mch S rk c) : ∀ (m k : Nat) (T : Nat -> Nat -> Bool) (x2 x3 x4 : Option Sl), k + m = S.length -> Snd S c T -> (∀ a b, a < S.length -> b < S.length -> Pth S k a b -> T a b = true) -> ∃ T' y2 y3 y4, nForR (tgN 2) N__law_led_4 ((List.range' k m).map fun (k : Nat) => D.int (k : Int)) (matD S.length T) (lst3 S x2 x3 x4) = .ok (.nx (matD S.length T') (lst3 S y2 y3 y4)) /\ Snd S c T' /\ ∀ a b, a < S.length -> b < S.length -> Pth S S.length a b -> T' a b = true
 | 0, k, T, x2, x3, x4, hk, hT, hc => ⟨T, x2, x3, x4, rfl, hT, by rw [show S.length = k by omega] at hc ⊢; exact hc⟩
 | m + 1, k, T, x2, x3, x4, hk, hT, hc => by
  obtain ⟨T1, y3, y4, e1', s1, l1, c1⟩ := led_all M (show k < S.length by omega) (List.range S.length) T x3 x4 (fun a h => List.mem_range.mp h) hT
  obtain ⟨T2, z2, z3, z4, e2', s2, c2⟩ := led_done M m (k + 1) T1 (some (.v (.int k))) y3 y4 (by omega) s1 (fun a b ha hb h => by
   rcases h.cut with h | ⟨h1, h2⟩
   ·exact l1 _ _ ha hb (hc _ _ ha hb h)
   ·exact c1 a (List.mem_range.mpr ha) b hb (hc _ _ ha (by omega) h1) (hc _ _ (by omega) hb h2))
  refine ⟨T2, z2, z3, z4, ?_, s2, c2⟩
  rw [List.range'_succ, List.map_cons]
  exact nfor_go rfl (nfor_ok (len_it M _ _ _) e1') e2'
theorem led_ok (M : Mch S rk c) : ∃ T, p__law_led [.lst (stD S)] = .ok (.lst ((matD S.length T).map D.lst)) /\ ∀ a b, a < S.length -> b < S.length -> (T a b = true ↔ Rch S c (inAll S.length) a b) := by
 have n8 := M.most
 let T0 : Nat -> Nat -> Bool := fun a b => decide (a = b) || decide (b ∈ S.getD a [])
 have t0 : ∀ a b, T0 a b = true ↔ Bas S a b := fun a b => by
  show (decide (a = b) || decide (b ∈ S.getD a [])) = true ↔ (a = b \/ b ∈ S.getD a [])
  rw [Bool.or_eq_true, decide_eq_true_eq, decide_eq_true_eq]
 have s0 : Snd S c T0 := fun a b ha _ h => bas_rch M ha ((t0 a b).mp h)
 obtain ⟨T, y2, y3, y4, e, hs, hc⟩ := led_done M S.length 0 T0 none none none (by omega) s0 (fun a b _ _ h => by
  refine (t0 a b).mpr ?_
  cases h with
  | one h => exact h
  | mid h _ _ => exact absurd h (by omega))
 refine ⟨T, ?_, fun a b ha hb => ⟨hs a b ha hb, fun h => hc a b ha hb (rch_pth M ha h)⟩⟩
 have rows : eComp [3] (tgN 3) (itR1 (e1 dLen (eVar 0))) eTrue E__law_led_1 [some (.v (.lst (stD S))), none, none, none, none] = .ok (.lst ((matD S.length T0).map D.lst)) := by
  refine comp_if (len_it M none none none) (by simp; omega) ?_
  have ce := compR_if (tg := tgN 3) (C := eTrue) (E := E__law_led_1) (st := lst3 S none none none) (q := fun _ => true) (G := fun a => .lst (rowD S.length (T0 a))) (List.range S.length) (fun a ha => ⟨_, rfl, rfl, by
   have ha' := List.mem_range.mp ha
   refine comp_if (len_it M none (some (.v (.int a))) none) (by simp; omega) ?_
   have ci := compR_if (tg := tgN 4) (C := eTrue) (E := E__law_led_0) (st := lst3 S none (some (.v (.int a))) none) (q := fun _ => true) (G := fun b => .bl (T0 a b)) (List.range S.length) (fun b hb => ⟨_, rfl, rfl, by
    have hg : S.getD a [] = S[a] := by rw [List.getD_eq_getElem?_getD, List.getElem?_eq_getElem ha']; rfl
    obtain ⟨p1, p2, _⟩ := nats_plain S[a]
    refine or_ok (op_ok rfl rfl ?_) fun _ => op_ok rfl (op_ok rfl rfl (ix_ok (at_stD ha'))) ?_
    ·rw [eqi_ok]
     have : decide ((a : Int) = (b : Int)) = decide (a = b) := decide_eq_decide.mpr (by omega)
     rw [this]
    ·rw [hg, <- in_nats]
     exact guardR_pos ⟨by rw [p2]; exact Nat.zero_le 60, rfl, p1⟩⟩)
   rw [List.filter_eq_self.mpr fun _ _ => rfl] at ci
   exact ci⟩)
  rw [List.filter_eq_self.mpr fun _ _ => rfl] at ce
  refine Eq.trans ce ?_
  unfold matD
  rw [List.map_map]
  rfl
 have hu : ((matD S.length T0).map D.lst).map unL = matD S.length T0 := by
  rw [List.map_map]
  exact List.map_id _
 have hcp : dCopy2 (.lst ((matD S.length T0).map D.lst)) = .ok (.lst ((matD S.length T0).map D.lst)) := by
  refine guardR_pos ⟨le_big (by unfold matD; simp; omega), ?_⟩
  rw [List.all_map]
  refine List.all_eq_true.mpr fun r hr => ?_
  unfold matD at hr
  obtain ⟨a, _, rfl⟩ := List.mem_map.mp hr
  show (rowD S.length (T0 a)).all atom = true
  unfold rowD
  rw [List.all_map]
  exact List.all_eq_true.mpr fun _ _ => rfl
 refine run_rt rfl ?_
 show R.bind (eComp [3] (tgN 3) (itR1 (e1 dLen (eVar 0))) eTrue E__law_led_1 [some (.v (.lst (stD S))), none, none, none, none]) _ = _
 rw [rows, bind_ok', hcp, bind_ok']
 show R.bind (nSeq _ _ (((matD S.length T0).map D.lst).map unL) _) _ = _
 rw [hu]
 have hf : nFor (tgN 2) (itR1 (e1 dLen (eVar 0))) N__law_led_4 (matD S.length T0) (lst3 S none none none) = .ok (.nx (matD S.length T) (lst3 S y2 y3 y4)) := nfor_ok (len_it M _ _ _) (by rw [List.range_eq_range']; exact e)
 show R.bind (R.bind (nFor (tgN 2) (itR1 (e1 dLen (eVar 0))) N__law_led_4 (matD S.length T0) (lst3 S none none none)) _) _ = _
 rw [hf]
 rfl
end
end Pu
namespace Pu
theorem setN_snoc (l : List Nat) (k : Nat) : setN (l ++ [k]) = setN l ||| 2 ^ k := by
 unfold setN orN
 rw [List.foldl_append]
 rfl
theorem sum_bits (p : Nat -> Bool) : ∀ k, (((List.range k).filter p).map fun r => 2 ^ r).sum = setN ((List.range k).filter p)
 | 0 => rfl
 | k + 1 => by
  rw [List.range_succ, List.filter_append]
  have ih := sum_bits p k
  have hlt : setN ((List.range k).filter p) < 2 ^ k := setN_lt fun r hr => List.mem_range.mp (List.mem_filter.mp hr).1
  cases hp : p k with
  | true =>
   rw [List.filter_cons_of_pos hp, List.filter_nil, setN_snoc, List.map_append, List.sum_append, ih, List.map_singleton, List.sum_singleton, Nat.or_comm]
   have := Nat.two_pow_add_eq_or_of_lt hlt 1
   rw [Nat.mul_one] at this
   rw [<- this, Nat.add_comm]
  | false => rw [List.filter_cons_of_neg (by rw [hp]; decide), List.filter_nil, List.append_nil, ih]
theorem cast_sum : ∀ ks : List Nat, (ks.map fun r => ((2 ^ r : Nat) : Int)).sum = (((ks.map fun r => 2 ^ r).sum : Nat) : Int)
 | [] => rfl
 | k :: ks => by rw [List.map_cons, List.map_cons, List.sum_cons, List.sum_cons, cast_sum ks, Int.natCast_add]
theorem sumL_ok {l : List Nat} (h : ∀ r ∈ l, r < 1001) : p__law_sum [.lst (nats l)] = .ok (.int (setN l)) := by
 have ce := compR_if (tg := tgN 1) (C := C__law_sum_1) (E := E__law_sum_0) (st := [some (.v (.lst (nats l))), none]) (q := fun r => decide (r ∈ l)) (G := fun r => .int ((2 ^ r : Nat) : Int)) (List.range 1001) (fun r hr => ⟨_, rfl, op_ok rfl rfl (inl_ok r l), op_ok rfl rfl (shl_ok (by have := List.mem_range.mp hr; omega))⟩)
 have hc := comp_if (is := [1]) (st := [some (.v (.lst (nats l))), none]) (r1_ok (f := eC (.int 1001)) (n := 1001) rfl (by decide)) (by rw [List.length_map, List.length_range]; decide) ce
 refine run_rt rfl (ret_ok ?_)
 show R.bind (eComp [1] (tgN 1) (itR1 (eC (.int 1001))) C__law_sum_1 E__law_sum_0 [some (.v (.lst (nats l))), none]) dSum = _
 rw [hc, bind_ok']
 have em : ((List.range 1001).filter fun r => decide (r ∈ l)).map (fun r => D.int ((2 ^ r : Nat) : Int)) = (((List.range 1001).filter fun r => decide (r ∈ l)).map fun r => ((2 ^ r : Nat) : Int)).map D.int := by
  rw [List.map_map]
  rfl
 rw [em]
 show (dInts _).bind _ = _
 rw [dInts_map, bind_ok', cast_sum, sum_bits]
 refine congrArg (fun n : Nat => R.ok (D.int (n : Int))) (setN_eq fun r => ?_)
 rw [List.mem_filter, List.mem_range, decide_eq_true_eq]
 exact ⟨fun z => z.2, fun z => ⟨h r z, z⟩⟩
section
variable {S : List (List Nat)} {rk : List Nat} {c n : Nat}
theorem all_lt : setN (List.range n) < 2 ^ n := setN_lt fun r hr => List.mem_range.mp hr
theorem allR_ok (M : Mch S rk c) : p_all_rooms [mD S rk c] = .ok (.int (setN (List.range S.length))) := by
 have n8 := M.most
 refine run_rt rfl (ret_ok (call_ok (arg_ok (d := .lst (nats (List.range S.length))) ?_ rfl) (bits_ok (fun r hr => by have := List.mem_range.mp hr; omega) (by rw [List.length_range]; omega))))
 show R.bind (dFld "Machine" "many" (mD S rk c)) dLRange = _
 rw [fld_many, bind_ok', <- rangeD_nats]
 exact guardR_pos ⟨ge_bigI (by omega), le_bigI (by omega)⟩
theorem allS_ok (M : Mch S rk c) {st : PSt} (h : st[0]? = some (some (.v (mD S rk c)))) : eCall p_seen_among (aCons (e1 (dFld "Machine" "steps") (eVar 0)) (aCons (eCall p_all_rooms (aCons (eVar 0) (aNil))) (aNil))) st = .ok (.dct false (nats (memN (setN (List.range S.length)))) ((memN (setN (List.range S.length))).map fun r => D.int (seenN S c (setN (List.range S.length)) r : Nat))) := by
 have e : eVar 0 st = .ok (mD S rk c) := by unfold eVar; rw [h]
 exact call_ok (arg_ok (show R.bind (eVar 0 st) (dFld "Machine" "steps") = _ by rw [e, bind_ok', fld_steps]) (arg_ok (call_ok (arg_ok e rfl) (allR_ok M)) rfl)) (among_ok M all_lt)
theorem allS_at {r : Nat} (hr : r < S.length) : dIx (.dct false (nats (memN (setN (List.range S.length)))) ((memN (setN (List.range S.length))).map fun r => D.int (seenN S c (setN (List.range S.length)) r : Nat))) (.int r) = .ok (.int (seenN S c (setN (List.range S.length)) r : Nat)) := at_seen (get_nats (fun r => D.int (seenN S c (setN (List.range S.length)) r : Nat)) (memN_setN.mpr (List.mem_range.mpr hr)))
theorem seenF_ok (M : Mch S rk c) {r : Nat} (hr : r < S.length) : p_seen_from [mD S rk c, .int r] = .ok (.int (seenN S c (setN (List.range S.length)) r)) :=
 run_rt rfl (ret_ok (op_ok (allS_ok M rfl) rfl (allS_at hr)))
noncomputable def hitR (S : List (List Nat)) (c G : Nat) : Nat -> Bool := fun r => decide (0 < seenN S c (setN (List.range S.length)) r &&& G)
theorem reach_ok (M : Mch S rk c) (G : Nat) : p_reaching [mD S rk c, .int G] = .ok (.int (setN ((List.range S.length).filter (hitR S c G)))) := by
 have n8 := M.most
 refine run_rt rfl (seq_nx (set_ok (allS_ok M rfl)) (ret_ok (call_ok (arg_ok (d := .lst (nats ((List.range S.length).filter (hitR S c G)))) (comp_if (xs := nats (List.range S.length)) ?_ (by rw [nats_len, List.length_range]; omega) ?_) rfl) (bits_ok (l := (List.range S.length).filter (hitR S c G)) (fun r hr => by have := List.mem_range.mp (List.mem_filter.mp hr).1; omega) (by have := List.length_filter_le (hitR S c G) (List.range S.length); rw [List.length_range] at this; omega)))))
 ·exact r1_ok (by show dFld "Machine" "many" (mD S rk c) = _; exact fld_many) (by omega)
 ·exact compR_if (q := hitR S c G) (G := fun r => .int r) (List.range S.length) (fun r hr => ⟨_, rfl, ok_bl (op_ok (op_ok (op_ok rfl rfl (allS_at (List.mem_range.mp hr))) rfl (andN_ok _ _)) rfl (nei_ok _ _)) (by
   unfold hitR
   by_cases h : 0 < seenN S c (setN (List.range S.length)) r &&& G
   ·rw [decide_eq_true h, decide_eq_false (by omega)]; rfl
   ·rw [decide_eq_false h, decide_eq_true (by omega)]; rfl), rfl⟩)
def yst (ns : List Int) (S : List (List Nat)) (rk : List Nat) (c : Nat) (x2 x3 x4 x5 x6 x7 x8 x9 x10 x13 x14 : Option Sl) : PSt := [some (.v (.lst (ns.map D.int))), some (.v (mD S rk c)), x2, x3, x4, x5, x6, x7, x8, x9, x10, some (.v (.lst (stD S))), some (.v (.lst (nats rk))), x13, x14, none, none, none]
theorem yst_it (ns : List Int) (M : Mch S rk c) (x2 x3 x4 x5 x6 x7 x8 x9 x10 x13 x14 : Option Sl) : itR1 (e1 dLen (eVar 11)) (yst ns S rk c x2 x3 x4 x5 x6 x7 x8 x9 x10 x13 x14) = .ok (nats (List.range S.length)) := by
 have n8 := M.most
 exact r1_ok (by rw [<- stD_len S]; rfl) (by omega)
theorem rooms_turn (ns : List Int) (M : Mch S rk c) {T : Nat -> Nat -> Bool} (hT : ∀ a b, a < S.length -> b < S.length -> (T a b = true ↔ Rch S c (inAll S.length) a b)) (G : Nat) (x2 x3 x4 x5 x6 x13 x14 : Option Sl) {r : Nat} (hr : r < S.length) (due : Nat) :
  ∃ y13 y14, L_law_10 (yst ns S rk c x2 x3 x4 x5 x6 (some (.v (.lst ((matD S.length T).map D.lst)))) (some (.v (.int G))) (some (.v (.int due))) (some (.v (.int r))) x13 x14) = .ok (.nx (yst ns S rk c x2 x3 x4 x5 x6 (some (.v (.lst ((matD S.length T).map D.lst)))) (some (.v (.int G))) (some (.v (.int (if hitR S c G r = true then due + 2 ^ r else due : Nat)))) (some (.v (.int r))) y13 y14)) := by
 have n8 := M.most
 have ce := compR_if (tg := tgN 17) (C := C_law_7) (E := E_law_6) (st := yst ns S rk c x2 x3 x4 x5 x6 (some (.v (.lst ((matD S.length T).map D.lst)))) (some (.v (.int G))) (some (.v (.int due))) (some (.v (.int r))) (some (.v (.int (seenN S c (setN (List.range S.length)) r)))) x14) (q := fun g => T r g) (G := fun g => .int g) (List.range S.length) (fun g hg => ⟨_, rfl, look_ok (m := 7) (i := 10) (j := 17) rfl rfl rfl hr (List.mem_range.mp hg), rfl⟩)
 have hc := comp_if (is := [17]) (yst_it ns M _ _ _ _ _ _ _ _ _ _ _) (by rw [nats_len, List.length_range]; omega) ce
 have hsum : p__law_sum [.lst (nats ((List.range S.length).filter fun g => T r g))] = .ok (.int (seenN S c (setN (List.range S.length)) r)) := by
  rw [sumL_ok fun g hg => by have := List.mem_range.mp (List.mem_filter.mp hg).1; omega]
  refine congrArg (fun n : Nat => R.ok (D.int (n : Int))) (Nat.eq_of_testBit_eq fun g => ?_)
  have e : (setN ((List.range S.length).filter fun g => T r g)).testBit g = true ↔ (seenN S c (setN (List.range S.length)) r).testBit g = true := by
   rw [setN_bit, decide_eq_true_eq, List.mem_filter, List.mem_range, seenN_bit M hr]
   exact ⟨fun z => (hT r g hr z.1).mp z.2, fun z => ⟨rch_lt M hr z, (hT r g hr (rch_lt M hr z)).mpr z⟩⟩
  cases h1 : (setN ((List.range S.length).filter fun g => T r g)).testBit g with
  | true => exact (e.mp h1).symm
  | false =>
   cases h2 : (seenN S c (setN (List.range S.length)) r).testBit g with
   | true => rw [e.mpr h2] at h1; cases h1
   | false => rfl
 refine ⟨some (.v (.int (seenN S c (setN (List.range S.length)) r))), some (.v (.lst (nats ((List.range S.length).filter fun g => T r g)))), ?_⟩
 refine seq_nx (st' := yst ns S rk c x2 x3 x4 x5 x6 (some (.v (.lst ((matD S.length T).map D.lst)))) (some (.v (.int G))) (some (.v (.int due))) (some (.v (.int r))) (some (.v (.int (seenN S c (setN (List.range S.length)) r)))) x14) (set_ok (call_ok rfl (seenF_ok M hr))) (seq_nx (st' := yst ns S rk c x2 x3 x4 x5 x6 (some (.v (.lst ((matD S.length T).map D.lst)))) (some (.v (.int G))) (some (.v (.int due))) (some (.v (.int r))) (some (.v (.int (seenN S c (setN (List.range S.length)) r)))) (some (.v (.lst (nats ((List.range S.length).filter fun g => T r g)))))) (set_ok hc) (seq_same (if_f (or_ok (p := false) (q := false) (not_ok (p := true) (call_ok rfl (wholeL_ok _))) fun _ => op_ok rfl (call_ok rfl hsum) (by rw [nei_ok, decide_eq_true rfl]; rfl)) rfl) ?_))
 have t : e2 dGt (e2 dAnd (eVar 13) (eVar 8)) (eC (.int 0)) (yst ns S rk c x2 x3 x4 x5 x6 (some (.v (.lst ((matD S.length T).map D.lst)))) (some (.v (.int G))) (some (.v (.int due))) (some (.v (.int r))) (some (.v (.int (seenN S c (setN (List.range S.length)) r)))) (some (.v (.lst (nats ((List.range S.length).filter fun g => T r g)))))) = .ok (.bl (hitR S c G r)) := op_ok (op_ok rfl rfl (andN_ok _ _)) rfl (by
  show R.ok (D.bl (decide ((0 : Int) < ((seenN S c (setN (List.range S.length)) r &&& G : Nat) : Int)))) = _
  unfold hitR
  rw [decide_eq_decide.mpr (by omega : (0 : Int) < ((seenN S c (setN (List.range S.length)) r &&& G : Nat) : Int) ↔ 0 < seenN S c (setN (List.range S.length)) r &&& G)])
 cases h : hitR S c G r with
 | true =>
  rw [h] at t
  rw [if_pos rfl]
  exact if_t t (set_ok (op_ok rfl (op_ok rfl rfl (shl_ok (by omega))) (by rw [Int.natCast_add]; rfl)))
 | false =>
  rw [h] at t
  exact if_f t rfl
theorem rooms_loop (ns : List Int) (M : Mch S rk c) {T : Nat -> Nat -> Bool} (hT : ∀ a b, a < S.length -> b < S.length -> (T a b = true ↔ Rch S c (inAll S.length) a b)) (G : Nat) (x2 x3 x4 x5 x6 : Option Sl) : ∀ (m k : Nat) (x10 x13 x14 : Option Sl), k + m = S.length ->
  ∃ y10 y13 y14, forR (tgN 10) L_law_10 (nats (List.range' k m)) (yst ns S rk c x2 x3 x4 x5 x6 (some (.v (.lst ((matD S.length T).map D.lst)))) (some (.v (.int G))) (some (.v (.int ((((List.range k).filter (hitR S c G)).map fun r => 2 ^ r).sum : Nat)))) x10 x13 x14) = .ok (.nx (yst ns S rk c x2 x3 x4 x5 x6 (some (.v (.lst ((matD S.length T).map D.lst)))) (some (.v (.int G))) (some (.v (.int ((((List.range S.length).filter (hitR S c G)).map fun r => 2 ^ r).sum : Nat)))) y10 y13 y14))
 | 0, k, x10, x13, x14, hk => ⟨x10, x13, x14, by rw [show S.length = k by omega]; rfl⟩
 | m + 1, k, x10, x13, x14, hk => by
  obtain ⟨y13, y14, e⟩ := rooms_turn ns M hT G x2 x3 x4 x5 x6 x13 x14 (show k < S.length by omega) (((List.range k).filter (hitR S c G)).map fun r => 2 ^ r).sum
  obtain ⟨z10, z13, z14, e'⟩ := rooms_loop ns M hT G x2 x3 x4 x5 x6 m (k + 1) (some (.v (.int k))) y13 y14 (by omega)
  refine ⟨z10, z13, z14, ?_⟩
  have hd : (if hitR S c G k = true then (((List.range k).filter (hitR S c G)).map fun r => 2 ^ r).sum + 2 ^ k else (((List.range k).filter (hitR S c G)).map fun r => 2 ^ r).sum) = (((List.range (k + 1)).filter (hitR S c G)).map fun r => 2 ^ r).sum := by
   rw [List.range_succ, List.filter_append]
   cases hp : hitR S c G k with
   | true => rw [if_pos rfl, List.filter_cons_of_pos hp, List.filter_nil, List.map_append, List.sum_append, List.map_singleton, List.sum_singleton]
   | false => rw [if_neg (by decide), List.filter_cons_of_neg (by rw [hp]; decide), List.filter_nil, List.append_nil]
  rw [hd] at e
  rw [List.range'_succ]
  exact for_go rfl e e'
end
theorem law_true (ns : List Int) (hn : ns.length <= 63) : p_law [.lst (ns.map D.int)] = .ok (.bl true) := by
 obtain ⟨S, rk, c, em, M⟩ := machL_ok ns (mo := 8) (by decide) (by decide)
 have n8 := M.most
 have n2 : 2 ^ S.length <= 256 := by
  have : 2 ^ S.length <= 2 ^ 8 := Nat.pow_le_pow_right (by decide) n8
  omega
 have cp := comp_same (E := E_law_0) (st := [some (.v (.lst (ns.map D.int))), none, none, none, none, none, none, none, none, none, none, some (.v (.lst (stD S))), some (.v (.lst (nats rk))), none, none, none, none, none]) (j := 16) (v := 11) (xs := stD S) rfl (by rw [stD_len]; omega) (fun d hd => by
  obtain ⟨r, hr, rfl⟩ := mem_stD hd
  rfl)
 have hc1 := cellL_ok' ns 1 (by decide) (by decide)
 generalize cvL ns (1 : Int).toNat = c1 at hc1
 have hc3 := cellL_ok' ns 3 (by decide) (by decide)
 generalize cvL ns (3 : Int).toNat = c3 at hc3
 have m22 := mixL_ok c1 22 200 (by decide)
 obtain ⟨l1, l2⟩ := mixL_lt c1 22 (m := 200) (by decide)
 have m24 := mixL_ok c1 24 8 (by decide)
 refine run_rt rfl (seq_nx (st' := [some (.v (.lst (ns.map D.int))), none, none, none, none, none, none, none, none, none, none, some (.v (.lst (stD S))), some (.v (.lst (nats rk))), none, none, none, none, none]) ?_ (seq_nx (st' := yst ns S rk c none none none none none none none none none none none) (set_ok (call_ok (arg_ok cp rfl) (init_ok M))) (seq_nx (st' := yst ns S rk c (some (.v (.int (1 + mixL c1 22 200)))) none none none none none none none none none none) (set_ok (op_ok rfl (call_ok (arg_ok (call_ok rfl hc1) rfl) m22) rfl)) ?_)))
 ·show R.bind (p__law_machine [.lst (ns.map D.int), .int 0, .int 8]) _ = _
  rw [em]
  rfl
 obtain ⟨mo, h1, h2, hmo⟩ : ∃ mo : Int, 1 <= mo /\ mo <= 1001 /\ sIf (e2 dEq (eCall p__law_mix (aCons (eCall p__law_cell (aCons (eVar 0) (aCons (eC (.int 1)) (aNil)))) (aCons (eC (.int 24)) (aCons (eC (.int 8)) (aNil))))) (eC (.int 0))) (sSet 2 (eC (.int 1001))) (sNext) (yst ns S rk c (some (.v (.int (1 + mixL c1 22 200)))) none none none none none none none none none none) = .ok (.nx (yst ns S rk c (some (.v (.int mo))) none none none none none none none none none none)) := by
  have t := op_ok (op := dEq) (f := eCall p__law_mix (aCons (eCall p__law_cell (aCons (eVar 0) (aCons (eC (.int 1)) (aNil)))) (aCons (eC (.int 24)) (aCons (eC (.int 8)) (aNil))))) (g := eC (.int 0)) (st := yst ns S rk c (some (.v (.int (1 + mixL c1 22 200)))) none none none none none none none none none none) (call_ok (arg_ok (call_ok rfl hc1) rfl) m24) rfl (eqi_ok _ _)
  by_cases h : mixL c1 24 8 = 0
  ·rw [decide_eq_true h] at t
   exact ⟨1001, by decide, by decide, if_t t (set_ok rfl)⟩
  ·rw [decide_eq_false h] at t
   exact ⟨1 + mixL c1 22 200, by omega, by omega, if_f t rfl⟩
 refine seq_nx hmo ?_
 obtain ⟨rs, hrs, hlen, hlt⟩ : ∃ rs : List Nat, eComp [15] (tgN 15) (itE (eSl (eVar 0) (oSome (eC (.int 2))) (oSome (eC (.int 52))))) eTrue E_law_1 (yst ns S rk c (some (.v (.int mo))) none none none none none none none none none none) = .ok (.lst (nats rs)) /\ rs.length <= 63 /\ ∀ r ∈ rs, r < 1001 := by
  have hmem : ∀ d ∈ cut (ns.map D.int) (some 2) (some 52), d ∈ ns.map D.int := fun d hd => by
   unfold cut at hd
   exact List.mem_of_mem_drop (List.mem_of_mem_take hd)
  have hcl : (cut (ns.map D.int) (some 2) (some 52)).length <= 63 := by
   unfold cut
   rw [List.length_take, List.length_drop, List.length_map]
   omega
  obtain ⟨ys, e1', e2', e3'⟩ := compR_ex (tg := tgN 15) (c := eTrue) (f := E_law_1) (st := yst ns S rk c (some (.v (.int mo))) none none none none none none none none none none) (P := fun _ y => ∃ i : Int, y = .int i /\ 0 <= i /\ i < mo) (cut (ns.map D.int) (some 2) (some 52)) (fun d hd => by
   obtain ⟨i, _, rfl⟩ := List.mem_map.mp (hmem d hd)
   exact ⟨_, .int (mixL i 21 mo), rfl, rfl, call_ok rfl (mixL_ok i 21 mo (by omega)), _, rfl, mixL_lt i 21 (by omega)⟩)
  obtain ⟨rs, rfl, hr⟩ := nats_of ys mo fun y hy => let ⟨_, _, h⟩ := e3' y hy; h
  rw [nats_len] at e2'
  exact ⟨rs, comp_if rfl (by omega) e1', by omega, fun r h => by have := hr r h; omega⟩
 refine seq_nx (st' := yst ns S rk c (some (.v (.int mo))) (some (.v (.lst (nats rs)))) none none none none none none none none none) (set_ok hrs) ?_
 refine seq_nx (st' := yst ns S rk c (some (.v (.int mo))) (some (.v (.lst (nats rs)))) (some (.v (.lst (nats rs)))) none none none none none none none none) (set_ok rfl) ?_
 refine seq_nx (st' := yst ns S rk c (some (.v (.int mo))) (some (.v (.lst (nats rs)))) (some (.v (.lst (nats rs)))) (some (.v (.int (setN rs)))) none none none none none none none) (set_ok (call_ok rfl (bits_ok (fun r h => by have := hlt r h; omega) (by omega)))) ?_
 obtain ⟨q1, q2⟩ := ne_nats rs
 refine seq_same (if_f (or_ok (p := false) (q := false) (not_ok (p := true) (call_ok rfl (wholeL_ok _))) fun _ => or_ok (p := false) (q := false) (op_ok rfl (call_ok rfl (sumL_ok hlt)) (by rw [nei_ok, decide_eq_true rfl]; rfl)) fun _ => op_ok rfl rfl q1) rfl) ?_
 have hset : setN rs < 2 ^ 1001 := setN_lt hlt
 refine seq_nx (st' := yst ns S rk c (some (.v (.int mo))) (some (.v (.lst (nats rs)))) (some (.v (.lst (nats rs)))) (some (.v (.int (setN rs)))) (some (.v (.lst (nats (memN (setN rs)))))) none none none none none none) (set_ok (call_ok rfl (rooms_ok hset (by decide)))) ?_
 have hml : (memN (setN rs)).length <= 1001 := nodup_lt 1001 _ (memN_nodup _) fun x hx => memN_lt hset hx
 obtain ⟨u1, u2⟩ := ne_nats (memN (setN rs))
 refine seq_same (if_f (or_ok (p := false) (q := false) (isL_ok rfl) fun _ => op_ok (y := .lst (nats (memN (setN rs)))) rfl ?_ u1) rfl) ?_
 ·have ce := compR_if (tg := tgN 10) (C := C_law_3) (E := E_law_2) (st := yst ns S rk c (some (.v (.int mo))) (some (.v (.lst (nats rs)))) (some (.v (.lst (nats rs)))) (some (.v (.int (setN rs)))) (some (.v (.lst (nats (memN (setN rs)))))) none none none none none none) (q := fun r => decide (r ∈ rs)) (G := fun r => .int r) (List.range 1001) (fun r _ => ⟨_, rfl, op_ok rfl rfl (inl_ok r rs), rfl⟩)
  have ef : (List.range 1001).filter (fun r => decide (r ∈ rs)) = memN (setN rs) := by
   rw [<- memN_range hset]
   refine List.filter_congr fun r _ => ?_
   rw [setN_bit]
  rw [ef] at ce
  exact comp_if (r1_ok (n := 1001) rfl (by decide)) (by rw [List.length_map, List.length_range]; decide) ce
 refine seq_same (if_f (op_ok (x := .int 0) ?_ rfl rfl) rfl) ?_
 ·have ce := compR_if (tg := tgN 10) (C := C_law_5) (E := E_law_4) (st := yst ns S rk c (some (.v (.int mo))) (some (.v (.lst (nats rs)))) (some (.v (.lst (nats rs)))) (some (.v (.int (setN rs)))) (some (.v (.lst (nats (memN (setN rs)))))) none none none none none none) (q := fun _ => false) (G := fun r => .int r) (memN (setN rs)) (fun r _ => ⟨_, rfl, not_ok (p := true) (call_ok rfl (wholeL_ok _)), rfl⟩)
  rw [List.filter_eq_nil_iff.mpr fun _ _ => Bool.false_ne_true] at ce
  have := comp_if (is := [10]) (it := itE (eVar 6)) (xs := nats (memN (setN rs))) (st := yst ns S rk c (some (.v (.int mo))) (some (.v (.lst (nats rs)))) (some (.v (.lst (nats rs)))) (some (.v (.int (setN rs)))) (some (.v (.lst (nats (memN (setN rs)))))) none none none none none none) rfl (by rw [nats_len]; omega) ce
  show R.bind (eComp [10] (tgN 10) (itE (eVar 6)) C_law_5 E_law_4 _) dLen = _
  rw [this]
  rfl
 obtain ⟨T, eT, hT⟩ := led_ok M
 refine seq_nx (st' := yst ns S rk c (some (.v (.int mo))) (some (.v (.lst (nats rs)))) (some (.v (.lst (nats rs)))) (some (.v (.int (setN rs)))) (some (.v (.lst (nats (memN (setN rs)))))) (some (.v (.lst ((matD S.length T).map D.lst)))) none none none none none) (set_ok (call_ok rfl eT)) ?_
 have p2 : (0 : Int) < ((2 ^ S.length : Nat) : Int) := by have : 1 <= 2 ^ S.length := Nat.one_le_two_pow; omega
 have hm := mixL_ok c3 23 _ p2
 obtain ⟨m1, _⟩ := mixL_lt c3 23 p2
 obtain ⟨G, hG⟩ : ∃ G : Nat, mixL c3 23 ((2 ^ S.length : Nat) : Int) = G := ⟨(mixL c3 23 ((2 ^ S.length : Nat) : Int)).toNat, by omega⟩
 rw [hG] at hm
 refine seq_nx (st' := yst ns S rk c (some (.v (.int mo))) (some (.v (.lst (nats rs)))) (some (.v (.lst (nats rs)))) (some (.v (.int (setN rs)))) (some (.v (.lst (nats (memN (setN rs)))))) (some (.v (.lst ((matD S.length T).map D.lst)))) (some (.v (.int G))) none none none none) (set_ok (call_ok (arg_ok (call_ok rfl hc3) (arg_ok rfl (arg_ok (op_ok rfl (by rw [<- stD_len S]; rfl) (shl_ok (n := S.length) (by omega))) rfl))) hm)) ?_
 refine seq_nx (st' := yst ns S rk c (some (.v (.int mo))) (some (.v (.lst (nats rs)))) (some (.v (.lst (nats rs)))) (some (.v (.int (setN rs)))) (some (.v (.lst (nats (memN (setN rs)))))) (some (.v (.lst ((matD S.length T).map D.lst)))) (some (.v (.int G))) (some (.v (.int 0))) none none none) (set_ok rfl) ?_
 obtain ⟨y10, y13, y14, e⟩ := rooms_loop ns M hT G (some (.v (.int mo))) (some (.v (.lst (nats rs)))) (some (.v (.lst (nats rs)))) (some (.v (.int (setN rs)))) (some (.v (.lst (nats (memN (setN rs)))))) S.length 0 none none none (by omega)
 rw [sum_bits (hitR S c G) S.length] at e
 refine seq_nx (for_ok (yst_it ns M _ _ _ _ _ _ _ _ _ _ _) (by rw [List.range_eq_range']; exact e)) ?_
 refine seq_nx (st' := yst ns S rk c (some (.v (.int mo))) (some (.v (.lst (nats rs)))) (some (.v (.lst (nats rs)))) (some (.v (.int (setN rs)))) (some (.v (.int (setN ((List.range S.length).filter (hitR S c G)))))) (some (.v (.lst ((matD S.length T).map D.lst)))) (some (.v (.int G))) (some (.v (.int (setN ((List.range S.length).filter (hitR S c G)))))) y10 y13 y14) (set_ok (call_ok rfl (reach_ok M G))) ?_
 exact ret_ok (and_ok (p := true) (q := true) (call_ok rfl (wholeL_ok _)) fun _ => op_ok rfl rfl (by rw [eqi_ok, decide_eq_true rfl]))
end Pu
namespace Pu
open PySem PySem.Spec PyProof.Rows L2
abbrev LSt := L2.St
def keyD : Key -> D
 | .inl i => .int i
 | .inr x => .str x.cps.toList
structure ExcCl (K : PySem.W.Frag) (C : Addr) : Prop where
 ga : PySem.W.findIn K (.ref C) "__getattribute__" = some (some (.builtin "BaseException.__getattribute__"))
 gn : PySem.W.findIn K (.ref C) "__getattr__" = some none
 mb : PySem.W.mroIn K C (.type "BaseException") = some true
 cl : (PySem.W.clsIn K C).isSome = true
 fd : PySem.W.findIn K (.ref C) "__class__" = some (some (.builtin "object.__class__"))
 sp : PySem.W.specialIn K (.builtin "object.__class__") "__get__" = some (some (.builtin "getset_descriptor.__get__"))
 tk : PySem.W.takesIn K (.builtin "object.__class__") = some true
 mr : PySem.W.mroIn K C (.type "object") = some true
def ExcOb (a C : Addr) (h : Heap) : Prop := ∃ o, h.get? a = some o /\ o.cls = .ref C /\ PySem.W.notCls o = true
structure ExcIs (K : PySem.W.Frag) (c : String) (C : Addr) : Prop where
 ns : PySem.W.nsIn K mainGlobals (Str.ofString c) = some (some (.ref C))
 ic : ExcCl K C
def xOb (x C : Addr) (d : Option Addr) (h : Heap) : Prop := ∃ o, h.get? x = some o /\ o.cls = .ref C /\ PySem.W.notCls o = true /\ o.dict = d
def xFs (dx : Addr) (fs : List (Str × V)) (h : Heap) : Prop := ∃ mA, h.Ns1 dx mA /\ (∀ f, RelO (fs.lookup f) (mA f)) /\ PySem.Within mA (fs.map (·.1))
mutual
def Rep (K : PySem.W.Frag) (H : Hp) : D -> V -> Prop
 | .non, v => v = V.non
 | .bl b, v => v = V.bl b
 | .int i, v => v = V.int i
 | .str s, v => v = V.str ⟨s.toArray⟩
 | .tup ds, v => ∃ a vs, v = V.ref a /\ H a = some (.tup vs) /\ Reps K H ds vs
 | .lst ds, v => ∃ a vs, v = V.ref a /\ SqL K H a vs /\ Reps K H ds vs
 | .dct t ks ds, v => ∃ a vs, v = V.ref a /\ ((t = false /\ ∃ kvs : List (Key × V), H a = some (.dK kvs) /\ kvs.map (fun p => keyD p.1) = ks /\ vs = kvs.map (·.2)) \/ (t = true /\ ∃ kvs : List (List Key × V), H a = some (.dT kvs) /\ kvs.map (fun p => D.tup (p.1.map keyD)) = ks /\ vs = kvs.map (·.2))) /\ Reps K H ds vs
 | .ins c ns ds, v => ∃ a C dx fs vs, v = V.ref a /\ H a = some (.ins C dx fs) /\ PySem.W.nsIn K mainGlobals (Str.ofString c) = some (some (.ref C)) /\ fs.map (·.1) = ns.map Str.ofString /\ vs = fs.map (·.2) /\ Reps K H ds vs
 | .exn c ns ds, v => ∃ a φ C, v = V.ref a /\ H a = some (.ext φ) /\ (∀ h, φ h -> ExcOb a C h) /\ ExcIs K c C /\ ∃ dx fs vs, ((ns = [] /\ vs = []) \/ (φ = xOb a C (some dx) /\ dx ≠ a /\ H dx = some (.ext (xFs dx fs)) /\ fs.map (·.1) = ns.map Str.ofString /\ vs = fs.map (·.2))) /\ Reps K H ds vs
def Reps (K : PySem.W.Frag) (H : Hp) : List D -> List V -> Prop
 | [], vs => vs = []
 | d :: ds, vs => ∃ v r, vs = v :: r /\ Rep K H d v /\ Reps K H ds r
end
theorem sqT_mono {K : PySem.W.Frag} {H H' : Hp} {a : Addr} {xs : List V} (e : Same H H') (h : SqT K H a xs) : SqT K H' a xs := by
 rcases h with (h | ⟨o, h⟩) | h
 ·exact .inl (.inl (e _ _ h))
 ·exact .inl (.inr ⟨o, e _ _ h⟩)
 ·exact .inr h
mutual
theorem Rep.mono {K : PySem.W.Frag} {H H' : Hp} (s : Same H H') : ∀ {d : D} {v : V}, Rep K H d v -> Rep K H' d v
 | .non, _, h => by unfold Rep at h ⊢; exact h
 | .bl _, _, h => by unfold Rep at h ⊢; exact h
 | .int _, _, h => by unfold Rep at h ⊢; exact h
 | .str _, _, h => by unfold Rep at h ⊢; exact h
 | .tup _, _, h => by
  unfold Rep at h ⊢
  obtain ⟨a, vs, e, q, r⟩ := h
  exact ⟨a, vs, e, s _ _ q, Reps.mono s r⟩
 | .lst _, _, h => by
  unfold Rep at h ⊢
  obtain ⟨a, vs, e, q, r⟩ := h
  exact ⟨a, vs, e, s.seq q, Reps.mono s r⟩
 | .dct _ _ _, _, h => by
  unfold Rep at h ⊢
  obtain ⟨a, vs, e, q, r⟩ := h
  refine ⟨a, vs, e, ?_, Reps.mono s r⟩
  rcases q with ⟨q0, kvs, q1, q2⟩ | ⟨q0, kvs, q1, q2⟩
  ·exact .inl ⟨q0, kvs, s _ _ q1, q2⟩
  ·exact .inr ⟨q0, kvs, s _ _ q1, q2⟩
 | .ins _ _ _, _, h => by
  unfold Rep at h ⊢
  obtain ⟨a, C, dx, fs, vs, e, q1, q2, q3, q4, r⟩ := h
  exact ⟨a, C, dx, fs, vs, e, s _ _ q1, q2, q3, q4, Reps.mono s r⟩
 | .exn _ _ _, _, h => by
  unfold Rep at h ⊢
  obtain ⟨a, φ, C, e, q, hφ, hi, dx, fs, vs, h1, r⟩ := h
  refine ⟨a, φ, C, e, s _ _ q, hφ, hi, dx, fs, vs, ?_, Reps.mono s r⟩
  rcases h1 with h1 | ⟨h1, h2, h3, h4⟩
  ·exact .inl h1
  ·exact .inr ⟨h1, h2, s _ _ h3, h4⟩
theorem Reps.mono {K : PySem.W.Frag} {H H' : Hp} (s : Same H H') : ∀ {ds : List D} {vs : List V}, Reps K H ds vs -> Reps K H' ds vs
 | [], _, h => by unfold Reps at h ⊢; exact h
 | d :: ds, _, h => by
  unfold Reps at h ⊢
  obtain ⟨v, r, e, q, t⟩ := h
  exact ⟨v, r, e, Rep.mono s q, Reps.mono s t⟩
end
section
variable {K : PySem.W.Frag} {H : Hp}
theorem rep_non {v : V} : Rep K H .non v ↔ v = V.non := by unfold Rep; exact Iff.rfl
theorem rep_bl {b : Bool} {v : V} : Rep K H (.bl b) v ↔ v = V.bl b := by unfold Rep; exact Iff.rfl
theorem rep_int {i : Int} {v : V} : Rep K H (.int i) v ↔ v = V.int i := by unfold Rep; exact Iff.rfl
theorem rep_str {s : List Nat} {v : V} : Rep K H (.str s) v ↔ v = V.str ⟨s.toArray⟩ := by unfold Rep; exact Iff.rfl
theorem rep_tupD {ds : List D} {v : V} : Rep K H (.tup ds) v ↔ ∃ a vs, v = V.ref a /\ H a = some (.tup vs) /\ Reps K H ds vs := by conv => lhs; unfold Rep
theorem rep_tup_mp {ds : List D} {v : V} (h : Rep K H (.tup ds) v) : ∃ a vs, v = V.ref a /\ SqT K H a vs /\ Reps K H ds vs :=
 let ⟨a, vs, e, q, r⟩ := rep_tupD.mp h; ⟨a, vs, e, SqT.of q, r⟩
theorem rep_lst {ds : List D} {v : V} : Rep K H (.lst ds) v ↔ ∃ a vs, v = V.ref a /\ SqL K H a vs /\ Reps K H ds vs := by conv => lhs; unfold Rep
theorem rep_dct {t : Bool} {ks ds : List D} {v : V} : Rep K H (.dct t ks ds) v ↔ ∃ a vs, v = V.ref a /\ ((t = false /\ ∃ kvs : List (Key × V), H a = some (.dK kvs) /\ kvs.map (fun p => keyD p.1) = ks /\ vs = kvs.map (·.2)) \/ (t = true /\ ∃ kvs : List (List Key × V), H a = some (.dT kvs) /\ kvs.map (fun p => D.tup (p.1.map keyD)) = ks /\ vs = kvs.map (·.2))) /\ Reps K H ds vs := by conv => lhs; unfold Rep
theorem rep_ins {c : String} {ns : List String} {ds : List D} {v : V} : Rep K H (.ins c ns ds) v ↔ ∃ a C dx fs vs, v = V.ref a /\ H a = some (.ins C dx fs) /\ PySem.W.nsIn K mainGlobals (Str.ofString c) = some (some (.ref C)) /\ fs.map (·.1) = ns.map Str.ofString /\ vs = fs.map (·.2) /\ Reps K H ds vs := by conv => lhs; unfold Rep
theorem rep_exn {c : String} {ns : List String} {ds : List D} {v : V} : Rep K H (.exn c ns ds) v ↔ ∃ a φ C, v = V.ref a /\ H a = some (.ext φ) /\ (∀ h, φ h -> ExcOb a C h) /\ ExcIs K c C /\ ∃ dx fs vs, ((ns = [] /\ vs = []) \/ (φ = xOb a C (some dx) /\ dx ≠ a /\ H dx = some (.ext (xFs dx fs)) /\ fs.map (·.1) = ns.map Str.ofString /\ vs = fs.map (·.2))) /\ Reps K H ds vs := by conv => lhs; unfold Rep
theorem reps_nil {vs : List V} : Reps K H [] vs ↔ vs = [] := by unfold Reps; exact Iff.rfl
theorem reps_cons {d : D} {ds : List D} {vs : List V} : Reps K H (d :: ds) vs ↔ ∃ v r, vs = v :: r /\ Rep K H d v /\ Reps K H ds r := by conv => lhs; unfold Reps
theorem Reps.nil : Reps K H [] [] := reps_nil.mpr rfl
theorem Reps.cons {d : D} {ds : List D} {v : V} {vs : List V} (h : Rep K H d v) (t : Reps K H ds vs) : Reps K H (d :: ds) (v :: vs) := reps_cons.mpr ⟨v, vs, rfl, h, t⟩
theorem Reps.length : ∀ {ds : List D} {vs : List V}, Reps K H ds vs -> vs.length = ds.length
 | [], _, h => by rw [reps_nil.mp h]; rfl
 | _ :: ds, _, h => by
  obtain ⟨v, r, rfl, _, t⟩ := reps_cons.mp h
  rw [List.length_cons, List.length_cons, Reps.length t]
theorem Reps.get : ∀ {ds : List D} {vs : List V} {i : Nat} {d : D}, Reps K H ds vs -> ds[i]? = some d -> ∃ v, vs[i]? = some v /\ Rep K H d v
 | [], _, _, _, _, e => by simp at e
 | _ :: ds, _, 0, d, h, e => by
  obtain ⟨v, r, rfl, q, t⟩ := reps_cons.mp h
  simp at e; subst e
  exact ⟨v, rfl, q⟩
 | _ :: ds, _, i + 1, d, h, e => by
  obtain ⟨v, r, rfl, q, t⟩ := reps_cons.mp h
  obtain ⟨u, e1, e2⟩ := Reps.get (i := i) t (by simpa using e)
  exact ⟨u, by simpa using e1, e2⟩
theorem Reps.append : ∀ {ds es : List D} {vs us : List V}, Reps K H ds vs -> Reps K H es us -> Reps K H (ds ++ es) (vs ++ us)
 | [], _, _, _, h, t => by rw [reps_nil.mp h]; exact t
 | _ :: _, _, _, _, h, t => by
  obtain ⟨v, r, rfl, q, w⟩ := reps_cons.mp h
  exact .cons q (Reps.append w t)
theorem Reps.set {d : D} {v : V} (hd : Rep K H d v) : ∀ {ds : List D} {vs : List V} (i : Nat), Reps K H ds vs -> Reps K H (ds.set i d) (vs.set i v)
 | [], _, _, h => by rw [reps_nil.mp h]; exact .nil
 | _ :: _, _, 0, h => by
  obtain ⟨v, r, rfl, q, w⟩ := reps_cons.mp h
  exact .cons hd w
 | _ :: _, _, i + 1, h => by
  obtain ⟨v, r, rfl, q, w⟩ := reps_cons.mp h
  exact .cons q (Reps.set hd i w)
theorem Reps.take : ∀ {ds : List D} {vs : List V} (n : Nat), Reps K H ds vs -> Reps K H (ds.take n) (vs.take n)
 | _, _, 0, _ => .nil
 | [], _, _ + 1, h => by rw [reps_nil.mp h]; exact .nil
 | _ :: _, _, n + 1, h => by
  obtain ⟨v, r, rfl, q, w⟩ := reps_cons.mp h
  exact .cons q (Reps.take n w)
theorem Reps.drop : ∀ {ds : List D} {vs : List V} (n : Nat), Reps K H ds vs -> Reps K H (ds.drop n) (vs.drop n)
 | _, _, 0, h => h
 | [], _, _ + 1, h => by rw [reps_nil.mp h]; exact .nil
 | _ :: _, _, n + 1, h => by
  obtain ⟨v, r, rfl, q, w⟩ := reps_cons.mp h
  exact Reps.drop n w
theorem Reps.rep {ds : List D} {vs : List V} (h : Reps K H ds vs) : ∀ n : Nat, Reps K H (Pu.rep n ds) (List.replicate n vs).flatten
 | 0 => .nil
 | n + 1 => by
  unfold Pu.rep
  rw [List.replicate_succ, List.flatten_cons, List.replicate_succ, List.flatten_cons]
  exact h.append (Reps.rep h n)
end
def hide (A : List Addr) (H : Hp) : Hp := fun b => if b ∈ A then none else H b
theorem hide_in {A : List Addr} {H : Hp} {b : Addr} (h : b ∈ A) : hide A H b = none := if_pos h
theorem hide_out {A : List Addr} {H : Hp} {b : Addr} (h : b ∉ A) : hide A H b = H b := if_neg h
theorem hide_sub (A : List Addr) (H : Hp) : Same (hide A H) H := fun b o h => by
 unfold hide at h
 split at h
 ·cases h
 ·exact h
theorem Same.hide {A : List Addr} {H H' : Hp} (s : Same H H') : Same (hide A H) (hide A H') := fun b o h => by
 unfold Pu.hide at h ⊢
 split at h
 ·cases h
 ·rename_i q
  rw [if_neg q]
  exact s b o h
theorem hide_more {A A' : List Addr} {H : Hp} (h : ∀ a ∈ A', a ∈ A) : Same (hide A H) (hide A' H) := fun b o q => by
 by_cases hb : b ∈ A
 ·rw [hide_in hb] at q; cases q
 ·rw [hide_out hb] at q
  rw [hide_out fun z => hb (h b z)]
  exact q
theorem hide_nil (H : Hp) : hide [] H = H := by
 funext b
 exact hide_out (by simp)
theorem hide_upd {A : List Addr} {H : Hp} {a : Addr} {o : HO} (h : a ∈ A) : hide A (upd H a o) = hide A H := by
 funext b
 by_cases hb : b ∈ A
 ·rw [hide_in hb, hide_in hb]
 ·rw [hide_out hb, hide_out hb]
  exact upd_ne fun z => hb (z ▸ h)
theorem same_upd {H : Hp} {p : Addr} {o : HO} (h : H p = none) : Same H (upd H p o) := fun b u q => by
 rw [upd_ne (ne_of_none q h)]; exact q
def Own (A : List Addr) (H : Hp) : Prop := ∀ a ∈ A, (H a).isSome = true
theorem Own.mono {A : List Addr} {H H' : Hp} (h : Own A H) (s : Same H H') : Own A H' := fun a ha => by
 obtain ⟨o, e⟩ := Option.isSome_iff_exists.mp (h a ha)
 rw [s a o e]; rfl
theorem Own.free {A : List Addr} {H : Hp} (h : Own A H) {p : Addr} (e : H p = none) : p ∉ A := fun z => by
 have q := h p z
 rw [e] at q; cases q
theorem rep_new_lst {K : PySem.W.Frag} {A : List Addr} {H : Hp} {p : Addr} {ds : List D} {vs : List V} (w : Own A H) (e : H p = none) (h : Reps K (hide A H) ds vs) : Rep K (hide A (upd H p (.lst vs))) (.lst ds) (.ref p) :=
 rep_lst.mpr ⟨p, vs, rfl, SqL.of (by rw [hide_out (w.free e)]; exact upd_same), h.mono (Same.hide (same_upd e))⟩
theorem rep_new_tup {K : PySem.W.Frag} {A : List Addr} {H : Hp} {p : Addr} {ds : List D} {vs : List V} (w : Own A H) (e : H p = none) (h : Reps K (hide A H) ds vs) : Rep K (hide A (upd H p (.tup vs))) (.tup ds) (.ref p) :=
 rep_tupD.mpr ⟨p, vs, rfl, (by rw [hide_out (w.free e)]; exact upd_same), h.mono (Same.hide (same_upd e))⟩
def KOk (K : PySem.W.Frag) : OK -> Addr -> HO -> List V -> Prop
 | .l, _, o, vs => o = .lst vs
 | .d t ks, _, o, vs => (t = false /\ ∃ kvs : List (Key × V), o = .dK kvs /\ kvs.map (fun p => keyD p.1) = ks /\ vs = kvs.map (·.2)) \/ (t = true /\ ∃ kvs : List (List Key × V), o = .dT kvs /\ kvs.map (fun p => D.tup (p.1.map keyD)) = ks /\ vs = kvs.map (·.2))
 | .i n c ns, a, o, vs => a = n /\ ∃ C dx fs, o = .ins C dx fs /\ PySem.W.nsIn K mainGlobals (Str.ofString c) = some (some (.ref C)) /\ fs.map (·.1) = ns.map Str.ofString /\ vs = fs.map (·.2)
theorem KOk.rep {K : PySem.W.Frag} {H : Hp} {k : OK} {o : HO} {vs : List V} {ds : List D} {a : Addr} (ko : KOk K k a o vs) (h : H a = some o) (r : Reps K H ds vs) : Rep K H (ofK k ds) (.ref a) := by
 cases k with
 | l => have e : o = .lst vs := ko; subst e; exact rep_lst.mpr ⟨a, vs, rfl, SqL.of h, r⟩
 | d t ks =>
  refine rep_dct.mpr ⟨a, vs, rfl, ?_, r⟩
  rcases ko with ⟨q0, kvs, rfl, q⟩ | ⟨q0, kvs, rfl, q⟩
  ·exact .inl ⟨q0, kvs, h, q⟩
  ·exact .inr ⟨q0, kvs, h, q⟩
 | i n c ns =>
  obtain ⟨_, C, dx, fs, rfl, q1, q2, q3⟩ := ko
  exact rep_ins.mpr ⟨a, C, dx, fs, vs, rfl, h, q1, q2, q3, r⟩
structure RS (K : PySem.W.Frag) (B A : List Addr) (H : Hp) (st : PSt) (σ : LSt) : Prop where
 len : st.length = σ.length
 own : Own (A ++ B) H
 dis : ∀ a ∈ A, a ∉ B
 val : ∀ (i : Nat) d, st[i]? = some (some (.v d)) -> ∃ v, σ[i]? = some (some v) /\ Rep K (hide (A ++ B) H) d v
 lst : ∀ (i : Nat) k xs, st[i]? = some (some (.o k xs)) -> ∃ a o vs, σ[i]? = some (some (.ref a)) /\ a ∈ A /\ H a = some o /\ KOk K k a o vs /\ Reps K (hide (A ++ B) H) xs vs /\
  ∀ (j : Nat) k' ys, st[j]? = some (some (.o k' ys)) -> σ[j]? = some (some (.ref a)) -> j = i
theorem RS.mono {K : PySem.W.Frag} {B A : List Addr} {H H' : Hp} {st : PSt} {σ : LSt} (r : RS K B A H st σ) (s : Same H H') : RS K B A H' st σ where
 len := r.len
 own := r.own.mono s
 dis := r.dis
 val := fun i d e => let ⟨v, e1, q⟩ := r.val i d e; ⟨v, e1, q.mono (Same.hide s)⟩
 lst := fun i k xs e => let ⟨a, o, vs, e1, m, h, ko, q, u⟩ := r.lst i k xs e; ⟨a, o, vs, e1, m, s _ _ h, ko, q.mono (Same.hide s), u⟩
def Le (A : List Addr) (H : Hp) (A' : List Addr) (H' : Hp) : Prop := Same (hide A H) (hide A' H')
theorem Le.refl {A : List Addr} {H : Hp} : Le A H A H := Same.refl _
theorem Le.of {A : List Addr} {H H' : Hp} (s : Same H H') : Le A H A H' := Same.hide s
theorem Le.trans {A A1 A2 : List Addr} {H H1 H2 : Hp} (a : Le A H A1 H1) (b : Le A1 H1 A2 H2) : Le A H A2 H2 := Same.trans a b
def tI (K : PySem.W.Frag) (B : List Addr) (f : Ex) : TE := fun σ H Q => ∃ A st d, RS K B A H st σ /\ f st = .ok d /\ ∀ v H', Same H H' -> Rep K (hide (A ++ B) H') d v -> Q v H'
def RepP (K : PySem.W.Frag) (A : List Addr) (H : Hp) (d : D) (v : V) : Prop :=
 Rep K (hide A H) d v \/ ∃ a k o ds vs, d = ofK k ds /\ v = V.ref a /\ H a = some o /\ KOk K k a o vs /\ Reps K (hide A H) ds vs
theorem RepP.mono {K : PySem.W.Frag} {A : List Addr} {H H' : Hp} {d : D} {v : V} (s : Same H H') (h : RepP K A H d v) : RepP K A H' d v := by
 rcases h with h | ⟨a, k, o, ds, vs, e1, e2, e3, ko, q⟩
 ·exact .inl (h.mono (Same.hide s))
 ·exact .inr ⟨a, k, o, ds, vs, e1, e2, s _ _ e3, ko, q.mono (Same.hide s)⟩
def tP (K : PySem.W.Frag) (B : List Addr) (f : Ex) : TE := fun σ H Q => ∃ A st d, RS K B A H st σ /\ f st = .ok d /\ ∀ v H', Same H H' -> RepP K (A ++ B) H' d v -> Q v H'
def tA (K : PySem.W.Frag) (B : List Addr) (f : Exs) : TA := fun σ H Q => ∃ A st ds, RS K B A H st σ /\ f st = .ok ds /\ ∀ vs H', Same H H' -> Reps K (hide (A ++ B) H') ds vs -> Q vs H'
def tT (K : PySem.W.Frag) (B : List Addr) (f : Ex) : TT := fun σ H Q => ∃ A st b, RS K B A H st σ /\ f st = .ok (.bl b) /\ ∀ H', Same H H' -> Q b H'
def tO (K : PySem.W.Frag) (B : List Addr) (f : ExO) : TO := fun σ H Q => ∃ A st o, RS K B A H st σ /\ f st = .ok o /\ ∀ H', Same H H' -> Q o H'
def Post (K : PySem.W.Frag) (B A : List Addr) (H : Hp) (r : Fl) (Dn : Ends) : Prop := match r with
 | .nx st' => ∀ A' σ' H', Le A H A' H' -> RS K B A' H' st' σ' -> Dn.nx σ' H'
 | .bk st' => ∀ A' σ' H', Le A H A' H' -> RS K B A' H' st' σ' -> Dn.bk σ' H'
 | .ct st' => ∀ A' σ' H', Le A H A' H' -> RS K B A' H' st' σ' -> Dn.ct σ' H'
 | .rt d => ∀ A' v H', Le A H A' H' -> Rep K (hide (A' ++ B) H') d v -> Dn.rt v H'
theorem Post.mono {K : PySem.W.Frag} {B A A1 : List Addr} {H H1 : Hp} {r : Fl} {Dn : Ends} (l : Le A H A1 H1) (p : Post K B A H r Dn) : Post K B A1 H1 r Dn := by
 cases r with
 | nx st => exact fun A' σ' H' l' => p A' σ' H' (l.trans l')
 | bk st => exact fun A' σ' H' l' => p A' σ' H' (l.trans l')
 | ct st => exact fun A' σ' H' l' => p A' σ' H' (l.trans l')
 | rt d => exact fun A' v H' l' => p A' v H' (l.trans l')
def tS (K : PySem.W.Frag) (B : List Addr) (b : Bd) : TS := fun Dn σ H => ∃ A st r, RS K B A H st σ /\ b st = .ok r /\ Post K B A H r Dn
def ItOf (K : PySem.W.Frag) (B A : List Addr) (H : Hp) (J : It) (ds : List D) : Prop := ∀ A' H', Le A H A' H' -> Own (A' ++ B) H' -> ∀ (i : Nat),
 (∀ d, ds[i]? = some d -> J.go i H' /\ ∀ x H3, J.yld i H' x H3 -> Same H' H3 /\ Rep K (hide (A' ++ B) H3) d x) /\ (ds.length <= i -> J.stop i H')
def tIt (K : PySem.W.Frag) (B : List Addr) (f : ItE) : TI := fun σ H R => ∃ A st ds, RS K B A H st σ /\ f st = .ok ds /\ ∀ J H', Same H H' -> ItOf K B A H' J ds -> R J H'
def tG (K : PySem.W.Frag) (B : List Addr) (g : Tg) : TG := fun v σ H Q => ∃ A st d s1, RS K B A H st σ /\ Rep K (hide (A ++ B) H) d v /\ g d st = .ok s1 /\ ∀ σ', RS K B A H s1 σ' -> Q σ' H
section
variable {X : Cx}
theorem pe_imp {e : Expr} {t t' : TE} (h : PE X e t) (m : ∀ σ H Q, t' σ H Q -> t σ H Q) : PE X e t' := fun pins s σ H Q I q => h pins s σ H Q I (m σ H Q q)
theorem pt_imp {e : Expr} {t t' : TT} (h : PT X e t) (m : ∀ σ H Q, t' σ H Q -> t σ H Q) : PT X e t' := fun pins s σ H Q I q => h pins s σ H Q I (m σ H Q q)
theorem pw_imp {e : Expr} {t t' : TT} (h : PW X e t) (m : ∀ σ H Q, t' σ H Q -> t σ H Q) : PW X e t' := fun w pins s σ H Q I q => h w pins s σ H Q I (m σ H Q q)
theorem pa_imp {es : List Expr} {t t' : TA} (h : PA X es t) (m : ∀ σ H Q, t' σ H Q -> t σ H Q) : PA X es t' := fun pos pins s σ H Q I q => h pos pins s σ H Q I (m σ H Q q)
theorem po_imp {e : Option Expr} {t t' : TO} (h : PO X e t) (m : ∀ σ H Q, t' σ H Q -> t σ H Q) : PO X e t' := fun pins s σ H Q I q => h pins s σ H Q I (m σ H Q q)
theorem ps_imp {st : Stmt} {t t' : TS} (h : PS X st t) (m : ∀ D σ H, t' D σ H -> t D σ H) : PS X st t' := fun pins s σ H D I q => h pins s σ H D I (m D σ H q)
theorem pss_imp {st : List Stmt} {t t' : TS} (h : PSs X st t) (m : ∀ D σ H, t' D σ H -> t D σ H) : PSs X st t' := fun pins s σ H D I q => h pins s σ H D I (m D σ H q)
theorem pg_imp {e : Expr} {t t' : TG} (h : PG X e t) (m : ∀ v σ H Q, t' v σ H Q -> t v σ H Q) : PG X e t' := fun pins s σ H v u Q I r q => h pins s σ H v u Q I r (m v σ H Q q)
theorem pi_imp {tg e : Expr} {t t' : TI} (h : L2.PI X tg e t) (m : ∀ σ H R, t' σ H R -> t σ H R) : L2.PI X tg e t' := fun pins s σ H R I q => h pins s σ H R I (m σ H R q)
end
section
variable {X : Cx} {B : List Addr} {a b e : Expr} {f g h : Ex} {pos : Pos}
theorem i_var (i : Nat) {x : Str} (hN : X.N[i]? = some x := by rfl) (hv : Vis X.env.scope x := by first | exact Or.inl rfl | exact Or.inr (Or.inl rfl) | exact Or.inr (Or.inr rfl)) (hd : (x == ("__debug__" : Str)) = false := by decide)
  (hcd : (x == ("__classdict__" : Str)) = false := by decide) : PE X (.Name x pos) (tI X.K B (eVar i)) := by
 refine pe_imp (pe_var hN hv hd hcd) ?_
 rintro σ H Q ⟨A, st, d, rs, hd, q⟩
 unfold eVar at hd
 split at hd
 ·rename_i d' e
  cases hd
  obtain ⟨v, e1, r⟩ := rs.val i _ e
  exact ⟨v, e1, q v H (Same.refl _) r⟩
 ·cases hd
end
end Pu
namespace Pu
open PySem PySem.Spec PyProof.Rows L2
section
variable {X : Cx} {B : List Addr} {a b e : Expr} {f g : Ex} {pos : Pos}
theorem i_c {d : D} {v : V} (h : PE X e (tC v)) (r : ∀ H, Rep X.K H d v) : PE X e (tI X.K B (eC d)) := pe_imp h (by
 rintro σ H Q ⟨A, st, d', rs, hd, q⟩
 cases hd
 exact q v H (Same.refl _) (r _))
theorem i_int {i : Int} {j : Nat} : PE X (.Constant (.int i) j pos) (tI X.K B (eC (.int i))) := i_c pe_int fun _ => rep_int.mpr rfl
theorem i_bl {q : Bool} {j : Nat} : PE X (.Constant (.bool q) j pos) (tI X.K B (eC (.bl q))) := i_c pe_bl fun _ => rep_bl.mpr rfl
theorem i_gint {x : Str} {i : Int} {t : Tok} (hm : X.mg x = some (.int i t)) (hg : Gl X x := by rfl) (hd : (x == ("__debug__" : Str)) = false := by decide) : PE X (.Name x pos) (tI X.K B (eC (.int i))) :=
 i_c (pe_glob (v := .int i) hg hm ⟨t, rfl⟩ hd) fun _ => rep_int.mpr rfl
theorem toP (h : PE X e (tI X.K B f)) : PE X e (tP X.K B f) := pe_imp h (by
 rintro σ H Q ⟨A, st, d, rs, hd, q⟩
 exact ⟨A, st, d, rs, hd, fun v H' s r => q v H' s (.inl r)⟩)
theorem i_peek (i : Nat) {x : Str} (hN : X.N[i]? = some x := by rfl) (hv : Vis X.env.scope x := by first | exact Or.inl rfl | exact Or.inr (Or.inl rfl) | exact Or.inr (Or.inr rfl)) (hd : (x == ("__debug__" : Str)) = false := by decide)
  (hcd : (x == ("__classdict__" : Str)) = false := by decide) : PE X (.Name x pos) (tP X.K B (ePeek i)) := by
 refine pe_imp (pe_var hN hv hd hcd) ?_
 rintro σ H Q ⟨A, st, d, rs, hd, q⟩
 unfold ePeek at hd
 split at hd
 ·rename_i d' e
  cases hd
  obtain ⟨v, e1, r⟩ := rs.val i _ e
  exact ⟨v, e1, q v H (Same.refl _) (.inl r)⟩
 ·rename_i k xs e
  cases hd
  obtain ⟨a, o, vs, e1, m, h, ko, r, _⟩ := rs.lst i _ _ e
  exact ⟨_, e1, q _ H (Same.refl _) (.inr ⟨a, _, o, xs, vs, rfl, rfl, h, ko, r⟩)⟩
 ·cases hd
section
variable {K : PySem.W.Frag} {A : List Addr} {H : Hp} {v : V}
theorem RepP.non (h : RepP K A H .non v) : v = V.non := by
 rcases h with h | ⟨_, k, _, _, _, e, _⟩
 ·exact rep_non.mp h
 ·cases k <;> cases e
theorem RepP.bl {q : Bool} (h : RepP K A H (.bl q) v) : v = V.bl q := by
 rcases h with h | ⟨_, k, _, _, _, e, _⟩
 ·exact rep_bl.mp h
 ·cases k <;> cases e
theorem RepP.int {i : Int} (h : RepP K A H (.int i) v) : v = V.int i := by
 rcases h with h | ⟨_, k, _, _, _, e, _⟩
 ·exact rep_int.mp h
 ·cases k <;> cases e
theorem RepP.str {s : List Nat} (h : RepP K A H (.str s) v) : v = V.str ⟨s.toArray⟩ := by
 rcases h with h | ⟨_, k, _, _, _, e, _⟩
 ·exact rep_str.mp h
 ·cases k <;> cases e
theorem RepP.tup {ds : List D} (h : RepP K A H (.tup ds) v) : ∃ a vs, v = V.ref a /\ SqT K H a vs /\ Reps K (hide A H) ds vs := by
 rcases h with h | ⟨_, k, _, _, _, e, _⟩
 ·obtain ⟨a, vs, e, q, r⟩ := rep_tup_mp h
  exact ⟨a, vs, e, sqT_mono (hide_sub _ _) q, r⟩
 ·cases k <;> cases e
theorem RepP.lst {ds : List D} (h : RepP K A H (.lst ds) v) : ∃ a vs, v = V.ref a /\ SqL K H a vs /\ Reps K (hide A H) ds vs := by
 rcases h with h | ⟨a, k, o, ds', vs, e, e2, h, ko, r⟩
 ·obtain ⟨a, vs, e, q, r⟩ := rep_lst.mp h
  exact ⟨a, vs, e, (hide_sub _ _).seq q, r⟩
 ·cases k <;> cases e
  have e3 : o = .lst vs := ko
  subst e3
  exact ⟨a, vs, e2, SqL.of h, r⟩
end
def Sem2 (K : PySem.W.Frag) (r : R2) (o : Op2) : Prop := ∀ (A : List Addr) (H : Hp) (x y d : D) (v u : V) (Q : VK), Own A H -> RepP K A H x v -> RepP K A H y u -> o x y = .ok d ->
 (∀ w H', Same H H' -> Rep K (hide A H') d w -> Q w H') -> r v u H Q
theorem tOp_of {r : R2} {o : Op2} (sem : Sem2 X.K r o) {σ : LSt} {H : Hp} {Q : VK} (h : tI X.K B (e2 o f g) σ H Q) : tOp r (tP X.K B f) (tP X.K B g) σ H Q := by
 obtain ⟨A, st, d, rs, hd, q⟩ := h
 obtain ⟨x, hx, h2⟩ := R.ok_of hd
 obtain ⟨y, hy, h3⟩ := R.ok_of h2
 refine ⟨A, st, x, rs, hx, fun v H1 s1 r1 => ⟨A, st, y, rs.mono s1, hy, fun u H2 s2 r2 => ?_⟩⟩
 exact sem (A ++ B) H2 x y d v u Q (rs.own.mono (s1.trans s2)) (r1.mono s2) r2 h3 fun w H' s' r' => q w H' (s1.trans (s2.trans s')) r'
theorem i_op {op : Operator} {r : R2} {o : Op2} (ho : OpR X (binaryOp op) r) (sem : Sem2 X.K r o) (ha : PE X a (tP X.K B f)) (hb : PE X b (tP X.K B g)) : PE X (.BinOp a op b pos) (tI X.K B (e2 o f g)) :=
 pe_imp (pe_op ho ha hb) fun _ _ _ h => tOp_of sem h
theorem i_cmpG {op : CmpOp} {r : R2} {o : Op2} (ho : OpR X (compareOp op) r) (sem : Sem2 X.K r o) (ha : PE X a (tP X.K B f)) (hb : PE X b (tP X.K B g)) (hm : behindInMarks op b = false) : PE X (.Compare a [op] [b] pos) (tI X.K B (e2 o f g)) :=
 pe_imp (pe_cmpR ho ha hb hm) fun _ _ _ h => tOp_of sem h
theorem t_of {f : Ex} {σ : LSt} {H : Hp} {Q : Bool -> Hp -> Prop} (h : tT X.K B f σ H Q) : tI X.K B f σ H fun x H' => ∃ k, x = .bl k /\ Q k H' := by
 obtain ⟨A, st, k, rs, hk, q⟩ := h
 exact ⟨A, st, .bl k, rs, hk, fun v H' s r => ⟨k, rep_bl.mp r, q H' s⟩⟩
theorem i_cmpT {op : CmpOp} {r : R2} {o : Op2} (ho : OpR X (compareOp op) r) (sem : Sem2 X.K r o) (ha : PE X a (tP X.K B f)) (hb : PE X b (tP X.K B g)) (hm : behindInMarks op b = false) : PT X (.Compare a [op] [b] pos) (tT X.K B (e2 o f g)) :=
 pt_imp (pt_cmpR ho ha hb hm) fun _ _ _ h => tOp_of sem (t_of h)
theorem i_test {f : Ex} (h : PE X e (tI X.K B f)) (he : ∀ whole, isTrue e X.env whole = (do let v <- whole; standAt e.pos; holding [v] (truthy v)) := by intro _; rfl) : PT X e (tT X.K B f) :=
 pt_imp (pt_val h he) fun _ _ _ q => t_of q
theorem sem_rI0 {K : PySem.W.Frag} {g : Int -> Int -> D} {gv : Int -> Int -> V} {o : Op2} (hr : ∀ H i j, Rep K H (g i j) (gv i j)) (ho : ∀ x y d, o x y = .ok d -> ∃ i j, x = .int i /\ y = .int j /\ d = g i j) : Sem2 K (rI0 gv) o := by
 intro A H x y d v u Q w rx ry e q
 obtain ⟨i, j, rfl, rfl, rfl⟩ := ho x y d e
 exact ⟨i, j, rx.int, ry.int, q _ H (Same.refl _) (hr _ _ _)⟩
theorem sem_rI {K : PySem.W.Frag} {C : Int -> Int -> Prop} {g : Int -> Int -> D} {gv : Int -> Int -> V} {o : Op2} (hr : ∀ H i j, Rep K H (g i j) (gv i j)) (ho : ∀ x y d, o x y = .ok d -> ∃ i j, x = .int i /\ y = .int j /\ C i j /\ d = g i j) : Sem2 K (rI C gv) o := by
 intro A H x y d v u Q w rx ry e q
 obtain ⟨i, j, rfl, rfl, c, rfl⟩ := ho x y d e
 exact ⟨i, j, rx.int, ry.int, c, q _ H (Same.refl _) (hr _ _ _)⟩
theorem i_fdiv (ha : PE X a (tP X.K B f)) (hb : PE X b (tP X.K B g)) : PE X (.BinOp a .FloorDiv b pos) (tI X.K B (e2 dFdiv f g)) :=
 i_op op_fdiv (sem_rI (g := fun i j => .int (i / j)) (fun _ _ _ => rep_int.mpr rfl) fun x y d e => by
  unfold dFdiv at e
  split at e
  ·obtain ⟨c, e⟩ := guardR_of e; cases e; exact ⟨_, _, rfl, rfl, c, rfl⟩
  ·cases e) ha hb
theorem i_mod (ha : PE X a (tP X.K B f)) (hb : PE X b (tP X.K B g)) : PE X (.BinOp a .Mod b pos) (tI X.K B (e2 dMod f g)) :=
 i_op op_mod (sem_rI (g := fun i j => .int (i % j)) (fun _ _ _ => rep_int.mpr rfl) fun x y d e => by
  unfold dMod at e
  split at e
  ·obtain ⟨c, e⟩ := guardR_of e; cases e; exact ⟨_, _, rfl, rfl, c, rfl⟩
  ·cases e) ha hb
theorem i_pow (ha : PE X a (tP X.K B f)) (hb : PE X b (tP X.K B g)) : PE X (.BinOp a .Pow b pos) (tI X.K B (e2 dPow f g)) :=
 i_op op_pow (sem_rI (g := fun i j => .int (i ^ j.toNat)) (fun _ _ _ => rep_int.mpr rfl) fun x y d e => by
  unfold dPow at e
  split at e
  ·obtain ⟨c, e⟩ := guardR_of e; cases e; exact ⟨_, _, rfl, rfl, c, rfl⟩
  ·cases e) ha hb
def rCatL (K : PySem.W.Frag) : R2 := fun x y H Q => ∃ l b xs zs, x = .ref l /\ y = .ref b /\ SqL K H l xs /\ SqL K H b zs /\ xs.length + zs.length <= sizeLine /\ ∀ p, H p = none -> Q (.ref p) (upd H p (.lst (xs ++ zs)))
theorem op_catL : OpR X (binaryOp .Add) (rCatL X.K) := by
 intro pins s σ H x y v u Q I rx ry h
 obtain ⟨l, b, xs, zs, rfl, rfl, hH, hB, hz, q⟩ := h
 cases rx
 cases ry
 obtain ⟨its, r, ⟨⟨cls, dd, data, sl⟩, n, ho, hc, _, hd⟩, z⟩ := I.list hH
 obtain ⟨its2, r2, ⟨⟨cls2, dd2, data2, sl2⟩, n2, ho2, hc2, _, hd2⟩, z2⟩ := I.list hB
 simp only at hc hd hc2 hd2
 subst hc hd hc2 hd2
 have l1 := r.length
 have l2 := r2.length
 refine concat_meets ⟨_, ho, rfl⟩ ⟨_, ho2, rfl⟩ noFill_list_add seq_list_add PySem.F.slot_list_add PySem.F.entry_list_add (PySem.F.args_list_add_2 _ _) (list_addW l b its.toArray its2.toArray n n2 dd dd2 sl sl2 (by simp only [List.size_toArray]; omega)) ⟨ho, ho2, ?_⟩
 have ea : its.toArray ++ its2.toArray = (its ++ its2).toArray := by simp
 rw [ea]
 exact ⟨.ref _, _, I.lnew (t' := s.toks) (r.append r2) (by rw [List.length_append]; omega), rfl, q _ I.fresh⟩
theorem str_app (x y : List Nat) : (⟨x.toArray⟩ : Str) ++ (⟨y.toArray⟩ : Str) = ⟨(x ++ y).toArray⟩ := by
 show Str.append _ _ = _
 unfold Str.append
 simp
theorem str_len (x : List Nat) : (⟨x.toArray⟩ : Str).length = x.length := by simp [Str.length]
theorem lim {n : Nat} (h : n <= big) : n <= sizeLine := Nat.le_trans (by rw [big_eq] at h; exact h : n <= 10000000) (by decide)
theorem i_add (ha : PE X a (tP X.K B f)) (hb : PE X b (tP X.K B g)) : PE X (.BinOp a .Add b pos) (tI X.K B (e2 dAdd f g)) := by
 refine i_op (op_add.or (op_add_str.or op_catL)) ?_ ha hb
 intro A H x y d v u Q w rx ry e q
 cases x <;> cases y <;> first | (cases e; done) | skip
 ·cases e
  exact .inl ⟨_, _, rx.int, ry.int, q _ H (Same.refl _) (rep_int.mpr rfl)⟩
 ·obtain ⟨c, e⟩ := guardR_of e
  cases e
  exact .inr (.inl ⟨_, _, rx.str, ry.str, by rw [str_len, str_len]; exact lim c, q _ H (Same.refl _) (rep_str.mpr (by rw [str_app]))⟩)
 ·obtain ⟨c, e⟩ := guardR_of e
  cases e
  obtain ⟨l, xs, e1, h1, r1⟩ := rx.lst
  obtain ⟨m, ys, e2, h2, r2⟩ := ry.lst
  have l1 := r1.length
  have l2 := r2.length
  refine .inr (.inr ⟨l, m, xs, ys, e1, e2, h1, h2, by rw [l1, l2]; exact lim c, fun p hp => q _ _ (same_upd hp) ?_⟩)
  exact rep_new_lst w hp (r1.append r2)
theorem sem_le {K : PySem.W.Frag} : Sem2 K (rI0 fun i j => .bl (decide (i <= j))) dLe := sem_rI0 (g := fun i j => .bl (decide (i <= j))) (fun _ _ _ => rep_bl.mpr rfl) fun x y d e => by
 unfold dLe at e
 split at e
 ·cases e; exact ⟨_, _, rfl, rfl, rfl⟩
 ·cases e
theorem sem_gt {K : PySem.W.Frag} : Sem2 K (rI0 fun i j => .bl (decide (j < i))) dGt := sem_rI0 (g := fun i j => .bl (decide (j < i))) (fun _ _ _ => rep_bl.mpr rfl) fun x y d e => by
 unfold dGt at e
 split at e
 ·cases e; exact ⟨_, _, rfl, rfl, rfl⟩
 ·cases e
theorem sem_ge {K : PySem.W.Frag} : Sem2 K (rI0 fun i j => .bl (decide (j <= i))) dGe := sem_rI0 (g := fun i j => .bl (decide (j <= i))) (fun _ _ _ => rep_bl.mpr rfl) fun x y d e => by
 unfold dGe at e
 split at e
 ·cases e; exact ⟨_, _, rfl, rfl, rfl⟩
 ·cases e
theorem RepP.ref {K : PySem.W.Frag} {A : List Addr} {H : Hp} {d : D} {v : V} (h : RepP K A H d v) (h1 : d ≠ .non) (h2 : ∀ b, d ≠ .bl b) (h3 : ∀ i, d ≠ .int i) (h4 : ∀ s, d ≠ .str s) : ∃ a, v = V.ref a := by
 rcases h with h | ⟨a, _, _, _, _, _, e, _⟩
 ·cases d with
  | non => exact (h1 rfl).elim
  | bl b => exact (h2 b rfl).elim
  | int i => exact (h3 i rfl).elim
  | str s => exact (h4 s rfl).elim
  | tup _ => obtain ⟨a, _, e, _⟩ := rep_tup_mp h; exact ⟨a, e⟩
  | lst _ => obtain ⟨a, _, e, _⟩ := rep_lst.mp h; exact ⟨a, e⟩
  | dct _ _ _ => obtain ⟨a, _, e, _⟩ := rep_dct.mp h; exact ⟨a, e⟩
  | ins _ _ _ => obtain ⟨a, _, _, _, _, e, _⟩ := rep_ins.mp h; exact ⟨a, e⟩
  | exn _ _ _ => obtain ⟨a, _, _, e, _⟩ := rep_exn.mp h; exact ⟨a, e⟩
 ·exact ⟨a, e⟩
theorem ixN_same (n : Nat) (i : Int) : L2.ixN n i = Pu.ixN n i := rfl
theorem Reps.atI {K : PySem.W.Frag} {H : Hp} {ds : List D} {vs : List V} {i : Int} {d : D} (r : Reps K H ds vs) (e : Pu.atI ds i = some d) : ∃ v, L2.atI vs i = some v /\ Rep K H d v := by
 unfold Pu.atI at e
 unfold L2.atI
 rw [r.length, ixN_same]
 cases h : Pu.ixN ds.length i with
 | none => rw [h] at e; cases e
 | some j =>
  rw [h] at e
  exact r.get e
theorem ofO_of {α : Type} {o : Option α} {a : α} (h : ofO o = .ok a) : o = some a := by
 cases o with
 | none => cases h
 | some b => cases h; rfl
theorem sem_ix {K : PySem.W.Frag} {x : D} (hd : isDc x = false) (A : List Addr) (H : Hp) (x' y d : D) (v u : V) (Q : VK) (w : Own A H) (rx : RepP K A H x v) (ry : RepP K A H y u) (e : dIx x y = .ok d) (q : ∀ w H', Same H H' -> Rep K (hide A H') d w -> Q w H') : rIx K v u H Q := by
 cases x <;> first | (cases hd; done) | skip
 all_goals cases y
 all_goals first | (cases e; done) | skip
 ·rename_i s i
  obtain ⟨hz, e⟩ := guardR_of e
  have e := ofO_of e
  cases h : Pu.atI s i with
  | none => rw [h] at e; cases e
  | some c =>
   rw [h] at e
   cases e
   refine .inr (.inr ⟨_, i, c, rx.str, ry.int, by rw [str_len]; exact lim hz, ?_, q _ H (Same.refl _) (rep_str.mpr rfl)⟩)
   show L2.atI s.toArray.toList i = some c
   rw [List.toList_toArray]
   exact h
 ·rename_i ds i
  have h := ofO_of (show ofO (Pu.atI ds i) = .ok d from e)
  obtain ⟨l, xs, e1, h1, r1⟩ := rx.tup
  obtain ⟨z, h2, r2⟩ := r1.atI h
  exact .inr (.inl ⟨l, xs, i, z, e1, ry.int, h1, h2, q _ H (Same.refl _) r2⟩)
 ·rename_i ds i
  have h := ofO_of (show ofO (Pu.atI ds i) = .ok d from e)
  obtain ⟨l, xs, e1, h1, r1⟩ := rx.lst
  obtain ⟨z, h2, r2⟩ := r1.atI h
  exact .inl ⟨l, xs, i, z, e1, ry.int, h1, h2, q _ H (Same.refl _) r2⟩
theorem i_and1 (h : PE X a (tI X.K B f)) : PE X (.BoolOp .And [a] pos) (tI X.K B f) := pe_one h
theorem i_or1 (h : PE X a (tI X.K B f)) : PE X (.BoolOp .Or [a] pos) (tI X.K B f) := pe_one h
theorem i_and {rest : List Expr} (ha : PE X a (tI X.K B f)) (hb : PE X (.BoolOp .And (b :: rest) pos) (tI X.K B g)) : PE X (.BoolOp .And (a :: b :: rest) pos) (tI X.K B (eAnd f g)) := by
 refine pe_imp (pe_and ha hb) ?_
 rintro σ H Q ⟨A, st, d, rs, hd, q⟩
 obtain ⟨x, hx, h2⟩ := R.ok_of hd
 obtain ⟨k, rfl, h3⟩ := onB_of h2
 refine ⟨A, st, _, rs, hx, fun v H1 s1 r1 => ⟨k, rep_bl.mp r1, ?_⟩⟩
 cases k with
 | true => exact ⟨A, st, d, rs.mono s1, h3, fun w H' s' r' => q w H' (s1.trans s') r'⟩
 | false => cases h3; exact q _ H1 s1 (rep_bl.mpr rfl)
theorem i_or {rest : List Expr} (ha : PE X a (tI X.K B f)) (hb : PE X (.BoolOp .Or (b :: rest) pos) (tI X.K B g)) : PE X (.BoolOp .Or (a :: b :: rest) pos) (tI X.K B (eOr f g)) := by
 refine pe_imp (pe_or ha hb) ?_
 rintro σ H Q ⟨A, st, d, rs, hd, q⟩
 obtain ⟨x, hx, h2⟩ := R.ok_of hd
 obtain ⟨k, rfl, h3⟩ := onB_of h2
 refine ⟨A, st, _, rs, hx, fun v H1 s1 r1 => ⟨k, rep_bl.mp r1, ?_⟩⟩
 cases k with
 | true => cases h3; exact q _ H1 s1 (rep_bl.mpr rfl)
 | false => exact ⟨A, st, d, rs.mono s1, h3, fun w H' s' r' => q w H' (s1.trans s') r'⟩
theorem i_not (ha : PE X a (tI X.K B f)) : PE X (.UnaryOp .Not a pos) (tI X.K B (eNot f)) := by
 refine pe_imp (pe_not ha) ?_
 rintro σ H Q ⟨A, st, d, rs, hd, q⟩
 obtain ⟨x, hx, h2⟩ := R.ok_of hd
 obtain ⟨k, rfl, h3⟩ := onB_of h2
 cases h3
 exact ⟨A, st, _, rs, hx, fun v H1 s1 r1 => ⟨k, rep_bl.mp r1, q _ H1 s1 (rep_bl.mpr rfl)⟩⟩
theorem t_and1 (h : PT X a (tT X.K B f)) : PW X (.BoolOp .And [a] pos) (tT X.K B f) := pw_and1 h
theorem t_or1 (h : PT X a (tT X.K B f)) : PW X (.BoolOp .Or [a] pos) (tT X.K B f) := pw_or1 h
theorem t_and {rest : List Expr} (ha : PT X a (tT X.K B f)) (hb : PW X (.BoolOp .And (b :: rest) pos) (tT X.K B g)) : PW X (.BoolOp .And (a :: b :: rest) pos) (tT X.K B (eAnd f g)) := by
 refine pw_imp (pw_and ha hb) ?_
 rintro σ H Q ⟨A, st, d, rs, hd, q⟩
 obtain ⟨x, hx, h2⟩ := R.ok_of hd
 obtain ⟨k, rfl, h3⟩ := onB_of h2
 refine ⟨A, st, k, rs, hx, fun H1 s1 => ?_⟩
 cases k with
 | true => exact ⟨A, st, d, rs.mono s1, h3, fun H' s' => q H' (s1.trans s')⟩
 | false => cases h3; exact q H1 s1
theorem t_or {rest : List Expr} (ha : PT X a (tT X.K B f)) (hb : PW X (.BoolOp .Or (b :: rest) pos) (tT X.K B g)) : PW X (.BoolOp .Or (a :: b :: rest) pos) (tT X.K B (eOr f g)) := by
 refine pw_imp (pw_or ha hb) ?_
 rintro σ H Q ⟨A, st, d, rs, hd, q⟩
 obtain ⟨x, hx, h2⟩ := R.ok_of hd
 obtain ⟨k, rfl, h3⟩ := onB_of h2
 refine ⟨A, st, k, rs, hx, fun H1 s1 => ?_⟩
 cases k with
 | true => cases h3; exact q H1 s1
 | false => exact ⟨A, st, d, rs.mono s1, h3, fun H' s' => q H' (s1.trans s')⟩
theorem t_not (ha : PT X a (tT X.K B f)) : PT X (.UnaryOp .Not a pos) (tT X.K B (eNot f)) := by
 refine pt_imp (pt_not ha) ?_
 rintro σ H Q ⟨A, st, d, rs, hd, q⟩
 obtain ⟨x, hx, h2⟩ := R.ok_of hd
 obtain ⟨k, rfl, h3⟩ := onB_of h2
 cases h3
 exact ⟨A, st, k, rs, hx, fun H1 s1 => q H1 s1⟩
theorem a_nil : PA X [] (tA X.K B aNil) := pa_imp pa_nil (by
 rintro σ H Q ⟨A, st, d, rs, hd, q⟩
 cases hd
 exact q [] H (Same.refl _) .nil)
theorem a_cons {es : List Expr} {r : Exs} (ha : PE X e (tI X.K B f)) (hr : PA X es (tA X.K B r)) (hs : starEach (e :: es) X.env = (false, eval e X.env) :: starEach es X.env := by rfl) : PA X (e :: es) (tA X.K B (aCons f r)) := by
 refine pa_imp (pa_cons ha hr hs) ?_
 rintro σ H Q ⟨A, st, ds, rs, hd, q⟩
 obtain ⟨x, hx, h2⟩ := R.ok_of hd
 obtain ⟨xs, hxs, h3⟩ := R.ok_of h2
 cases h3
 refine ⟨A, st, x, rs, hx, fun v H1 s1 r1 => ⟨A, st, xs, rs.mono s1, hxs, fun vs H2 s2 r2 => ?_⟩⟩
 exact q _ H2 (s1.trans s2) (.cons (r1.mono (Same.hide s2)) r2)
theorem i_tup {es : List Expr} {r : Exs} {x1 : Nat} (h : PA X es (tA X.K B r)) : PE X (.Tuple es x1 pos) (tI X.K B (eTup r)) := by
 refine pe_imp (pe_tup h) ?_
 rintro σ H Q ⟨A, st, d, rs, hd, q⟩
 obtain ⟨xs, hx, h2⟩ := R.ok_of hd
 obtain ⟨c, h3⟩ := guardR_of h2
 cases h3
 refine ⟨A, st, xs, rs, hx, fun vs H1 s1 r1 => ⟨by rw [r1.length]; exact lim c, fun p hp => q _ _ (s1.trans (same_upd hp)) ?_⟩⟩
 exact rep_new_tup (rs.own.mono s1) hp r1
theorem i_lst {es : List Expr} {r : Exs} (h : PA X es (tA X.K B r)) : PE X (.List es pos) (tI X.K B (eLst r)) := by
 refine pe_imp (pe_lst h) ?_
 rintro σ H Q ⟨A, st, d, rs, hd, q⟩
 obtain ⟨xs, hx, h2⟩ := R.ok_of hd
 obtain ⟨c, h3⟩ := guardR_of h2
 cases h3
 refine ⟨A, st, xs, rs, hx, fun vs H1 s1 r1 => ⟨by rw [r1.length]; exact lim c, fun p hp => q _ _ (s1.trans (same_upd hp)) ?_⟩⟩
 exact rep_new_lst (rs.own.mono s1) hp r1
def spI (K : PySem.W.Frag) (np : Nat) (p : List D -> R D) : Sp := fun vs H Q _ => ∃ A ds d, Own A H /\ Reps K (hide A H) ds vs /\ ds.length = np /\ p ds = .ok d /\ ∀ v H', Same H H' -> Rep K (hide A H') d v -> Q v H'
theorem i_call {k : Nat} {fa : Addr} {fd : FuncData} {ps : List Str} {x : Str} {p0 : Pos} {es : List Expr} {r : Exs} {np : Nat} {p : List D -> R D} (F : FnOk X.prog X.w X.K X.mg X.base CX0 k fa fd ps (spI X.K np p)) (hr : Room k X.A) (hm : X.mg x = some (.ref fa))
  (hk : PySem.W.keepIn X.K (.ref fa) = true) (hb : Binds X.K fd ps []) (hl : ∀ ds d, p ds = .ok d -> ds.length = np) (ha : PA X (e :: es) (tA X.K B r)) (hg : Gl X x := by rfl) (hdb : (x == ("__debug__" : Str)) = false := by decide)
  (he : starEach (e :: es) X.env = (false, eval e X.env) :: starEach es X.env := by rfl) (hpl : (backTo pos (starEach es X.env)).any (·.1) = false := by rfl) :
  PE X (.Call (.Name x p0) (e :: es) [] pos) (tI X.K B (eCall p r)) := by
 refine pe_imp (pe_call F hr hg hm hk hb .nil pass0 ha hdb he hpl) ?_
 rintro σ H Q ⟨A, st, d, rs, hd, q⟩
 obtain ⟨xs, hx, h2⟩ := R.ok_of hd
 refine ⟨A, st, xs, rs, hx, fun vs H1 s1 r1 => ?_⟩
 show spI X.K np p (vs ++ []) H1 Q E0
 rw [List.append_nil]
 exact ⟨A ++ B, xs, d, rs.own.mono s1, r1, hl _ _ h2, h2, fun w H' s' r' => q w H' (s1.trans s') r'⟩
end
end Pu
namespace Pu
open PySem PySem.Spec PyProof.Rows L2
theorem eqK_key (a b : Key) : eqK (keyD a) (keyD b) = decide (a = b) := by
 cases a with
 | inl i =>
  cases b with
  | inl j => unfold keyD eqK; rw [key_ll]
  | inr y => unfold keyD eqK; rw [key_lr]
 | inr x =>
  cases b with
  | inl j => unfold keyD eqK; rw [key_rl]
  | inr y =>
   unfold keyD eqK
   rw [key_rr, Bool.eq_iff_iff, beq_iff_eq, decide_eq_true_eq]
   constructor
   ·intro h
    cases x; cases y
    congr 1
    exact Array.ext' h
   ·rintro rfl; rfl
theorem eqKs_key : ∀ (a b : List Key), eqKs (a.map keyD) (b.map keyD) = decide (a = b)
 | [], [] => by unfold eqKs; simp
 | [], _ :: _ => by unfold eqKs; simp
 | _ :: _, [] => by unfold eqKs; simp
 | x :: a, y :: b => by
  have ih := eqKs_key a b
  rw [List.map_cons, List.map_cons]
  unfold eqKs
  rw [eqK_key, ih, Bool.eq_iff_iff, Bool.and_eq_true, decide_eq_true_eq, decide_eq_true_eq, decide_eq_true_eq, List.cons.injEq]
theorem eqK_keys (a b : List Key) : eqK (.tup (a.map keyD)) (.tup (b.map keyD)) = decide (a = b) := by
 rw [<- eqKs_key]
 conv => lhs; unfold eqK
section
variable {κ : Type} [DecidableEq κ] {E : κ -> D} (hE : ∀ a b, eqK (E a) (E b) = decide (a = b)) {K : PySem.W.Frag} {H : Hp}
include hE
theorem getK_of (k : κ) : ∀ (kvs : List (κ × V)) (ds : List D), Reps K H ds (kvs.map (·.2)) -> (∀ d, getK (kvs.map fun p => E p.1) ds (E k) = some d -> ∃ v, valV kvs k = some v /\ Rep K H d v) /\ (valV kvs k).isSome = hasK (kvs.map fun p => E p.1) (E k)
 | [], ds, r => ⟨fun d h => by cases ds <;> simp [getK] at h, rfl⟩
 | (a, v) :: kvs, ds, r => by
  cases ds with
  | nil => have := reps_nil.mp r; simp at this
  | cons d ds =>
   obtain ⟨v', r', e, h1, h2⟩ := reps_cons.mp r
   rw [List.map_cons] at e
   injection e with e1 e2
   subst e1 e2
   obtain ⟨i1, i2⟩ := getK_of k kvs ds h2
   by_cases ha : a = k
   ·have hk : eqK (E a) (E k) = true := by rw [hE, decide_eq_true_eq]; exact ha
    refine ⟨fun d' h => ?_, ?_⟩
    ·unfold getK at h
     rw [List.map_cons, List.zip_cons_cons, List.find?_cons_of_pos (by simpa using hk)] at h
     cases h
     exact ⟨v, valV_pos ha, h1⟩
    ·rw [valV_pos ha]
     unfold hasK
     rw [List.map_cons, List.any_cons, hk]
     rfl
   ·have hk : eqK (E a) (E k) = false := by rw [hE, decide_eq_false_iff_not]; exact ha
    refine ⟨fun d' h => ?_, ?_⟩
    ·rw [valV_neg ha]
     refine i1 d' ?_
     unfold getK at h ⊢
     rw [List.map_cons, List.zip_cons_cons, List.find?_cons_of_neg (by simpa using hk)] at h
     exact h
    ·rw [valV_neg ha, i2]
     unfold hasK
     rw [List.map_cons, List.any_cons, hk]
     rfl
theorem any_hasK (k : κ) (kvs : List (κ × V)) : (kvs.any fun kv => decide (kv.1 = k)) = hasK (kvs.map fun p => E p.1) (E k) := by
 unfold hasK
 rw [List.any_map]
 congr 1
 funext p
 simp [hE]
theorem putK_of (k : κ) (v : V) (d : D) (hd : Rep K H d v) (kvs : List (κ × V)) (ds : List D) (r : Reps K H ds (kvs.map (·.2))) :
  (putK kvs k v).map (fun p => E p.1) = putKs (kvs.map fun p => E p.1) (E k) /\ Reps K H (putVs (kvs.map fun p => E p.1) ds (E k) d) ((putK kvs k v).map (·.2)) := by
 unfold putK putKs putVs
 rw [any_hasK hE]
 by_cases hh : hasK (kvs.map fun p => E p.1) (E k) = true
 ·rw [if_pos hh, if_pos hh, if_pos hh]
  constructor
  ·rw [List.map_map]
   refine List.map_congr_left fun p _ => ?_
   simp only [Function.comp_apply]
   split <;> rfl
  ·clear hh
   induction kvs generalizing ds with
   | nil => have := r.length; cases ds with | nil => exact .nil | cons _ _ => simp at this
   | cons p kvs ih =>
    obtain ⟨a, w⟩ := p
    cases ds with
    | nil => have := reps_nil.mp r; simp at this
    | cons d0 ds =>
     obtain ⟨v', r', e, h1, h2⟩ := reps_cons.mp r
     rw [List.map_cons] at e
     injection e with e1 e2
     subst e1 e2
     rw [List.map_cons, List.map_cons, List.map_cons, List.zip_cons_cons, List.map_cons]
     refine .cons ?_ (ih ds h2)
     by_cases ha : a = k
     ·have hk : eqK (E a) (E k) = true := by rw [hE, decide_eq_true_eq]; exact ha
      rw [if_pos hk, if_pos ha]
      exact hd
     ·have hk : eqK (E a) (E k) = false := by rw [hE, decide_eq_false_iff_not]; exact ha
      rw [if_neg (by rw [hk]; exact Bool.false_ne_true), if_neg ha]
      exact h1
 ·rw [if_neg hh, if_neg hh, if_neg hh]
  refine ⟨by rw [List.map_append]; rfl, ?_⟩
  rw [List.map_append]
  exact r.append (.cons hd .nil)
end
theorem key_of_rep {K : PySem.W.Frag} {H : Hp} {d : D} {v : V} (r : Rep K H d v) (h : keyOk false d = true) : ∃ k : Key, d = keyD k /\ v = kV k := by
 cases d <;> first | (cases h; done) | skip
 ·exact ⟨.inl _, rfl, rep_int.mp r⟩
 ·exact ⟨.inr _, rfl, rep_str.mp r⟩
theorem keys_of_reps {K : PySem.W.Frag} {H : Hp} : ∀ {ds : List D} {vs : List V}, Reps K H ds vs -> ds.all keyS = true -> ∃ ks : List Key, ds = ks.map keyD /\ vs = ks.map kV
 | [], vs, r, _ => ⟨[], rfl, reps_nil.mp r⟩
 | d :: ds, vs, r, h => by
  obtain ⟨v, r', rfl, h1, h2⟩ := reps_cons.mp r
  rw [List.all_cons, Bool.and_eq_true] at h
  obtain ⟨ks, e1, e2⟩ := keys_of_reps h2 h.2
  obtain ⟨k, e3, e4⟩ := key_of_rep h1 (by cases d <;> first | (cases h.1; done) | rfl)
  exact ⟨k :: ks, by rw [e1, e3]; rfl, by rw [e2, e4]; rfl⟩
theorem tkey_of_rep {K : PySem.W.Frag} {H : Hp} {d : D} {v : V} (r : Rep K H d v) (h : keyOk true d = true) : ∃ (ks : List Key) (b : Addr), d = .tup (ks.map keyD) /\ v = .ref b /\ H b = some (.tup (ks.map kV)) := by
 cases d <;> first | (cases h; done) | skip
 rename_i xs
 obtain ⟨b, vs, e, hb, rs⟩ := rep_tupD.mp r
 have h' : xs.all keyS = true := by
  unfold keyOk at h
  simpa using h
 obtain ⟨ks, e1, e2⟩ := keys_of_reps rs h'
 exact ⟨ks, b, by rw [e1], e, by rw [<- e2]; exact hb⟩
theorem dget_of {K : PySem.W.Frag} {A : List Addr} {H : Hp} {t : Bool} {ks ds : List D} {k : D} {v u : V} (rx : RepP K A H (.dct t ks ds) v) (ry : Rep K H k u) (hk : keyOk t k = true) :
  ∃ a o, v = .ref a /\ DGet H a u o /\ o.isSome = hasK ks k /\ ∀ d, getK ks ds k = some d -> ∃ w, o = some w /\ Rep K (hide A H) d w := by
 have key : ∃ a vs, v = V.ref a /\ ((t = false /\ ∃ kvs : List (Key × V), H a = some (.dK kvs) /\ kvs.map (fun p => keyD p.1) = ks /\ vs = kvs.map (·.2)) \/ (t = true /\ ∃ kvs : List (List Key × V), H a = some (.dT kvs) /\ kvs.map (fun p => D.tup (p.1.map keyD)) = ks /\ vs = kvs.map (·.2))) /\ Reps K (hide A H) ds vs := by
  rcases rx with h | ⟨a, kk, o, ds', vs, e, e2, h, ko, r⟩
  ·obtain ⟨a, vs, e, q, r⟩ := rep_dct.mp h
   refine ⟨a, vs, e, ?_, r⟩
   rcases q with ⟨q0, kvs, q1, q2⟩ | ⟨q0, kvs, q1, q2⟩
   ·exact .inl ⟨q0, kvs, hide_sub _ _ _ _ q1, q2⟩
   ·exact .inr ⟨q0, kvs, hide_sub _ _ _ _ q1, q2⟩
  ·cases kk <;> cases e
   refine ⟨a, vs, e2, ?_, r⟩
   rcases ko with ⟨q0, kvs, q1, q2⟩ | ⟨q0, kvs, q1, q2⟩
   ·subst q1; exact .inl ⟨q0, kvs, h, q2⟩
   ·subst q1; exact .inr ⟨q0, kvs, h, q2⟩
 obtain ⟨a, vs, e, q, r⟩ := key
 rcases q with ⟨rfl, kvs, q1, rfl, rfl⟩ | ⟨rfl, kvs, q1, rfl, rfl⟩
 ·obtain ⟨k', e1, e2⟩ := key_of_rep ry hk
  subst e1 e2
  obtain ⟨i1, i2⟩ := getK_of eqK_key k' kvs ds r
  exact ⟨a, _, e, DGet.k q1, i2, fun d hd => let ⟨w, h1, h2⟩ := i1 d hd; ⟨w, h1, h2⟩⟩
 ·obtain ⟨k', b, e1, e2, e3⟩ := tkey_of_rep ry hk
  subst e1 e2
  obtain ⟨i1, i2⟩ := getK_of eqK_keys k' kvs ds r
  exact ⟨a, _, e, DGet.t q1 e3, i2, fun d hd => let ⟨w, h1, h2⟩ := i1 d hd; ⟨w, h1, h2⟩⟩
section
variable {X : Cx} {B : List Addr} {a b e : Expr} {f g : Ex} {pos : Pos}
def rIxD : R2 := fun x y H Q => ∃ p v, x = .ref p /\ DGet H p y (some v) /\ Q v H
theorem ix_dict (hu : X.A.units + 64 < cLine) : IxR X rIxD := by
 intro value slice pins s σ H x y v u Q I rx ry h hs
 obtain ⟨p, z, rfl, g, q⟩ := h
 cases rx
 have hT := dict_typeIs I g
 unfold subscriptTail
 refine wpAny_bind ?_
 rw [getitemInPython_of_ne hT.not_modules]
 refine wpAny_bind (wpAny_specialOf hT PySem.F.slot_dict_getitem.lookup ?_)
 have h2 : wpAny (model X.prog X.w) X.A (getItem (.ref p) u) (EP X pins σ Q) X.xe s := d_getItem (by omega) I g ry fun w' s3 I3 rw' => ⟨z, H, I3, rw', q⟩
 have fin : wpAny (model X.prog X.w) X.A (subscripted slice false (.ref p) u) (fun r s3 => wpAny (model X.prog X.w) X.A (letTemporaryGo value (.ref p) r >>= fun _ => pure r) (EP X pins σ Q) X.xe s3) X.xe s := by
  rw [hs]
  exact wpAny_operating (wpAny_mono h2 (fun r s3 h3 => wpAny_bind (wpAny_letTemporaryGo (wpAny_pure h3))) fun _ _ x => x)
 first
  | exact wpAny_pure (wpAny_bind fin)
  | exact wpAny_bind (wpAny_pure (wpAny_bind fin))
  | exact wpAny_bind fin
theorem sem_ixA {K : PySem.W.Frag} : Sem2 K (fun x y H Q => rIx K x y H Q \/ rIxD x y H Q) dIx := by
 intro A H x y d v u Q w rx ry e q
 by_cases hx : isDc x = true
 ·cases x <;> first | (cases hx; done) | skip
  rename_i t ks vs
  have e' : guardR (keyOk t y = true) (ofO (getK ks vs y)) = .ok d := by cases y <;> exact e
  obtain ⟨hk, e2⟩ := guardR_of e'
  have ryr : Rep K H y u := by
   rcases ry with h | ⟨a, kk, o, ds, vs', e1, _⟩
   ·exact h.mono (hide_sub _ _)
   ·subst e1; cases kk <;> cases t <;> cases hk
  obtain ⟨a, o, e3, g, _, g2⟩ := dget_of rx ryr hk
  obtain ⟨z, e4, rz⟩ := g2 d (ofO_of e2)
  subst e4
  exact .inr ⟨a, z, e3, g, q _ H (Same.refl _) rz⟩
 ·exact .inl (sem_ix (by simpa using hx) A H x y d v u Q w rx ry e q)
theorem i_ix (hu : X.A.units + 64 < cLine) (ha : PE X a (tP X.K B f)) (hb : PE X b (tP X.K B g)) (hs : PlainIx b := by intro _ _; rfl) : PE X (.Subscript a b pos) (tI X.K B (e2 dIx f g)) :=
 pe_imp (pe_ix (ix_seq.or (ix_dict hu)) ha hb hs) fun _ _ _ h => tOp_of sem_ixA h
theorem call_lenK : CallR X (.builtin "len") (fun xs H Q => ∃ a kvs, xs = [V.ref a] /\ H a = some (.dK kvs) /\ Q (.int kvs.length) H) := by
 intro pins s σ H xs us Q I r h
 obtain ⟨a, kvs, rfl, hk, q⟩ := h
 obtain ⟨u, rfl, ru⟩ := r.one
 obtain rfl : u = Value.ref a := ru
 exact d_len I (.inl hk) fun t s' I' => ⟨.int kvs.length, H, I', ⟨t, rfl⟩, q⟩
theorem dlen_of {K : PySem.W.Frag} {A : List Addr} {H : Hp} {ks ds : List D} {v : V} (rx : RepP K A H (.dct false ks ds) v) : ∃ a kvs, v = .ref a /\ H a = some (.dK kvs) /\ kvs.length = ks.length := by
 rcases rx with h | ⟨a, kk, o, ds', vs, e, e2, h, ko, r⟩
 ·obtain ⟨a, vs, e, q, r⟩ := rep_dct.mp h
  rcases q with ⟨_, kvs, q1, rfl, _⟩ | ⟨q0, _⟩
  ·exact ⟨a, kvs, e, hide_sub _ _ _ _ q1, by simp⟩
  ·cases q0
 ·cases kk <;> cases e
  rcases ko with ⟨_, kvs, rfl, rfl, _⟩ | ⟨q0, _⟩
  ·exact ⟨a, kvs, e2, h, by simp⟩
  ·cases q0
end
end Pu
namespace Pu
open PySem PySem.Spec PyProof.Rows L2
section
variable {K : PySem.W.Frag} {B A : List Addr} {H : Hp} {st : PSt} {σ : LSt}
theorem set_get_v {i j : Nat} {d : D} {k : OK} {xs : List D} (h : (st.set i (some (.v d)))[j]? = some (some (.o k xs))) : j ≠ i /\ st[j]? = some (some (.o k xs)) := by
 rw [List.getElem?_set] at h
 by_cases e : i = j
 ·subst e
  rw [if_pos rfl] at h
  split at h <;> simp at h
 ·rw [if_neg e] at h
  exact ⟨fun z => e z.symm, h⟩
theorem Le.app {A' : List Addr} {H' : Hp} (l : Le A H A' H') : Same (hide (A ++ B) H) (hide (A' ++ B) H') := fun b u q => by
 have q1 := hide_sub _ _ _ _ q
 have hb : b ∉ A ++ B := fun z => by rw [hide_in z] at q; cases q
 have q2 : hide A H b = some u := by rw [hide_out fun z => hb (List.mem_append_left _ z)]; exact q1
 have q3 := l b u q2
 have hb' : b ∉ A' := fun z => by rw [hide_in z] at q3; cases q3
 rw [hide_out fun z => (List.mem_append.mp z).elim hb' fun z => hb (List.mem_append_right _ z)]
 exact hide_sub _ _ _ _ q3
theorem RS.set (r : RS K B A H st σ) {d : D} {v : V} (i : Nat) (h : Rep K (hide (A ++ B) H) d v) : RS K B A H (st.set i (some (.v d))) (σ.set i (some v)) where
 len := by rw [List.length_set, List.length_set, r.len]
 own := r.own
 dis := r.dis
 val := fun j d' e => by
  rw [List.getElem?_set] at e
  by_cases hij : i = j
  ·subst hij
   rw [if_pos rfl] at e
   split at e
   ·rename_i hl
    simp at e
    subst e
    exact ⟨v, by rw [List.getElem?_set, if_pos rfl, if_pos (by rw [<- r.len]; exact hl)], h⟩
   ·cases e
  ·rw [if_neg hij] at e
   obtain ⟨u, e1, q⟩ := r.val j d' e
   exact ⟨u, by rw [List.getElem?_set, if_neg hij]; exact e1, q⟩
 lst := fun j kk xs e => by
  obtain ⟨hj, e'⟩ := set_get_v e
  obtain ⟨a, o, vs, e1, m, h1, ko, q, u⟩ := r.lst j kk xs e'
  refine ⟨a, o, vs, by rw [List.getElem?_set, if_neg fun z => hj z.symm]; exact e1, m, h1, ko, q, fun k k' ys ek ek2 => ?_⟩
  obtain ⟨hk, ek'⟩ := set_get_v ek
  rw [List.getElem?_set, if_neg fun z => hk z.symm] at ek2
  exact u k k' ys ek' ek2
theorem own_new {p : Addr} {o : HO} (w : Own (A ++ B) H) : Own ((p :: A) ++ B) (upd H p o) := fun a ha => by
 by_cases e : a = p
 ·subst e; rw [upd_same]; rfl
 ·rw [upd_ne e]
  exact w a ((List.mem_cons.mp ha).resolve_left e)
theorem same_new {p : Addr} {o : HO} (hp : H p = none) : Same (hide (A ++ B) H) (hide ((p :: A) ++ B) (upd H p o)) := fun b u q => by
 have q1 := hide_sub _ _ _ _ q
 have hb : b ∉ A ++ B := fun z => by rw [hide_in z] at q; cases q
 have ne : b ≠ p := ne_of_none q1 hp
 rw [hide_out (show b ∉ (p :: A) ++ B from fun z => (List.mem_cons.mp z).elim ne hb), upd_ne ne]
 exact q1
theorem le_new {p : Addr} {o : HO} (hp : H p = none) : Le A H (p :: A) (upd H p o) := fun b u q => by
 have q1 := hide_sub _ _ _ _ q
 have hb : b ∉ A := fun z => by rw [hide_in z] at q; cases q
 have ne : b ≠ p := ne_of_none q1 hp
 rw [hide_out fun z => (List.mem_cons.mp z).elim ne hb, upd_ne ne]
 exact q1
theorem RS.setO (r : RS K B A H st σ) {p : Addr} {kk : OK} {o : HO} {ds : List D} {vs : List V} (i : Nat) (hp : H p = none) (ko : KOk K kk p o vs) (h : Reps K (hide (A ++ B) H) ds vs) :
  RS K B (p :: A) (upd H p o) (st.set i (some (.o kk ds))) (σ.set i (some (.ref p))) where
 len := by rw [List.length_set, List.length_set, r.len]
 own := own_new r.own
 dis := fun a ha hb => by
  rcases List.mem_cons.mp ha with rfl | ha
  ·exact r.own.free hp (List.mem_append_right _ hb)
  ·exact r.dis a ha hb
 val := fun j d' e => by
  rw [List.getElem?_set] at e
  by_cases hij : i = j
  ·subst hij
   rw [if_pos rfl] at e
   split at e <;> simp at e
  ·rw [if_neg hij] at e
   obtain ⟨u, e1, q⟩ := r.val j d' e
   exact ⟨u, by rw [List.getElem?_set, if_neg hij]; exact e1, q.mono (same_new hp)⟩
 lst := fun j k0 xs e => by
  rw [List.getElem?_set] at e
  by_cases hij : i = j
  ·subst hij
   rw [if_pos rfl] at e
   split at e
   ·rename_i hl
    simp at e
    obtain ⟨e0, e⟩ := e
    subst e0 e
    refine ⟨p, o, vs, by rw [List.getElem?_set, if_pos rfl, if_pos (by rw [<- r.len]; exact hl)], List.mem_cons_self, upd_same, ko, h.mono (same_new hp), fun k k' ys ek ek2 => ?_⟩
    by_cases hk : i = k
    ·exact hk.symm
    ·rw [List.getElem?_set, if_neg hk] at ek ek2
     obtain ⟨a, o', vs', e1, m, h1, _⟩ := r.lst k k' ys ek
     rw [e1] at ek2
     cases ek2
     rw [hp] at h1; cases h1
   ·cases e
  ·rw [if_neg hij] at e
   obtain ⟨a, o', vs', e1, m, h1, ko', q, u⟩ := r.lst j k0 xs e
   have ne : a ≠ p := ne_of_none h1 hp
   refine ⟨a, o', vs', by rw [List.getElem?_set, if_neg hij]; exact e1, List.mem_cons_of_mem _ m, by rw [upd_ne ne]; exact h1, ko', q.mono (same_new hp), fun k k' ys ek ek2 => ?_⟩
   by_cases hk : i = k
   ·subst hk
    rw [List.getElem?_set, if_pos rfl] at ek2
    split at ek2
    ·simp at ek2; exact absurd ek2.symm ne
    ·cases ek2
   ·rw [List.getElem?_set, if_neg hk] at ek ek2
    exact u k k' ys ek ek2
theorem RS.write (r : RS K B A H st σ) {a : Addr} {i : Nat} {k0 k1 : OK} {o' : HO} {xs ds : List D} {vs' : List V} (hi : st[i]? = some (some (.o k0 xs))) (hs : σ[i]? = some (some (.ref a))) (ko : KOk K k1 a o' vs') (h : Reps K (hide (A ++ B) H) ds vs') :
  RS K B A (upd H a o') (st.set i (some (.o k1 ds))) σ /\ Le A H A (upd H a o') := by
 obtain ⟨a', o, vs, e1, m, h1, _, q, u⟩ := r.lst i k0 xs hi
 rw [hs] at e1
 cases e1
 have hh : hide (A ++ B) (upd H a o') = hide (A ++ B) H := hide_upd (List.mem_append_left _ m)
 refine ⟨⟨by rw [List.length_set, r.len], fun b hb => ?_, r.dis, fun j d e => ?_, fun j kj ys e => ?_⟩, ?_⟩
 ·by_cases e : b = a
  ·subst e; rw [upd_same]; rfl
  ·rw [upd_ne e]; exact r.own b hb
 ·rw [hh]
  rw [List.getElem?_set] at e
  by_cases hij : i = j
  ·subst hij
   rw [if_pos rfl] at e
   split at e <;> simp at e
  ·rw [if_neg hij] at e
   exact r.val j d e
 ·rw [hh]
  have ne : ∀ {k : Nat} {kz : OK} {zs : List D}, (st.set i (some (.o k1 ds)))[k]? = some (some (.o kz zs)) -> ∃ kw ws, st[k]? = some (some (.o kw ws)) := fun {k kz zs} ek => by
   rw [List.getElem?_set] at ek
   by_cases hk : i = k
   ·subst hk; exact ⟨_, _, hi⟩
   ·rw [if_neg hk] at ek; exact ⟨_, _, ek⟩
  rw [List.getElem?_set] at e
  by_cases hij : i = j
  ·subst hij
   rw [if_pos rfl] at e
   split at e
   ·simp at e
    obtain ⟨e0, e⟩ := e
    subst e0 e
    exact ⟨a, o', vs', hs, m, upd_same, ko, h, fun k kz zs ek ek2 => let ⟨kw, ws, ew⟩ := ne ek; u k kw ws ew ek2⟩
   ·cases e
  ·rw [if_neg hij] at e
   obtain ⟨c, oc, ws, c1, cm, ch, kc, cq, cu⟩ := r.lst j kj ys e
   have hca : c ≠ a := fun z => by subst z; exact hij (u j kj ys e c1).symm
   exact ⟨c, oc, ws, c1, cm, by rw [upd_ne hca]; exact ch, kc, cq, fun k kz zs ek ek2 => let ⟨kw, ws, ew⟩ := ne ek; cu k kw ws ew ek2⟩
 ·unfold Le
  rw [hide_upd m]
  exact Same.refl _
theorem RS.fz1 (r : RS K B A H st σ) (i : Nat) : ∃ A', RS K B A' H (Pu.fz1 st i) σ /\ Le A H A' H := by
 unfold Pu.fz1
 split
 ·rename_i kk xs e
  obtain ⟨a, o, vs, e1, m, h1, ko, q, u⟩ := r.lst i kk xs e
  have hsub : ∀ b ∈ A.filter (fun c => decide (c ≠ a)), b ∈ A := fun b hb => (List.mem_filter.mp hb).1
  have hsub2 : ∀ b ∈ A.filter (fun c => decide (c ≠ a)) ++ B, b ∈ A ++ B := fun b hb => (List.mem_append.mp hb).elim (fun z => List.mem_append_left _ (hsub b z)) (List.mem_append_right _)
  have sm : Same (hide (A ++ B) H) (hide (A.filter (fun c => decide (c ≠ a)) ++ B) H) := hide_more hsub2
  have hout : a ∉ A.filter (fun c => decide (c ≠ a)) ++ B := fun z => (List.mem_append.mp z).elim (fun z => of_decide_eq_true (List.mem_filter.mp z).2 rfl) (r.dis a m)
  refine ⟨A.filter fun c => decide (c ≠ a), ⟨by rw [List.length_set, r.len], fun b hb => r.own b (hsub2 b hb), fun b hb => r.dis b (hsub b hb), fun j d ej => ?_, fun j kj ys ej => ?_⟩, hide_more hsub⟩
  ·rw [List.getElem?_set] at ej
   by_cases hij : i = j
   ·subst hij
    rw [if_pos rfl] at ej
    split at ej
    ·simp at ej
     subst ej
     exact ⟨_, e1, ko.rep (by rw [hide_out hout]; exact h1) (q.mono sm)⟩
    ·cases ej
   ·rw [if_neg hij] at ej
    obtain ⟨v, e2, q2⟩ := r.val j d ej
    exact ⟨v, e2, q2.mono sm⟩
  ·obtain ⟨hj, ej'⟩ := set_get_v ej
   obtain ⟨c, oc, ws, c1, cm, ch, kc, cq, cu⟩ := r.lst j kj ys ej'
   have hca : c ≠ a := fun z => by subst z; exact hj (u j kj ys ej' c1)
   exact ⟨c, oc, ws, c1, List.mem_filter.mpr ⟨cm, decide_eq_true hca⟩, ch, kc, cq.mono sm, fun k kz zs ek ek2 => cu k kz zs (set_get_v ek).2 ek2⟩
 ·exact ⟨A, r, Le.refl⟩
theorem RS.fz (is : List Nat) : ∀ {A : List Addr} {st : PSt}, RS K B A H st σ -> ∃ A', RS K B A' H (is.foldl Pu.fz1 st) σ /\ Le A H A' H := by
 induction is with
 | nil => exact fun r => ⟨_, r, Le.refl⟩
 | cons i is ih =>
  intro A st r
  obtain ⟨A1, r1, l1⟩ := r.fz1 i
  obtain ⟨A2, r2, l2⟩ := ih r1
  exact ⟨A2, r2, l1.trans l2⟩
end
section
variable {X : Cx} {B : List Addr} {a b e : Expr} {f g : Ex} {pos : Pos} {bd bd' : Bd} {sm : Stmt} {rest : List Stmt}
theorem s_nil : PSs X [] (tS X.K B sNext) := pss_imp pss_nil (by
 rintro Dn σ H ⟨A, st, r, rs, hr, p⟩
 cases hr
 exact p A σ H Le.refl rs)
theorem s_cons (h1 : PS X sm (tS X.K B bd)) (h2 : PSs X rest (tS X.K B bd')) : PSs X (sm :: rest) (tS X.K B (sSeq bd bd')) := by
 refine pss_imp (pss_cons h1 h2) ?_
 rintro Dn σ H ⟨A, st, r, rs, hr, p⟩
 obtain ⟨x, hx, h3⟩ := R.ok_of hr
 refine ⟨A, st, x, rs, hx, ?_⟩
 cases x with
 | nx s1 => exact fun A' σ' H' l rs' => ⟨A', s1, r, rs', h3, p.mono l⟩
 | rt d => cases h3; exact p
 | bk s1 => cases h3; exact p
 | ct s1 => cases h3; exact p
theorem s_one (h1 : PS X sm (tS X.K B bd)) : PSs X [sm] (tS X.K B bd) := pss_one h1
theorem s_fz (is : List Nat) (h : PS X sm (tS X.K B bd)) : PS X sm (tS X.K B (sFz is bd)) := ps_imp h (by
 rintro Dn σ H ⟨A, st, r, rs, hr, p⟩
 obtain ⟨A', rs', l⟩ := RS.fz is rs
 exact ⟨A', _, r, rs', hr, p.mono l⟩)
theorem s_ret (h : PE X e (tI X.K B f)) : PS X (.Return (some e) pos) (tS X.K B (sRet f)) := ps_imp (ps_ret h) (by
 rintro Dn σ H ⟨A, st, r, rs, hr, p⟩
 obtain ⟨d, hd, h3⟩ := R.ok_of hr
 cases h3
 exact ⟨A, st, d, rs, hd, fun v H' s q => p A v H' (Le.of s) q⟩)
theorem s_set (i : Nat) {x : Str} {pos' : Pos} (he : PE X e (tI X.K B f)) (hN : X.N.Nodup) (hi : X.N[i]? = some x := by rfl) (hx : Loc X.env.scope x := by first | exact Or.inl rfl | exact Or.inr rfl) (hs : swapsWith e (some (.Name x pos')) pos.line X.env = pure false := by rfl)
  (hf : X.fn x = true \/ X.env.scope.names.lookup x = some .local := by first | exact .inl rfl | exact .inr rfl | assumption) : PS X (.Assign [.Name x pos'] e pos) (tS X.K B (sSet i f)) := ps_imp (ps_set hN hi hx he hs hf) (by
 rintro Dn σ H ⟨A, st, r, rs, hr, p⟩
 obtain ⟨d, hd, h3⟩ := R.ok_of hr
 cases h3
 exact ⟨A, st, d, rs, hd, fun v H' s q => p A _ H' (Le.of s) ((rs.mono s).set i q)⟩)
def tF (K : PySem.W.Frag) (B : List Addr) (f : Ex) : TE := fun σ H Q => ∃ A st ds, RS K B A H st σ /\ f st = .ok (.lst ds) /\ ∀ p vs H', Same H H' -> H' p = none -> Reps K (hide (A ++ B) H') ds vs -> Q (.ref p) (upd H' p (.lst vs))
theorem f_lst {es : List Expr} {r : Exs} (h : PA X es (tA X.K B r)) : PE X (.List es pos) (tF X.K B (eLst r)) := by
 refine pe_imp (pe_lst h) ?_
 rintro σ H Q ⟨A, st, d, rs, hd, q⟩
 obtain ⟨xs, hx, h2⟩ := R.ok_of hd
 obtain ⟨c, h3⟩ := guardR_of h2
 cases h3
 exact ⟨A, st, _, rs, hx, fun vs H1 s1 r1 => ⟨by rw [r1.length]; exact lim c, fun p hp => q p vs H1 s1 hp r1⟩⟩
theorem s_setO (i : Nat) {x : Str} {pos' : Pos} (he : PE X e (tF X.K B f)) (hN : X.N.Nodup) (hi : X.N[i]? = some x := by rfl) (hx : Loc X.env.scope x := by first | exact Or.inl rfl | exact Or.inr rfl) (hs : swapsWith e (some (.Name x pos')) pos.line X.env = pure false := by rfl)
  (hf : X.fn x = true \/ X.env.scope.names.lookup x = some .local := by first | exact .inl rfl | exact .inr rfl | assumption) : PS X (.Assign [.Name x pos'] e pos) (tS X.K B (sSetO i f)) := ps_imp (ps_set hN hi hx he hs hf) (by
 rintro Dn σ H ⟨A, st, r, rs, hr, p⟩
 obtain ⟨d, hd, h3⟩ := R.ok_of hr
 cases d <;> first | (cases h3; done) | skip
 cases h3
 exact ⟨A, st, _, rs, hd, fun a vs H' s hn q => p (a :: A) _ _ ((Le.of s).trans (le_new hn)) ((rs.mono s).setO (kk := .l) i hn rfl q)⟩)
theorem s_if {c : Expr} {t : Ex} {x y : List Stmt} (hc : PT X c (tT X.K B t)) (ha : PSs X x (tS X.K B bd)) (hb : PSs X y (tS X.K B bd')) : PS X (.If c x y pos) (tS X.K B (sIf t bd bd')) := ps_imp (ps_if hc ha hb) (by
 rintro Dn σ H ⟨A, st, r, rs, hr, p⟩
 obtain ⟨d, hd, h3⟩ := R.ok_of hr
 obtain ⟨k, rfl, h4⟩ := onB_of h3
 refine ⟨A, st, k, rs, hd, fun H1 s1 => ?_⟩
 cases k with
 | true => exact ⟨A, st, r, rs.mono s1, h4, p.mono (Le.of s1)⟩
 | false => exact ⟨A, st, r, rs.mono s1, h4, p.mono (Le.of s1)⟩)
theorem g_name (i : Nat) {x : Str} (hN : X.N.Nodup) (hi : X.N[i]? = some x := by rfl) (hx : Loc X.env.scope x := by first | exact Or.inl rfl | exact Or.inr rfl)
  (hf : X.fn x = true \/ X.env.scope.names.lookup x = some .local := by first | exact .inl rfl | exact .inr rfl | assumption) : PG X (.Name x pos) (tG X.K B (tgN i)) := pg_imp (pg_name hN hi hx hf) (by
 rintro v σ H Q ⟨A, st, d, s1, rs, hr, hg, q⟩
 cases hg
 exact q _ (rs.set i hr))
def tGs (K : PySem.W.Frag) (B : List Addr) (is : List Nat) : TGs := fun vs σ H Q => ∃ A st ds s1, RS K B A H st σ /\ Reps K (hide (A ++ B) H) ds vs /\ setAll is ds st = .ok s1 /\ ∀ σ', RS K B A H s1 σ' -> Q σ' H
theorem pgs_imp {es : List Expr} {t t' : TGs} (h : PGs X es t) (m : ∀ v σ H Q, t' v σ H Q -> t v σ H Q) : PGs X es t' := fun pins s σ H v u Q I r q => h pins s σ H v u Q I r (m v σ H Q q)
theorem gs_nil : PGs X [] (tGs X.K B []) := pgs_imp pgs_nil (by
 rintro v σ H Q ⟨A, st, ds, s1, rs, hr, hg, q⟩
 cases ds with
 | nil => cases hg; exact ⟨reps_nil.mp hr, q σ rs⟩
 | cons _ _ => exact nomatch hg)
theorem gs_cons (i : Nat) {is : List Nat} {x : Str} {es : List Expr} (h2 : PGs X es (tGs X.K B is)) (hN : X.N.Nodup) (hi : X.N[i]? = some x := by rfl) (hx : Loc X.env.scope x := by first | exact Or.inl rfl | exact Or.inr rfl)
  (hf : X.fn x = true \/ X.env.scope.names.lookup x = some .local := by first | exact .inl rfl | exact .inr rfl | assumption)
  (hs : (assignEach (.Name x pos :: es) X.env).map (·.2) = assign (.Name x pos) X.env :: (assignEach es X.env).map (·.2) := by rfl) : PGs X (.Name x pos :: es) (tGs X.K B (i :: is)) := pgs_imp (pgs_cons (g_name i (pos := pos) hN hi hx hf) h2 hs) (by
 rintro v σ H Q ⟨A, st, ds, s1, rs, hr, hg, q⟩
 cases ds with
 | nil => exact nomatch hg
 | cons d ds =>
  obtain ⟨u, r, e, r1, r2⟩ := reps_cons.mp hr
  exact ⟨u, r, e, A, st, d, st.set i (some (.v d)), rs, r1, rfl, fun σ' rs' => ⟨A, _, ds, s1, rs', r2, hg, q⟩⟩)
theorem isList_but {h h' : Heap} {l it : Addr} {items : Array Value} (hl : h.IsList l items) (s : Heap.SameBut it h h') (hne : l ≠ it) : h'.IsList l items := by
 obtain ⟨o, e, r⟩ := hl
 exact ⟨o, (s.2 l hne).trans e, r⟩
theorem draw_list {M : Program} {w : World} {A : Around} {E : Value -> Shared -> Prop} {it t : Addr} {items : Array Value} (hne : t ≠ it) : ∀ (n i : Nat) (s : Shared) (Q : List Value -> Shared -> Prop), s.heap.IsListIter it t i -> s.heap.IsList t items -> i + n <= items.size ->
  (∀ h', h'.IsListIter it t (i + n) -> Heap.SameBut it s.heap h' -> Q ((items.toList.drop i).take n) { s with heap := h' }) -> wpAny (model M w) A (draw (.ref it) n) Q E s
 | 0, i, s, Q, hit, _, _, hQ => by
  show wpAny _ _ (pure []) Q E s
  exact wpAny_pure (by simpa using hQ s.heap hit (Heap.SameBut.refl ..))
 | n + 1, i, s, Q, hit, ht, hle, hQ => by
  have hlt : i < items.size := by omega
  show wpAny _ _ (pyNext (.ref it) >>= _) Q E s
  refine wpAny_bind (wpAny_pyNext_list_item hit ht (x := items[i]) (by simp [hlt]) fun h1 hit1 hs1 => ?_)
  refine wpAny_bind (wpAny_holding (draw_list hne n (i + 1) _ _ hit1 (isList_but ht hs1 hne) (by omega) fun h2 hit2 hs2 => wpAny_pure ?_))
  have hd : items.toList.drop i = items[i] :: items.toList.drop (i + 1) := by simp [List.drop_eq_getElem_cons, hlt]
  have := hQ h2 (by rw [show i + (n + 1) = i + 1 + n by omega]; exact hit2) (hs1.trans hs2)
  rw [hd, List.take_succ_cons] at this
  exact this
theorem assign_Tuple_list {M : Program} {w : World} {A : Around} {E : Value -> Shared -> Prop} {s : Shared} {env : Env} {elts : List Expr} {x1 : Nat} {pos : Pos} {t : Addr} {items : Array Value} {Q : Unit -> Shared -> Prop} (hh : A.handled = none) (ht : s.heap.IsList t items)
  (hn : (assignEach elts env).length = items.size) (hstar : (assignEach elts env).findIdx? (·.1) = none)
  (h : ∀ h', Heap.ExtBut s.heap.objs.size s.heap h' -> wpAny (model M w) A (assignInOrder ((assignEach elts env).map (·.2)) items.toList) Q E { s with heap := h' }) :
  wpAny (model M w) A (assign (.Tuple elts x1 pos) env (.ref t)) Q E s := by
 have hlt : t ≠ s.heap.objs.size := by obtain ⟨o, ho, _⟩ := ht; exact Nat.ne_of_lt (Heap.lt_size ho)
 rw [assign_Tuple]
 refine wpAny_bind (wpAny_standAt ?_)
 unfold unpack
 rw [hn, hstar]
 refine wpAny_bind (wpAny_holding ?_)
 unfold unpackItems
 refine wpAny_bind ?_
 unfold notIterableAtAll
 refine wpAny_bind (wpAny_specialOf ht.typeIs PySem.F.slot_list_iter.lookup ?_)
 refine wpAny_pure ?_
 simp only [Bool.false_eq_true, if_false]
 refine wpAny_bind (wpAny_holding (wpAny_pyIter_list ht ?_))
 have ht0 : (s.heap.push { cls := .type "list_iterator", data := .fields #[.ref t, rawInt 0] }).IsList t items := by
  obtain ⟨o, ho, r⟩ := ht
  exact ⟨o, Heap.get?_push_of_some _ ho, r⟩
 refine wpAny_bind (wpAny_holding (draw_list hlt items.size 0 _ _ ⟨_, Heap.get?_push_size _ rfl, rfl, rfl⟩ ht0 (by omega) fun h1 hit1 hs1 => ?_))
 have hall : List.take items.size (List.drop 0 items.toList) = items.toList := by
  rw [List.drop_zero]; exact List.take_of_length_le (by simp)
 rw [hall]
 rw [if_neg (by simp)]
 refine wpAny_bind (wpAny_holding (wpAny_pyNext_list_end hh hit1 (isList_but ht0 hs1 hlt) (by simp) fun h2 he2 => ?_))
 simp only [Option.isSome_none, Bool.false_eq_true, if_false]
 refine wpAny_pure (h h2 fun b o hb e => he2 b o hb (hs1.extBut b o hb (Heap.get?_push_of_some _ e)))
def gSeq (K : PySem.W.Frag) (n : Nat) (t : TGs) : TG := fun v σ H Q => ∃ a xs, v = .ref a /\ (SqT K H a xs \/ SqL K H a xs) /\ xs.length = n /\ t xs σ H Q
theorem pg_seq {es : List Expr} {k : Nat} {t : TGs} {n : Nat} (hc : X.calm = true) (h : PGs X es t)
  (hn : (assignEach es X.env).length = n := by rfl) (hst : (assignEach es X.env).findIdx? (·.1) = none := by rfl) : PG X (.Tuple es k pos) (gSeq X.K n t) := by
 intro pins s σ H v u Q I r hw
 obtain ⟨a, xs, e1, hq, hl, hw⟩ := hw
 rcases hq with hq | hq
 ·exact pg_tup hc h hn hst pins s σ H v u Q I r ⟨a, xs, e1, hq, hl, hw⟩
 ·subst e1
  cases r
  obtain ⟨its, rv, ht, hz⟩ := I.list hq
  refine assign_Tuple_list (I.ok.hd hc) ht.isList (by simp [hn, <- hl, rv.length]) hst fun h' hx => ?_
  have I1 : Inv X pins σ H { s with heap := h' } := I.kept (t' := s.toks) fun b o e => hx b o (Nat.ne_of_lt (Heap.lt_size e)) e
  exact h pins _ σ H xs _ Q I1 (by simpa using rv) hw
theorem setAll_len {s1 : PSt} : ∀ (is : List Nat) (ds : List D) (st : PSt), setAll is ds st = .ok s1 -> ds.length = is.length := by
 intro is
 induction is with
 | nil => intro ds st h; cases ds with | nil => rfl | cons _ _ => exact nomatch h
 | cons i is ih => intro ds st h; cases ds with | nil => exact nomatch h | cons _ ds => exact congrArg (· + 1) (ih ds _ h)
theorem g_tup {is : List Nat} {es : List Expr} {k : Nat} (hc : X.calm = true) (h : PGs X es (tGs X.K B is)) (hn : (assignEach es X.env).length = is.length := by rfl) (hst : (assignEach es X.env).findIdx? (·.1) = none := by rfl) : PG X (.Tuple es k pos) (tG X.K B (tgT is)) := pg_imp (pg_seq hc h hn hst) (by
 rintro v σ H Q ⟨A, st, d, s1, rs, hr, hg, q⟩
 cases d <;> first | (cases hg; done) | skip
 ·rename_i ds
  obtain ⟨a, vs, e, h1, h2⟩ := rep_tup_mp hr
  exact ⟨a, vs, e, .inl (sqT_mono (hide_sub _ _) h1), by rw [h2.length]; exact setAll_len is ds st hg, A, st, ds, s1, rs, h2, hg, q⟩
 ·rename_i ds
  obtain ⟨a, vs, e, h1, h2⟩ := rep_lst.mp hr
  exact ⟨a, vs, e, .inr ((hide_sub _ _).seq h1), by rw [h2.length]; exact setAll_len is ds st hg, A, st, ds, s1, rs, h2, hg, q⟩)
theorem s_tgt {tg : Expr} {t : Tg} (he : PE X e (tI X.K B f)) (hg : PG X tg (tG X.K B t)) (hs : swapsWithSole [tg] e pos.line X.env = pure false := by rfl) (hw : swappedStores [tg] e X.env = pure none := by rfl)
  (h1 : (assignEach [tg] X.env).map (·.2) = [assign tg X.env] := by rfl) : PS X (.Assign [tg] e pos) (tS X.K B (sTgt t f)) := ps_imp (ps_asg he hg hs hw h1) (by
 rintro Dn σ H ⟨A, st, r, rs, hr, p⟩
 obtain ⟨d, hd, h3⟩ := R.ok_of hr
 obtain ⟨s1, hs1, h4⟩ := R.ok_of h3
 cases h4
 exact ⟨A, st, d, rs, hd, fun v H' s q => ⟨A, st, d, s1, rs.mono s, q, hs1, fun σ' rs' => p A σ' H' (Le.of s) rs'⟩⟩)
theorem s_for {tg iter : Expr} {body : List Stmt} {t : Tg} {it : ItE} (hi : L2.PI X tg iter (tIt X.K B it)) (hg : PG X tg (tG X.K B t)) (hb : PSs X body (tS X.K B bd)) (hp : PassesOwn (model X.prog X.w) X.A X.env X.xe) (hc : X.calm = true)
  (hs : ∀ x, foldedSetIterable iter X.env x = pure x := by intro _; rfl) : PS X (.For tg iter body [] pos) (tS X.K B (sFor t it bd)) := ps_imp (ps_for hp hc hi hg hb hs) (by
 rintro Dn σ H ⟨A, st, r, rs, hr, p⟩
 obtain ⟨ds, hd, h3⟩ := R.ok_of hr
 refine ⟨A, st, ds, rs, hd, fun J H1 s1 ito => ?_⟩
 refine ⟨fun i m σ' H' => ∃ A' st', m = ds.length - i /\ i <= ds.length /\ RS X.K B A' H' st' σ' /\ forR t bd (ds.drop i) st' = .ok r /\ Le A H1 A' H', ⟨ds.length, A, st, by simp, Nat.zero_le _, rs.mono s1, by rw [List.drop_zero]; exact h3, Le.refl⟩, ?_⟩
 rintro i m σ' H' ⟨A', st', rfl, hle, rs', hf, l⟩
 obtain ⟨i1, i2⟩ := ito A' H' l rs'.own i
 by_cases hlt : i < ds.length
 ·have hd' : ds[i]? = some ds[i] := List.getElem?_eq_getElem hlt
  obtain ⟨go, yl⟩ := i1 _ hd'
  rw [List.drop_eq_getElem_cons hlt] at hf
  obtain ⟨s2, hs2, h5⟩ := R.ok_of hf
  obtain ⟨fl, hfl, h6⟩ := R.ok_of h5
  refine .inr ⟨go, fun σ2 H2 => ∃ A2 st2, i + 1 <= ds.length /\ RS X.K B A2 H2 st2 σ2 /\ forR t bd (ds.drop (i + 1)) st2 = .ok r /\ Le A H1 A2 H2, ?_, fun x H2 y => ?_⟩
  ·rintro σ2 H2 ⟨A2, st2, hle2, rs2, hf2, l2⟩
   exact ⟨ds.length - (i + 1), by omega, A2, st2, rfl, hle2, rs2, hf2, l2⟩
  ·obtain ⟨sm, rx⟩ := yl x H2 y
   have l5 : Le A H1 A' H2 := l.trans (Le.of sm)
   refine ⟨A', st', ds[i], s2, rs'.mono sm, rx, hs2, fun σ3 rs3 => ⟨A', s2, fl, rs3, hfl, ?_⟩⟩
   cases fl with
   | nx s4 => exact fun A4 σ4 H4 l4 rs4 => ⟨A4, s4, hlt, rs4, h6, l5.trans l4⟩
   | ct s4 => exact fun A4 σ4 H4 l4 rs4 => ⟨A4, s4, hlt, rs4, h6, l5.trans l4⟩
   | bk s4 => cases h6; exact p.mono ((Le.of s1).trans l5)
   | rt d => cases h6; exact p.mono ((Le.of s1).trans l5)
 ·have e : i = ds.length := by omega
  subst e
  rw [List.drop_length] at hf
  cases hf
  exact .inl ⟨i2 (Nat.le_refl _), p A' σ' H' ((Le.of s1).trans l) rs'⟩)
theorem itl_of {K : PySem.W.Frag} {A : List Addr} {H : Hp} {ds : List D} {vs : List V} {l : Addr} (hq : SqL K (hide (A ++ B) H) l vs) (r : Reps K (hide (A ++ B) H) ds vs) : ItOf K B A H (Itl K l) ds := by
 intro A' H' le own i
 have hq' : SqL K H' l vs := (hide_sub _ _).seq ((Le.app le).seq hq)
 refine ⟨fun d hd => ?_, fun hl => ⟨vs, hq', by rw [r.length]; exact hl⟩⟩
 obtain ⟨v, hv, rv⟩ := r.get hd
 refine ⟨⟨vs, v, hq', hv⟩, fun x H3 y => ⟨by rw [y.1]; exact Same.refl _, ?_⟩⟩
 have hx := y.2 vs hq'
 rw [y.1]
 rw [hv] at hx
 cases hx
 exact rv.mono (Le.app le)
theorem itt_of {K : PySem.W.Frag} {A : List Addr} {H : Hp} {ds : List D} {vs : List V} {l : Addr} (hq : SqT K (hide (A ++ B) H) l vs) (r : Reps K (hide (A ++ B) H) ds vs) : ItOf K B A H (Itt K l) ds := by
 intro A' H' le own i
 have hq' : SqT K H' l vs := sqT_mono (hide_sub _ _) (sqT_mono (Le.app le) hq)
 refine ⟨fun d hd => ?_, fun hl => ⟨vs, hq', by rw [r.length]; exact hl⟩⟩
 obtain ⟨v, hv, rv⟩ := r.get hd
 refine ⟨⟨vs, v, hq', hv⟩, fun x H3 y => ⟨by rw [y.1]; exact Same.refl _, ?_⟩⟩
 have hx := y.2 vs hq'
 rw [y.1]
 rw [hv] at hx
 cases hx
 exact rv.mono (Le.app le)
theorem itr_of {K : PySem.W.Frag} {A : List Addr} {H : Hp} {lo : Int} {n : Nat} : ItOf K B A H (Itr lo n) (rangeD lo n) := by
 intro A' H' le own i
 have hl : (rangeD lo n).length = n := by simp [rangeD]
 refine ⟨fun d hd => ?_, fun h => by rw [hl] at h; exact h⟩
 have hi : i < n := by
  have := (List.getElem?_eq_some_iff.mp hd).1
  rw [hl] at this; exact this
 have e : d = .int (lo + (i : Int)) := by
  unfold rangeD at hd
  rw [List.getElem?_map, List.getElem?_range hi] at hd
  exact (Option.some.inj hd).symm
 subst e
 exact ⟨hi, fun x H3 y => ⟨by rw [y.1]; exact Same.refl _, rep_int.mpr y.2⟩⟩
def Its (z : List Nat) : It := ⟨fun i _ => i < z.length, fun i H x H' => H' = H /\ ∃ c, z[i]? = some c /\ x = .str ⟨#[c]⟩, fun i _ => z.length <= i⟩
theorem turn_str {P : Program} {w : World} {K : PySem.W.Frag} {tg : Expr} {z : List Nat} {it : Addr} {n : String} {t : Tok} (hn : n = "str_ascii_iterator" \/ n = "str_iterator") : Turn P w K tg (Its z) [it] it (fun i h => h.IsStrIter it n ⟨z.toArray⟩ t i) where
 mem := by simp
 obj := fun i h st b hb => by
  have e : b = it := by simpa using hb
  subst e
  obtain ⟨o, e, c, d⟩ := st
  exact ⟨o, e, fun v z => by rw [d] at z; cases z⟩
 keep := fun i h h' st k => let ⟨o, e, r⟩ := st; ⟨o, k it (by simp) o e, r⟩
 item := by
  intro X hP hw hK hc i pins s σ H E I hf st hg
  subst hP hw hK
  obtain ⟨f0, f1, f2, f3, f4, f5⟩ := hf it (by simp)
  have fin : ∀ v h' tk, SignAt ⟨z.toArray⟩ i v -> Heap.IsStrIter h' it n ⟨z.toArray⟩ t (i + 1) -> (∀ b o, b ∉ [it] -> s.heap.get? b = some o -> h'.get? b = some o) ->
    ∃ u, some v = some u /\ wpAny (model X.prog X.w) X.A (letOwnedTupleGo tg (.ref it) u) (fun _ s2 => ∃ x H', Inv X pins σ H' s2 /\ RelV x u /\ (Its z).yld i H x H' /\ Heap.IsStrIter s2.heap it n ⟨z.toArray⟩ t (i + 1) /\ ∀ b ∈ [it], H' b = none) E { s with heap := h', toks := tk } := by
   intro v h' tk hv st' kk
   obtain ⟨c, u, hcu, rfl⟩ := hv
   have I1 : Inv X pins σ H { s with heap := h', toks := tk } := I.turned (fun b o hb e => kk b o (by simpa using hb) e) f0 f1 f3 f4 f5
   obtain ⟨o, e, c', d⟩ := id st'
   refine ⟨_, rfl, go_of (s := { s with heap := h', toks := tk }) e c' d (by rcases hn with rfl | rfl <;> decide) ⟨.str ⟨#[c]⟩, H, I1, ⟨u, rfl⟩, ⟨rfl, c, ?_, rfl⟩, st', fun b hb => (hf b hb).1⟩⟩
   simpa using hcu
  have hg2 : i < z.length := hg
  have hg' : i < (⟨z.toArray⟩ : Str).cps.size := by simpa using hg2
  rcases hn with rfl | rfl
  ·exact (Walks.strAscii (prog := X.prog) (w := X.w) (I.ok.hd hc) it ⟨z.toArray⟩ t).item i s _ _ hg' st fun v h' tk hv st' kk => fin v h' tk hv st' kk
  ·exact (Walks.strWide (prog := X.prog) (w := X.w) (I.ok.hd hc) it ⟨z.toArray⟩ t).item i s _ _ hg' st fun v h' tk hv st' kk => fin v h' tk hv st' kk
 done := by
  intro X hP hw hK hc i pins s σ H E I hf st hg
  subst hP hw hK
  obtain ⟨f0, f1, f2, f3, f4, f5⟩ := hf it (by simp)
  have hg2 : z.length <= i := hg
  rcases hn with rfl | rfl
  ·exact wpAny_pyNext_ascii_end (I.ok.hd hc) st (by simpa using hg2) fun h' eb => ⟨rfl, I.turned (t' := s.toks) (fun b o hb e => eb b o hb e) f0 f1 f3 f4 f5⟩
  ·exact wpAny_pyNext_wide_end (I.ok.hd hc) st (by simpa using hg2) fun h' eb => ⟨rfl, I.turned (t' := s.toks) (fun b o hb e => eb b o hb e) f0 f1 f3 f4 f5⟩
 self := fun _ _ _ _ _ st h => by
  rcases hn with rfl | rfl
  ·exact wpAny_pyIter_striter_ascii st h
  ·exact wpAny_pyIter_striter_wide st h
theorem its_of {K : PySem.W.Frag} {A : List Addr} {H : Hp} {z : List Nat} : ItOf K B A H (Its z) (z.map fun c => .str [c]) := by
 intro A' H' le own i
 refine ⟨fun d hd => ?_, fun h => (by simpa using h : z.length <= i)⟩
 rw [List.getElem?_map] at hd
 cases hz : z[i]? with
 | none => rw [hz] at hd; cases hd
 | some c =>
  rw [hz] at hd
  cases hd
  refine ⟨(List.getElem?_eq_some_iff.mp hz).1, fun x H3 y => ⟨by rw [y.1]; exact Same.refl _, ?_⟩⟩
  obtain ⟨c', hc', rfl⟩ := y.2
  rw [hz] at hc'
  cases hc'
  exact rep_str.mpr rfl
def iSeq (K : PySem.W.Frag) (tl : TE) : TI := fun σ H R => tl σ H fun x H1 => (∃ a, x = .ref a /\ (((∃ xs, SqL K H1 a xs) /\ R (Itl K a) H1) \/ ((∃ xs, SqT K H1 a xs) /\ R (Itt K a) H1))) \/ ∃ z : List Nat, x = .str ⟨z.toArray⟩ /\ R (Its z) H1
theorem pi_seq {tg l : Expr} {tl : TE} (hl : PE X l tl) : L2.PI X tg l (iSeq X.K tl) := by
 intro pins s σ H R I h
 refine thn (hl pins s σ H _ I h) fun v s1 ⟨x, H1, I1, r1, q1⟩ => ?_
 rcases q1 with ⟨a, e, q⟩ | ⟨z, rfl, q⟩
 rotate_left
 ·obtain ⟨t, rfl⟩ := r1
  refine wpAny_pyIter_strU ?_
  refine ⟨s1.heap.objs.size, [s1.heap.objs.size], _, _, H1, rfl, I1.kept (t' := s1.toks) fun b o e => Heap.get?_push_of_some _ e, turn_str (z := z) (n := strIterType ⟨z.toArray⟩) (t := t) (by unfold strIterType; split <;> simp), ⟨_, Heap.get?_push_size _ rfl, rfl, rfl⟩, fun b hb => ?_, q⟩
  have e : b = s1.heap.objs.size := by simpa using hb
  subst e
  exact I1.fpOk (Nat.le_refl _) (I1.hok.fresh (Nat.le_refl _))
 subst e
 cases r1
 rcases q with ⟨⟨xs, hq⟩, q⟩ | ⟨⟨xs, hq⟩, q⟩
 ·obtain ⟨its, rv, p, hz⟩ := I1.list hq
  refine wpAny_pyIter_list p.isList ?_
  refine ⟨s1.heap.objs.size, [s1.heap.objs.size], _, _, H1, rfl, I1.kept (t' := s1.toks) fun b o e => Heap.get?_push_of_some _ e, turn_list a _, ⟨_, Heap.get?_push_size _ rfl, rfl, rfl⟩, fun b hb => ?_, q⟩
  have e : b = s1.heap.objs.size := by simpa using hb
  subst e
  exact I1.fpOk (Nat.le_refl _) (I1.hok.fresh (Nat.le_refl _))
 ·obtain ⟨its, rv, p, hz⟩ := I1.tuple hq
  refine wpAny_pyIter_tuple (show s1.heap.IsTuple a its.toArray from p) ?_
  refine ⟨s1.heap.objs.size, [s1.heap.objs.size], _, _, H1, rfl, I1.kept (t' := s1.toks) fun b o e => Heap.get?_push_of_some _ e, turn_tuple a _, ⟨_, Heap.get?_push_size _ rfl, rfl, rfl⟩, fun b hb => ?_, q⟩
  have e : b = s1.heap.objs.size := by simpa using hb
  subst e
  exact I1.fpOk (Nat.le_refl _) (I1.hok.fresh (Nat.le_refl _))
theorem it_e {tg l : Expr} (hl : PE X l (tI X.K B f)) : L2.PI X tg l (tIt X.K B (itE f)) := pi_imp (pi_seq hl) (by
 rintro σ H Rq ⟨A, st, ds, rs, hd, q⟩
 obtain ⟨x, hx, h2⟩ := R.ok_of hd
 refine ⟨A, st, x, rs, hx, fun v H1 s1 r1 => ?_⟩
 cases x <;> first | (cases h2; done) | skip
 ·obtain ⟨_, h2⟩ := guardR_of h2
  cases h2
  exact .inr ⟨_, rep_str.mp r1, q _ H1 s1 its_of⟩
 ·cases h2
  obtain ⟨a, vs, e, h3, r3⟩ := rep_tup_mp r1
  exact .inl ⟨a, e, .inr ⟨⟨vs, sqT_mono (hide_sub _ _) h3⟩, q _ H1 s1 (itt_of h3 r3)⟩⟩
 ·cases h2
  obtain ⟨a, vs, e, h3, r3⟩ := rep_lst.mp r1
  exact .inl ⟨a, e, .inl ⟨⟨vs, (hide_sub _ _).seq h3⟩, q _ H1 s1 (itl_of h3 r3)⟩⟩)
theorem it_r1 {tg : Expr} {p : Pos} (hm : X.mg "range" = none) (ha : PE X a (tP X.K B f)) (hg : Gl X "range" := by rfl) (hs : starEach [a] X.env = [(false, eval a X.env)] := by rfl) : L2.PI X tg (.Call (.Name "range" p) [a] [] pos) (tIt X.K B (itR1 f)) := pi_imp (pi_range1 hg hm (pa_cons ha pa_nil hs) hs) (by
 rintro σ H Rq ⟨A, st, ds, rs, hd, q⟩
 obtain ⟨x, hx, h2⟩ := R.ok_of hd
 obtain ⟨j, rfl, h3⟩ := inI_of h2
 obtain ⟨c, h4⟩ := guardR_of h3
 rw [big_eq] at c
 cases h4
 exact ⟨A, st, _, rs, hx, fun v H1 s1 r1 => ⟨j, by rw [r1.int], by omega, by omega, q _ H1 s1 itr_of⟩⟩)
end
theorem start_rs {K : PySem.W.Frag} {B : List Addr} {H : Hp} {N : List Str} {ds : List D} {vs : List V} (w : Own B H) (r : Reps K (hide B H) ds vs) : RS K B [] H (ds.map (fun d => some (Sl.v d)) ++ List.replicate (N.length - ds.length) none) (L2.start N vs) := by
 have hl := r.length
 have nov : ∀ (i : Nat) (s : Sl), (ds.map (fun d => some (Sl.v d)) ++ List.replicate (N.length - ds.length) none)[i]? = some (some s) -> ∃ d, ds[i]? = some d /\ s = .v d := fun i s e => by
  by_cases hi : i < ds.length
  ·rw [List.getElem?_append_left (by simpa using hi), List.getElem?_map, List.getElem?_eq_getElem hi] at e
   simp at e
   exact ⟨ds[i], List.getElem?_eq_getElem hi, e.symm⟩
  ·rw [List.getElem?_append_right (by simpa using hi), List.getElem?_replicate] at e
   split at e <;> simp at e
 refine ⟨by unfold L2.start; simp [hl], by rw [List.nil_append]; exact w, fun a ha => absurd ha (by simp), fun i d e => ?_, fun i kk xs e => ?_⟩
 ·obtain ⟨d', e1, e2⟩ := nov i _ e
  cases e2
  obtain ⟨v, hv, rv⟩ := r.get e1
  refine ⟨v, ?_, by rw [List.nil_append]; exact rv⟩
  unfold L2.start
  have hi : i < vs.length := (List.getElem?_eq_some_iff.mp hv).1
  rw [List.getElem?_append_left (by simpa using hi), List.getElem?_map, hv]
  rfl
 ·obtain ⟨d', e1, e2⟩ := nov i _ e
  cases e2
theorem runD_len {np n : Nat} {bd : Bd} (ds : List D) (d : D) (h : runD np n bd ds = .ok d) : ds.length = np := (guardR_of h).1
end Pu
namespace Pu
open PySem PySem.Spec PyProof.Rows L2
structure DefOk (P : Program) (w : World) (K : PySem.W.Frag) (mg : Str -> Option Value) (base : Heap) (x : Str) (k np : Nat) (p : List D -> R D) : Prop where
 ex : ∃ (fa : Addr) (fd : FuncData) (ps : List Str), FnOk P w K mg base CX0 k fa fd ps (spI K np p) /\ mg x = some (.ref fa) /\ PySem.W.keepIn K (.ref fa) = true /\ Binds K fd ps []
 len : ∀ ds d, p ds = .ok d -> ds.length = np
theorem DefOk.of {P : Program} {w : World} {K : PySem.W.Frag} {mg : Str -> Option Value} {base : Heap} {x : Str} {k np : Nat} {p : List D -> R D} {fa : Addr} {fd : FuncData} {ps : List Str} (h : FnOk P w K mg base CX0 k fa fd ps (spI K np p)) (m : mg x = some (.ref fa))
  (kp : PySem.W.keepIn K (.ref fa) = true) (b : Binds K fd ps []) (l : ∀ ds d, p ds = .ok d -> ds.length = np) : DefOk P w K mg base x k np p := ⟨⟨fa, fd, ps, h, m, kp, b⟩, l⟩
section
variable {X : Cx} {B : List Addr} {a b e : Expr} {f g : Ex} {pos : Pos}
theorem i_callD {x : Str} {k j np : Nat} {p : List D -> R D} {es : List Expr} {r : Exs} {p0 : Pos} (h : DefOk X.prog X.w X.K X.mg X.base x k np p) (hr : Room j X.A) (hk : k <= j) (ha : PA X (e :: es) (tA X.K B r)) (hg : Gl X x := by rfl) (hdb : (x == ("__debug__" : Str)) = false := by decide)
  (he : starEach (e :: es) X.env = (false, eval e X.env) :: starEach es X.env := by rfl) (hpl : (backTo pos (starEach es X.env)).any (·.1) = false := by rfl) : PE X (.Call (.Name x p0) (e :: es) [] pos) (tI X.K B (eCall p r)) := by
 obtain ⟨fa, fd, ps, F, m, kp, bd⟩ := h.ex
 exact i_call F (hr.mono hk) m kp bd h.len ha hg hdb he hpl
theorem law_sp {K : PySem.W.Frag} {H : Hp} {a : Addr} {ns : List Int} {p : List D -> R D} {E : XK} (hS : SqL K H a (ns.map V.int)) (h : p [.lst (ns.map D.int)] = .ok (.bl true)) : spI K 1 p [.ref a] H (fun v _ => v = .bl true) E := by
 refine ⟨[], [.lst (ns.map D.int)], .bl true, fun b hb => absurd hb (by simp), ?_, rfl, h, fun v H' _ r => rep_bl.mp r⟩
 rw [hide_nil]
 refine .cons (rep_lst.mpr ⟨a, _, rfl, hS, ?_⟩) .nil
 clear hS h
 induction ns with
 | nil => exact .nil
 | cons n ns ih => exact .cons (rep_int.mpr rfl) ih
theorem i_len {p0 : Pos} (hm : X.mg "len" = none) (ha : PE X a (tP X.K B f)) (hg : Gl X "len" := by rfl) (hs : starEach [a] X.env = (false, eval a X.env) :: starEach [] X.env := by rfl) : PE X (.Call (.Name "len" p0) [a] [] pos) (tI X.K B (e1 dLen f)) := by
 refine pe_imp (pe_callB (call_len_seq.or (call_len_str.or call_lenK)) hg hm PySem.boot_len (pa_cons ha pa_nil hs) (he := hs)) ?_
 rintro σ H Q ⟨A, st, d, rs, hd, q⟩
 obtain ⟨x, hx, h2⟩ := R.ok_of hd
 refine ⟨A, st, x, rs, hx, fun v H1 s1 r1 => ?_⟩
 cases x <;> first | (cases h2; done) | skip
 ·obtain ⟨c, h3⟩ := guardR_of h2
  cases h3
  exact .inr (.inl ⟨_, by rw [r1.str], by rw [str_len]; exact lim c, by rw [str_len]; exact q _ H1 s1 (rep_int.mpr rfl)⟩)
 ·cases h2
  obtain ⟨l, vs, e, h3, r3⟩ := r1.tup
  exact .inl ⟨l, vs, by rw [e], .inr h3, by rw [r3.length]; exact q _ H1 s1 (rep_int.mpr rfl)⟩
 ·cases h2
  obtain ⟨l, vs, e, h3, r3⟩ := r1.lst
  exact .inl ⟨l, vs, by rw [e], .inl h3, by rw [r3.length]; exact q _ H1 s1 (rep_int.mpr rfl)⟩
 ·rename_i t ks ds
  cases t <;> first | (cases h2; done) | skip
  cases h2
  obtain ⟨a, kvs, e, h3, h4⟩ := dlen_of r1
  exact .inr (.inr ⟨a, kvs, by rw [e], h3, by rw [h4]; exact q _ H1 s1 (rep_int.mpr rfl)⟩)
theorem o_some (h : PE X e (tP X.K B f)) : PO X (some e) (tO X.K B (oSome f)) := po_imp (po_some h) (by
 rintro σ H Q ⟨A, st, o, rs, ho, q⟩
 obtain ⟨x, hx, h2⟩ := R.ok_of ho
 obtain ⟨i, rfl, h3⟩ := inI_of h2
 cases h3
 exact ⟨A, st, _, rs, hx, fun v H1 s1 r1 => ⟨i, r1.int, q H1 s1⟩⟩)
theorem fm_range {α : Type} (x : List α) : ∀ (k a : Nat), ((List.range k).map (a + ·)).filterMap (x[·]?) = (x.drop a).take k
 | 0, a => by simp
 | k + 1, a => by
  rw [List.range_succ_eq_map, List.map_cons, List.filterMap_cons, List.map_map]
  have e : ((fun b => a + b) ∘ Nat.succ) = fun b => (a + 1) + b := by funext b; simp only [Function.comp_apply]; omega
  rw [e]
  have ih := fm_range x k (a + 1)
  rw [ih]
  by_cases h : a < x.length
  ·rw [Nat.add_zero, List.getElem?_eq_getElem h]
   simp only [List.drop_eq_getElem_cons h, List.take_succ_cons]
  ·rw [Nat.add_zero, List.getElem?_eq_none (by omega)]
   simp only [List.drop_eq_nil_of_le (by omega : x.length <= a), List.drop_eq_nil_of_le (by omega : x.length <= a + 1), List.take_nil]
theorem clip_lo (n d : Nat) (o : Option Int) : (match o with | none => (d : Int) | some i => if (1 : Int) > 0 then max 0 (min (if i < 0 then i + (n : Int) else i) (n : Int)) else max (-1) (min (if i < 0 then i + (n : Int) else i) ((n : Int) - 1))) = ((sIx n d o : Nat) : Int) := by
 cases o with
 | none => rfl
 | some i =>
  show (if (1 : Int) > 0 then _ else _) = (((if i < 0 then (i + (n : Int)).toNat else min i.toNat n) : Nat) : Int)
  rw [if_pos (by decide)]
  by_cases h : i < 0
  ·rw [if_pos h, if_pos h]; omega
  ·rw [if_neg h, if_neg h]; omega
theorem slice_ix (lo hi : Option Int) (n : Nat) : Builtin.Str.strSliceIndices lo hi 1 n = (List.range (sIx n n hi - sIx n 0 lo)).map (sIx n 0 lo + ·) := by
 unfold Builtin.Str.strSliceIndices
 simp only [show (1 : Int) > 0 by decide, if_true]
 have e1 := clip_lo n 0 lo
 have e2 := clip_lo n n hi
 simp only [show (1 : Int) > 0 by decide, if_true] at e1 e2
 rw [show ((0 : Nat) : Int) = 0 from rfl] at e1
 refine Eq.trans (congrArg (fun z => sliceRange z _ 1) (show _ = ((sIx n 0 lo : Nat) : Int) from e1)) (Eq.trans (congrArg (fun z => sliceRange _ z 1) (show _ = ((sIx n n hi : Nat) : Int) from e2)) ?_)
 unfold sliceRange
 simp only [show (1 : Int) > 0 by decide, if_true]
 have hc : (if ((sIx n 0 lo : Nat) : Int) < ((sIx n n hi : Nat) : Int) then (((sIx n n hi : Nat) : Int) - ((sIx n 0 lo : Nat) : Int) + 1 - 1) / 1 else 0).toNat = sIx n n hi - sIx n 0 lo := by
  by_cases h : ((sIx n 0 lo : Nat) : Int) < ((sIx n n hi : Nat) : Int)
  ·rw [if_pos h, Int.ediv_one]; omega
  ·rw [if_neg h]; omega
 rw [hc]
 refine List.map_congr_left fun k _ => ?_
 omega
theorem sIx_le' (n d : Nat) (hd : d <= n) (o : Option Int) : sIx n d o <= n := by
 cases o with
 | none => exact hd
 | some v =>
  show (if v < 0 then (v + (n : Int)).toNat else min v.toNat n) <= n
  by_cases hv : v < 0
  ·rw [if_pos hv]; omega
  ·rw [if_neg hv]; omega
theorem cut_slice (x : List Nat) (lo hi : Option Int) : Txt.slice ⟨x.toArray⟩ lo hi = ⟨(cut x lo hi).toArray⟩ := by
 unfold Txt.slice cut
 rw [str_len, slice_ix, List.length_map, List.length_range]
 have h1 := sIx_le' x.length x.length (Nat.le_refl _) hi
 by_cases h : sIx x.length x.length hi - sIx x.length 0 lo = x.length
 ·have e0 : sIx x.length 0 lo = 0 \/ x.length = 0 := by omega
  rw [if_pos (by simp [h]), h]
  rcases e0 with e0 | e0
  ·rw [e0, List.drop_zero, List.take_length]
  ·rw [List.length_eq_zero_iff.mp e0]; simp
 ·rw [if_neg (by simp [h])]
  have e : (fun (i : Nat) => (⟨x.toArray⟩ : Str).cps[i]?) = fun i => x[i]? := by funext i; simp
  rw [e, fm_range]
def rSlS : V -> Option Int -> Option Int -> Hp -> VK -> Prop := fun x lo hi H Q => ∃ z : List Nat, x = .str ⟨z.toArray⟩ /\ z.length <= sizeLine /\ Q (.str ⟨(cut z lo hi).toArray⟩) H
theorem sl_str : SlR X rSlS := by
 intro pins s σ H x v vl vu lo hi sl Q I rx hs pl pu h
 obtain ⟨z, rfl, hz, q⟩ := h
 obtain ⟨t, rfl⟩ := rx
 refine ⟨"str", _, PySem.F.slot_str_getitem.lookup, typeIs_str _ _ _, ?_⟩
 have hl : (Txt.slice ⟨z.toArray⟩ lo hi).length <= sizeLine := Nat.le_trans (Txt.slice_le _ _ _) (by rw [str_len]; exact hz)
 have fin : ∀ t' k, EP X pins σ Q (.str (Txt.slice ⟨z.toArray⟩ lo hi) t') { s with toks := k } := fun t' k => ⟨.str ⟨(cut z lo hi).toArray⟩, H, I.tok k, ⟨t', by rw [cut_slice]⟩, q⟩
 cases pl with
 | none =>
  cases pu with
  | none => exact wpAny_getItem_str_slice (l := none) (u := none) (st := none) hs rfl (post_val_or_str ⟨hl, fin⟩)
  | int j uj => exact wpAny_getItem_str_slice (l := none) (u := some (j, uj)) (st := none) hs rfl (post_val_or_str ⟨hl, fin⟩)
 | int i ui =>
  cases pu with
  | none => exact wpAny_getItem_str_slice (l := some (i, ui)) (u := none) (st := none) hs rfl (post_val_or_str ⟨hl, fin⟩)
  | int j uj => exact wpAny_getItem_str_slice (l := some (i, ui)) (u := some (j, uj)) (st := none) hs rfl (post_val_or_str ⟨hl, fin⟩)
theorem cutV_cut {K : PySem.W.Frag} {H : Hp} {ds : List D} {vs : List V} (lo hi : Option Int) (r : Reps K H ds vs) : Reps K H (cut ds lo hi) (cutV vs lo hi) := by
 unfold cut cutV
 rw [r.length]
 exact (r.drop _).take _
theorem i_sl {lo hi : Option Expr} {l u : ExO} {p2 : Pos} (ha : PE X a (tP X.K B f)) (hl : PO X lo (tO X.K B l)) (hu : PO X hi (tO X.K B u)) : PE X (.Subscript a (.Slice lo hi none p2) pos) (tI X.K B (eSl f l u)) := by
 refine pe_imp (pe_slice (sl_list.or sl_str) ha hl hu) ?_
 rintro σ H Q ⟨A, st, d, rs, hd, q⟩
 obtain ⟨x, hx, h2⟩ := R.ok_of hd
 obtain ⟨l', hl', h3⟩ := R.ok_of h2
 obtain ⟨u', hu', h4⟩ := R.ok_of h3
 refine ⟨A, st, x, rs, hx, fun v H1 s1 r1 => ⟨A, st, l', rs.mono s1, hl', fun H2 s2 => ⟨A, st, u', rs.mono (s1.trans s2), hu', fun H3 s3 => ?_⟩⟩⟩
 have r3 := r1.mono (s2.trans s3)
 cases x <;> first | (cases h4; done) | skip
 ·obtain ⟨c, h5⟩ := guardR_of h4
  cases h5
  exact .inr ⟨_, r3.str, lim c, q _ H3 (s1.trans (s2.trans s3)) (rep_str.mpr rfl)⟩
 ·cases h4
  obtain ⟨p, vs, e, h6, r6⟩ := r3.lst
  refine .inl ⟨p, vs, e, h6, fun n hn => q _ _ (s1.trans (s2.trans (s3.trans (same_upd hn)))) ?_⟩
  exact rep_new_lst (rs.own.mono (s1.trans (s2.trans s3))) hn (cutV_cut _ _ r6)
end
end Pu
namespace Pu
open PySem PySem.Spec PyProof.Rows L2
def clo (cells : List (Str × Addr)) : List (Str × NameKind) -> List (Str × Addr) -> List (Str × Addr)
 | [], acc => acc
 | (n, k) :: r, acc => if k == .free then clo cells r ((n, (cells.lookup n).getD 0) :: acc) else clo cells r acc
theorem closure_eq {env : Env} : ∀ (names : List (Str × NameKind)) (acc : List (Str × Addr)), (∀ y ∈ names, y.2 = .free -> ∃ c, env.cells.lookup y.1 = some c) ->
  (forIn names acc fun x cs => if x.2 == .free then (do let c <- cellOf env x.1; pure (ForInStep.yield ((x.1, c) :: cs))) else pure (ForInStep.yield cs) : Sem (List (Str × Addr))) = pure (clo env.cells names acc)
 | [], acc, _ => by rw [List.forIn_nil]; rfl
 | (n, k) :: r, acc, h => by
  rw [List.forIn_cons]
  unfold clo
  by_cases hk : k = .free
  ·subst hk
   obtain ⟨c, e⟩ := h (n, .free) List.mem_cons_self rfl
   have e2 : cellOf env n = pure c := by unfold cellOf; rw [e]
   simp only [beq_self_eq_true, if_true, e2, e, Option.getD_some]
   show (forIn r ((n, c) :: acc) _ : Sem (List (Str × Addr))) = _
   exact closure_eq r _ fun y hy => h y (List.mem_cons_of_mem _ hy)
  ·have hb : (k == NameKind.free) = false := by simpa using hk
   simp only [hb, Bool.false_eq_true, if_false]
   show (forIn r acc _ : Sem (List (Str × Addr))) = _
   exact closure_eq r _ fun y hy => h y (List.mem_cons_of_mem _ hy)
theorem closureFor_eq {scope : Scope} {env : Env} (h : ∀ y ∈ scope.names, y.2 = .free -> ∃ c, env.cells.lookup y.1 = some c) : closureFor scope env = pure (clo env.cells scope.names []) := by
 have q := closure_eq (env := env) scope.names [] h
 unfold closureFor
 rw [<- q]
 simp only [pure_bind, bind_pure]
theorem clo_mem {cells : List (Str × Addr)} : ∀ (names : List (Str × NameKind)) (acc : List (Str × Addr)) (x : Str) (c : Addr), (∀ y ∈ names, y.2 = .free -> ∃ c, cells.lookup y.1 = some c) -> (x, c) ∈ clo cells names acc -> ((x, NameKind.free) ∈ names /\ cells.lookup x = some c) \/ (x, c) ∈ acc
 | [], acc, x, c, _, h => .inr h
 | (n, k) :: r, acc, x, c, hn, h => by
  unfold clo at h
  have hr : ∀ y ∈ r, y.2 = .free -> ∃ c, cells.lookup y.1 = some c := fun y hy => hn y (List.mem_cons_of_mem _ hy)
  by_cases hk : k = .free
  ·subst hk
   rw [if_pos (by simp)] at h
   obtain ⟨c', e⟩ := hn (n, .free) List.mem_cons_self rfl
   rcases clo_mem r _ x c hr h with ⟨h1, h2⟩ | h1
   ·exact .inl ⟨List.mem_cons_of_mem _ h1, h2⟩
   ·rcases List.mem_cons.mp h1 with h1 | h1
    ·cases h1
     refine .inl ⟨List.mem_cons_self, ?_⟩
     have e' : cells.lookup n = some c' := e
     rw [e']; rfl
    ·exact .inr h1
  ·rw [if_neg (by simpa using hk)] at h
   rcases clo_mem r _ x c hr h with ⟨h1, h2⟩ | h1
   ·exact .inl ⟨List.mem_cons_of_mem _ h1, h2⟩
   ·exact .inr h1
theorem clo_has {cells : List (Str × Addr)} : ∀ (names : List (Str × NameKind)) (acc : List (Str × Addr)) (x : Str), ((x, NameKind.free) ∈ names \/ ∃ c, (x, c) ∈ acc) -> ∃ c, (x, c) ∈ clo cells names acc
 | [], acc, x, h => by
  rcases h with h | h
  ·cases h
  ·exact h
 | (n, k) :: r, acc, x, h => by
  unfold clo
  by_cases hk : k = .free
  ·subst hk
   rw [if_pos (by simp)]
   refine clo_has r _ x ?_
   rcases h with h | ⟨c, h⟩
   ·rcases List.mem_cons.mp h with h | h
    ·cases h; exact .inr ⟨_, List.mem_cons_self⟩
    ·exact .inl h
   ·exact .inr ⟨c, List.mem_cons_of_mem _ h⟩
  ·rw [if_neg (by simpa using hk)]
   refine clo_has r _ x ?_
   rcases h with h | h
   ·rcases List.mem_cons.mp h with h | h
    ·cases h; exact absurd rfl hk
    ·exact .inl h
   ·exact .inr h
theorem lookup_of_mem {α : Type} : ∀ {l : List (Str × α)} {x : Str} {c : α}, (x, c) ∈ l -> ∃ c', l.lookup x = some c'
 | (n, v) :: r, x, c, h => by
  rw [List.lookup_cons]
  cases hb : x == n with
  | true => exact ⟨v, rfl⟩
  | false =>
   rcases List.mem_cons.mp h with h | h
   ·cases h; simp at hb
   ·exact lookup_of_mem h
theorem relabel_lookup {env : Env} : ∀ (names : List (Str × NameKind)) (x : Str), (names.map fun (n, k) => if (k == NameKind.free && env.scope.kind == .function && env.kindOf n == some .cell) then (n, NameKind.cell) else (n, k)).lookup x =
  (names.lookup x).map fun k => if (k == NameKind.free && env.scope.kind == .function && env.kindOf x == some .cell) then NameKind.cell else k
 | [], _ => rfl
 | (n, k) :: r, x => by
  have ih := @relabel_lookup env r x
  rw [List.map_cons, List.lookup_cons]
  show List.lookup x ((if (k == NameKind.free && env.scope.kind == .function && env.kindOf n == some .cell) = true then (n, NameKind.cell) else (n, k)) :: _) = _
  cases hx : x == n with
  | true =>
   have e : x = n := beq_iff_eq.mp hx
   subst e
   by_cases hc : (k == NameKind.free && env.scope.kind == .function && env.kindOf x == some .cell) = true
   ·rw [if_pos hc, List.lookup_cons, List.lookup_cons, hx]; simp only [Option.map_some]; rw [if_pos hc]
   ·rw [if_neg hc, List.lookup_cons, List.lookup_cons, hx]; simp only [Option.map_some]; rw [if_neg hc]
  | false =>
   by_cases hc : (k == NameKind.free && env.scope.kind == .function && env.kindOf n == some .cell) = true
   ·rw [if_pos hc, List.lookup_cons, List.lookup_cons, hx]; exact ih
   ·rw [if_neg hc, List.lookup_cons, List.lookup_cons, hx]; exact ih
theorem cellsFrom_app : ∀ (names : List (Str × NameKind)) (n : Nat) (acc : List (Str × Addr)), cellsFrom n names acc = cellsFrom n names [] ++ acc
 | [], _, _ => rfl
 | (x, k) :: r, n, acc => by
  unfold cellsFrom
  split
  ·rw [cellsFrom_app r (n + 1) ((x, n) :: acc), cellsFrom_app r (n + 1) [(x, n)], List.append_assoc]; rfl
  ·exact cellsFrom_app r n acc
theorem cellsFrom_in : ∀ (names : List (Str × NameKind)) (n : Nat) (acc : List (Str × Addr)) (x : Str) (c : Addr), (x, c) ∈ cellsFrom n names acc -> (x, c) ∈ acc \/ (x, NameKind.cell) ∈ names
 | [], _, _, _, _, h => .inl h
 | (y, k) :: r, n, acc, x, c, h => by
  unfold cellsFrom at h
  split at h
  ·rename_i hk
   rcases cellsFrom_in r _ _ x c h with z | z
   ·rcases List.mem_cons.mp z with z | z
    ·cases z; exact .inr (by rw [show k = NameKind.cell from by simpa using hk]; exact List.mem_cons_self)
    ·exact .inl z
   ·exact .inr (List.mem_cons_of_mem _ z)
  ·rcases cellsFrom_in r _ _ x c h with z | z
   ·exact .inl z
   ·exact .inr (List.mem_cons_of_mem _ z)
theorem cellsFrom_has : ∀ (names : List (Str × NameKind)) (n : Nat) (acc : List (Str × Addr)) (x : Str), ((x, NameKind.cell) ∈ names \/ ∃ c, (x, c) ∈ acc) -> ∃ c, (x, c) ∈ cellsFrom n names acc
 | [], _, _, x, h => h.elim (fun z => nomatch z) id
 | (y, k) :: r, n, acc, x, h => by
  unfold cellsFrom
  split
  ·refine cellsFrom_has r _ _ x ?_
   rcases h with h | ⟨c, h⟩
   ·rcases List.mem_cons.mp h with h | h
    ·cases h; exact .inr ⟨n, List.mem_cons_self⟩
    ·exact .inl h
   ·exact .inr ⟨c, List.mem_cons_of_mem _ h⟩
  ·rename_i hk
   refine cellsFrom_has r _ _ x ?_
   rcases h with h | h
   ·rcases List.mem_cons.mp h with h | h
    ·cases h; exact absurd rfl hk
    ·exact .inl h
   ·exact .inr h
theorem lookup_app {α : Type} (x : Str) : ∀ (l r : List (Str × α)), (l ++ r).lookup x = (l.lookup x).or (r.lookup x)
 | [], r => by simp
 | (y, v) :: l, r => by
  rw [List.cons_append, List.lookup_cons, List.lookup_cons]
  cases hb : x == y with
  | true => rfl
  | false => exact lookup_app x l r
theorem mem_lookup_nd {α : Type} : ∀ {l : List (Str × α)} {x : Str} {v : α}, (l.map (·.1)).Nodup -> (x, v) ∈ l -> l.lookup x = some v
 | (y, w) :: l, x, v, nd, h => by
  rw [List.map_cons, List.nodup_cons] at nd
  rw [List.lookup_cons]
  rcases List.mem_cons.mp h with h | h
  ·cases h; simp
  ·have hne : (x == y) = false := by
    rw [beq_eq_false_iff_ne]
    intro z
    exact nd.1 (List.mem_map.mpr ⟨(x, v), h, z⟩)
   rw [hne]
   exact mem_lookup_nd nd.2 h
theorem wp_newEnv {M : Model} {A : Around} {E : Value -> Shared -> Prop} {s : Shared} {scope : Scope} {gl : Addr} {cl : List (Str × Addr)} {qual : Str} {env : Env} {Q : Env -> Shared -> Prop}
  (hQ : ∀ h', h'.Ns s.heap.objs.size (fun _ => none) -> (∀ b o, s.heap.get? b = some o -> h'.get? b = some o) -> CellsOk h' (s.heap.objs.size + 1) (cellsFrom (s.heap.objs.size + 1) scope.names []) ->
   Q { scope := scope, locals := s.heap.objs.size, globals := gl, cells := cellsFrom (s.heap.objs.size + 1) scope.names cl, qual := qual, func := none, code := env.code, frame := env.frame, builtins := env.builtins } { s with heap := h' }) :
  wpAny M A (newFunctionEnv scope gl cl [] qual none .none (some env)) Q E s := by
 simp only [newFunctionEnv, Option.isSome_some, if_true]
 refine wpAny_bind (wpAny_alloc (wpAny_bind (wpAny_layCells _ (fun name kind cells => by cases hkc : kind == NameKind.cell <;> simp [hkc]) _ _ _ _ ?_)))
 rw [List.forIn_nil]
 refine wpAny_bind (wpAny_pure (wpAny_pure ?_))
 have ok := cellsFrom_ok scope.names (s.heap.push { cls := .type "dict", data := .dict #[] }) (s.heap.objs.size + 1) [] ⟨fun _ _ hm => (nomatch hm), List.Pairwise.nil⟩ (by rw [Heap.size_push]; exact Nat.le_refl _)
 rw [Heap.size_push] at ok
 have e : ({ s with heap := s.heap.push { cls := .type "dict", data := .dict #[] } } : Shared).heap.objs.size = s.heap.objs.size + 1 := Heap.size_push ..
 rw [e]
 exact hQ _ ((Heap.Ns.new s.heap (.type "dict")).keeps (pushCells_keeps _ _)) (fun b o q => pushCells_keeps _ _ b o (Heap.get?_push_of_some _ q)) ok
structure CScope (X : Cx) (scope : Scope) (is : List Nat) : Prop where
 kind : scope.kind = .function
 nd : (scope.names.map (·.1)).Nodup
 free : ∀ x ∈ scope.names, x.2 = .free -> X.env.kindOf x.1 = some .cell \/ X.env.kindOf x.1 = some .free
 own : ∀ (i : Nat) x, X.N[i]? = some x -> (scope.names.lookup x = some .local \/ scope.names.lookup x = some .cell) -> i ∈ is
section
variable {X : Cx} {scope : Scope} {is : List Nat}
theorem CScope.names (S : CScope X scope is) : ∀ x ∈ scope.names, x.2 = .local -> scope.names.lookup x.1 = some .local := fun x hx e => mem_lookup_nd S.nd (by rw [<- e]; exact hx)
def compCx (X : Cx) (scope : Scope) (C : Addr) (s₀ : Shared) (H₀ : Hp) (fp : List Addr) : Cx :=
 { X with s₀ := s₀, H₀ := H₀, env := compEnvC scope (cellsFrom (C + 1) scope.names (clo X.env.cells scope.names [])) C X.env, outer := X.stack, stack := X.stack, ex := fp, fn := fun x => scope.names.lookup x == some .cell, pn := [], xe := fun _ _ => False, calm := true }
theorem CScope.cells (S : CScope X scope is) (ok : X.Ok) : ∀ y ∈ scope.names, y.2 = .free -> ∃ c, X.env.cells.lookup y.1 = some c := fun y hy hf => ok.has y.1 (S.free y hy hf)
theorem CScope.lk (S : CScope X scope is) (ok : X.Ok) {n : Nat} {x : Str} {c : Addr} (h : (cellsFrom n scope.names (clo X.env.cells scope.names [])).lookup x = some c) :
  ((cellsFrom n scope.names []).lookup x = some c /\ scope.names.lookup x = some .cell) \/ (scope.names.lookup x = some .free /\ X.env.cells.lookup x = some c) := by
 rw [cellsFrom_app, lookup_app] at h
 cases e : (cellsFrom n scope.names []).lookup x with
 | some c' =>
  rw [e] at h
  cases h
  rcases cellsFrom_in _ _ _ _ _ (PySem.mem_of_lookup e) with z | z
  ·cases z
  ·exact .inl ⟨rfl, mem_lookup_nd S.nd z⟩
 | none =>
  rw [e] at h
  have h : (clo X.env.cells scope.names []).lookup x = some c := h
  rcases clo_mem scope.names [] x c (S.cells ok) (PySem.mem_of_lookup h) with ⟨h1, h2⟩ | h2
  ·exact .inr ⟨mem_lookup_nd S.nd h1, h2⟩
  ·cases h2
def clrS (is : List Nat) (σ : LSt) : LSt := is.foldl (fun τ i => τ.set i none) σ
theorem clrS_len (is : List Nat) : ∀ σ : LSt, (clrS is σ).length = σ.length := by
 induction is with
 | nil => exact fun _ => rfl
 | cons i is ih => intro σ; show (clrS is (σ.set i none)).length = _; rw [ih, List.length_set]
theorem clrS_get (is : List Nat) : ∀ (σ : LSt) (j : Nat) (v : V), (clrS is σ)[j]? = some (some v) -> σ[j]? = some (some v) /\ j ∉ is := by
 induction is with
 | nil => exact fun σ j v h => ⟨h, by simp⟩
 | cons i is ih =>
  intro σ j v h
  obtain ⟨h1, h2⟩ := ih (σ.set i none) j v h
  rw [List.getElem?_set] at h1
  by_cases e : i = j
  ·subst e
   rw [if_pos rfl] at h1
   split at h1 <;> cases h1
  ·rw [if_neg e] at h1
   exact ⟨h1, fun z => (List.mem_cons.mp z).elim (fun z => e z.symm) h2⟩
theorem comp_start {pins : List (Addr × Obj)} {σ : LSt} {H : Hp} {s : Shared} {fp : List Addr} {h' : Heap} {t' : Nat} (S : CScope X scope is) (hc : X.calm = true) (I : Inv X pins σ H s) (hf : ∀ b ∈ fp, FpOk X pins H b) (hlt : ∀ b ∈ fp, b < s.heap.objs.size)
  (hn : h'.Ns s.heap.objs.size fun _ => none) (hk : ∀ b o, s.heap.get? b = some o -> h'.get? b = some o) (hcl : CellsOk h' (s.heap.objs.size + 1) (cellsFrom (s.heap.objs.size + 1) scope.names [])) :
  Inv (compCx X scope s.heap.objs.size s H fp) [] (clrS is σ) H { s with heap := h', toks := t' } := by
 have lk := @CScope.lk X scope is S I.ok (s.heap.objs.size + 1)
 have nf : ∀ b ∈ fp, b ≠ s.heap.objs.size := fun b hb => Nat.ne_of_lt (hlt b hb)
 have cellLt : ∀ x c, X.env.cells.lookup x = some c -> c < s.heap.objs.size := fun x c e => by
  obtain ⟨v, q⟩ := I.cell x c e
  exact q.lt
 have ownGe : ∀ x c, (cellsFrom (s.heap.objs.size + 1) scope.names []).lookup x = some c -> s.heap.objs.size + 1 <= c := fun x c e => (hcl.empty x c (PySem.mem_of_lookup e)).2
 have has : ∀ x k, (k = .cell \/ k = .free) -> scope.names.lookup x = some k -> ∃ c, (cellsFrom (s.heap.objs.size + 1) scope.names (clo X.env.cells scope.names [])).lookup x = some c := fun x k hk e => by
  have hm := PySem.mem_of_lookup e
  rcases hk with rfl | rfl
  ·obtain ⟨c, q⟩ := cellsFrom_has scope.names (s.heap.objs.size + 1) (clo X.env.cells scope.names []) x (.inl hm)
   exact lookup_of_mem q
  ·obtain ⟨c, q⟩ := cellsFrom_has scope.names (s.heap.objs.size + 1) (clo X.env.cells scope.names []) x (.inr (clo_has (cells := X.env.cells) scope.names [] x (.inl hm)))
   exact lookup_of_mem q
 have knd : ∀ x, (relabel scope X.env).names.lookup x = some .cell \/ (relabel scope X.env).names.lookup x = some .free -> scope.names.lookup x = some .cell \/ scope.names.lookup x = some .free := fun x hx => by
  unfold relabel at hx
  rw [relabel_lookup] at hx
  cases e : scope.names.lookup x with
  | none => rw [e] at hx; rcases hx with hx | hx <;> cases hx
  | some k =>
   rw [e] at hx
   simp only [Option.map_some] at hx
   by_cases hc : (k == NameKind.free && X.env.scope.kind == .function && X.env.kindOf x == some .cell) = true
   ·simp only [Bool.and_eq_true, beq_iff_eq] at hc
    exact .inr (by rw [hc.1.1])
   ·rw [if_neg hc] at hx; exact hx
 refine ⟨⟨I.ok.mod, ?_, I.ok.glob, I.ok.blt, Nat.le_refl _, fun x y c h1 h2 => ?_, fun x hx => ?_, fun x c hfn e => ?_, fun _ => I.ok.hd hc, I.ok.frames, .inl rfl, fun b hb => ⟨nf b hb, fun x c e z => ?_⟩, I.bs, ?_, fun b o e hb => ?_, fun b hb z => ?_, I.stack, I.stkFree⟩,
  rfl, I.bare, Un.kept hk, ⟨_, hn, fun i x v e1 e2 e3 => ?_⟩, fun x c e => ?_, I.hok.fresh (Nat.le_refl _), fun x c e => ?_, (fun p hp => absurd (show p ∈ ([] : List (Addr × Obj)) from hp) (by simp)), I.hok.kept hk, by rw [clrS_len]; exact I.len⟩
 ·show (relabel scope X.env).kind = .function
  exact S.kind
 ·rcases lk h1 with ⟨a1, _⟩ | ⟨_, a1⟩ <;> rcases lk h2 with ⟨a2, _⟩ | ⟨_, a2⟩
  ·exact name_of_addr hcl.apart (PySem.mem_of_lookup a1) (PySem.mem_of_lookup a2)
  ·exact absurd (Nat.lt_of_lt_of_le (cellLt y c a2) (Nat.le_of_succ_le (ownGe x c a1))) (Nat.lt_irrefl _)
  ·exact absurd (Nat.lt_of_lt_of_le (cellLt x c a1) (Nat.le_of_succ_le (ownGe y c a2))) (Nat.lt_irrefl _)
  ·exact I.ok.inj x y c a1 a2
 ·rcases knd x hx with e | e
  ·exact has x _ (.inl rfl) e
  ·exact has x _ (.inr rfl) e
 ·have hfn : scope.names.lookup x = some .cell := beq_iff_eq.mp hfn
  rcases lk e with ⟨a1, _⟩ | ⟨a1, _⟩
  ·have := ownGe x c a1
   show s.heap.objs.size <= c
   omega
  ·rw [hfn] at a1; cases a1
 ·rcases lk e with ⟨a1, _⟩ | ⟨_, a1⟩
  ·have h2 := hlt b hb
   rw [<- z] at h2
   exact absurd (Nat.lt_of_lt_of_le h2 (Nat.le_of_succ_le (ownGe x c a1))) (Nat.lt_irrefl _)
  ·exact (hf b hb).2.2.2.2.1 x c a1 z
 ·exact Nat.le_trans I.ok.bsz I.sz
 ·rcases (hf b hb).2.2.2.1 with z | z
  ·exact I.ok.noex b o e z
  ·exact absurd (Nat.lt_of_lt_of_le (Heap.lt_size e) (Nat.le_trans I.ok.bsz z)) (Nat.lt_irrefl _)
 ·rcases List.mem_cons.mp (I.stkSub b z) with z | z
  ·exact (hf b hb).2.1 z
  ·exact (hf b hb).2.2.1 z
 ·obtain ⟨e2, hni⟩ := clrS_get is σ i v e2
  have e3 : (relabel scope X.env).names.lookup x = some .local \/ (relabel scope X.env).names.lookup x = some .cell \/ (relabel scope X.env).names.lookup x = some .free := e3
  have hfr : scope.names.lookup x = some .free := by
   have e4 := e3
   unfold relabel at e4
   rw [relabel_lookup] at e4
   cases e : scope.names.lookup x with
   | none => rw [e] at e4; rcases e4 with e4 | e4 | e4 <;> cases e4
   | some k =>
    rw [e] at e4
    simp only [Option.map_some] at e4
    by_cases hc : (k == NameKind.free && X.env.scope.kind == .function && X.env.kindOf x == some .cell) = true
    ·simp only [Bool.and_eq_true, beq_iff_eq] at hc
     rw [hc.1.1]
    ·rw [if_neg hc] at e4
     rcases e4 with e4 | e4 | e4
     ·exact absurd (S.own i x e1 (.inl (by rw [e, e4]))) hni
     ·exact absurd (S.own i x e1 (.inr (by rw [e, e4]))) hni
     ·exact e4
  have hrel : (relabel scope X.env).names.lookup x = some .cell \/ (relabel scope X.env).names.lookup x = some .free := by
   rcases e3 with e3 | e3 | e3
   ·unfold relabel at e3
    rw [relabel_lookup, hfr] at e3
    simp only [Option.map_some] at e3
    split at e3 <;> cases e3
   ·exact .inl e3
   ·exact .inr e3
  have hvis := S.free _ (PySem.mem_of_lookup hfr) rfl
  obtain ⟨m, hm, hl⟩ := I.loc
  obtain ⟨u, ru, lu⟩ := hl i x v e1 e2 (.inr hvis)
  refine ⟨u, ru, .inr ⟨hrel, ?_⟩⟩
  rcases lu with ⟨k1, _⟩ | ⟨_, c, ec, zc⟩
  ·have k1 : X.env.kindOf x = some .local := k1
   rcases hvis with q | q <;> rw [k1] at q <;> cases q
  ·obtain ⟨c2, e5⟩ := has x _ (.inr rfl) hfr
   rcases lk e5 with ⟨_, a1⟩ | ⟨_, a1⟩
   ·rw [hfr] at a1; cases a1
   ·rw [ec] at a1
    cases a1
    exact ⟨c, e5, zc.keeps hk⟩
 ·rcases lk e with ⟨a1, _⟩ | ⟨_, a1⟩
  ·exact ⟨_, (hcl.empty x c (PySem.mem_of_lookup a1)).1⟩
  ·obtain ⟨v, q⟩ := I.cell x c a1
   exact ⟨v, q.keeps hk⟩
 ·rcases lk e with ⟨a1, _⟩ | ⟨_, a1⟩
  ·exact I.hok.fresh (by have := ownGe x c a1; omega)
  ·exact I.freeC x c a1
end
end Pu
namespace Pu
open PySem PySem.Spec PyProof.Rows L2
theorem compTurn_list2 (elt target iter c : Expr) (scope : Scope) (pos : Pos) (it acc : Value) (env : Env) :
  compTurn (.ListComp elt [⟨target, iter, [c], 0⟩] scope pos) 0 it acc env = (standAt iter.pos >>= fun _ => pyNext it >>= fun r => match r with
   | none => pure (.done .next)
   | some v => letOwnedTupleGo target it v >>= fun _ => assign target env v >>= fun _ => isTrue c env (eval c env) >>= fun ok =>
    if ok = true then (eval elt env >>= fun x => call (.builtin "list.append") [acc, x] >>= fun _ => again (.compLoop (.ListComp elt [⟨target, iter, [c], 0⟩] scope pos) 0 it acc env))
    else again (.compLoop (.ListComp elt [⟨target, iter, [c], 0⟩] scope pos) 0 it acc env)) := by
 unfold compTurn
 simp [List.forIn_cons, List.forIn_nil]
 rfl
theorem compTurn_list1' (elt target iter : Expr) (scope : Scope) (pos : Pos) (it acc : Value) (env : Env) :
  compTurn (.ListComp elt [⟨target, iter, [], 0⟩] scope pos) 0 it acc env = (standAt iter.pos >>= fun _ => pyNext it >>= fun r => match r with
   | none => pure (.done .next)
   | some v => letOwnedTupleGo target it v >>= fun _ => assign target env v >>= fun _ =>
    (eval elt env >>= fun x => call (.builtin "list.append") [acc, x] >>= fun _ => again (.compLoop (.ListComp elt [⟨target, iter, [], 0⟩] scope pos) 0 it acc env))) := by
 unfold compTurn
 simp [List.forIn_nil]
 rfl
section
variable {X : Cx} {scope : Scope} {is : List Nat} {elt tg iter : Expr} {pos : Pos} {wi : TI} {g : TG} {te : TE} {tt : TT}
def tLC (is : List Nat) (wi : TI) (g : TG) (tt : TT) (te : TE) : TE := fun σ H Q => wi σ H fun J H1 => ∀ p, H1 p = none -> ∃ W : Nat -> Nat -> LSt -> List V -> Hp -> Prop, (∃ m, W 0 m (clrS is σ) [] (upd H1 p (.lst []))) /\
 ∀ i m τ vs H, W i m τ vs H -> H p = some (.lst vs) /\ ((J.stop i H /\ Q (.ref p) H) \/ (J.go i H /\ ∀ x H', J.yld i H x H' -> g x τ H' fun τ2 H2 => tt τ2 H2 fun k H3 =>
  if k = true then te τ2 H3 fun y H4 => H4 p = some (.lst vs) /\ vs.length < sizeLine /\ ∃ m', m' < m /\ W (i + 1) m' τ2 (vs ++ [y]) (upd H4 p (.lst (vs ++ [y]))) else ∃ m', m' < m /\ W (i + 1) m' τ2 vs H3))
theorem inv_end {pins : List (Addr × Obj)} {σ σ5 : LSt} {H H5 : Hp} {s s5 : Shared} {fp : List Addr} {C : Addr} {h' : Heap} (I : Inv X pins σ H s) (hf : ∀ b ∈ fp, FpOk X pins H b) (hC : s.heap.objs.size <= C) (J : Inv (compCx X scope C s H fp) [] σ5 H5 s5)
  (hs : Heap.SameBut C s5.heap h') : Inv X pins σ H5 { s5 with heap := h' } := by
 have hfree : H5 C = none := J.free
 have ne : ∀ b o, s.heap.get? b = some o -> b ≠ C := fun b o e z => by
  have := Heap.lt_size e
  subst z
  exact absurd (Nat.lt_of_lt_of_le this hC) (Nat.lt_irrefl _)
 have u : Un (frs X.stack) fp H H5 s.heap h' := ⟨fun b o e n hb hx => hs.extBut b o (ne b o e) (J.base.keep b o e n hb hx), fun b o e n hb hx => by
   obtain ⟨sl, q⟩ := J.base.slot b o e n hb hx
   exact ⟨sl, hs.extBut b _ (ne b o e) q⟩, J.base.free, fun b o e hx => by
   obtain ⟨o', q⟩ := J.base.there b o e hx
   exact ⟨o', hs.extBut b _ (ne b o e) q⟩, J.base.tups, J.base.frzs, J.base.tbls⟩
 have hok : HOk X.prog X.w H5 h' := fun b o e => by
  refine (J.hok b o e).stay (fun c v hc q => hs.extBut c v ?_ q) (fun _ q => q) fun _ _ q => q
  rintro rfl
  rcases hc with z | z
  ·subst z; rw [hfree] at e; cases e
  ·rw [hfree] at z; cases z
 obtain ⟨hh, gg, dd, tt, os⟩ := s5
 have hos : os = s.os := J.os
 subst hos
 have fin := I.call (h' := h') (g' := gg) (d' := dd) (t' := tt) (ch := fp) u hok J.bare fun b hb => ⟨(hf b hb).2.2.2.1, (hf b hb).2.1, (hf b hb).2.2.2.2.1, (hf b hb).2.2.2.2.2⟩
 exact fin
theorem comp_emit {Y : Cx} {pins : List (Addr × Obj)} {τ : LSt} {H : Hp} {s : Shared} {p : Addr} {vs : List V} {α : Type} {k : Sem α} {Q : α -> Shared -> Prop} {E : Value -> Shared -> Prop} (he : PE Y elt te) (hx : ∀ e s', Y.xe e s' -> E e s') (I : Inv Y pins τ H s) (hw : te τ H fun y H4 => H4 p = some (.lst vs) /\ vs.length < sizeLine /\ ∀ s', Inv Y pins τ (upd H4 p (.lst (vs ++ [y]))) s' -> wpAny (model Y.prog Y.w) Y.A k Q E s') :
  wpAny (model Y.prog Y.w) Y.A (eval elt Y.env >>= fun x => call (.builtin "list.append") [.ref p, x] >>= fun _ => k) Q E s := by
 refine wpAny_bind (wpAny_mono (he pins s τ H _ I hw) (fun u s1 ⟨y, H4, I4, r4, hp, hz, q⟩ => ?_) hx)
 obtain ⟨z, its, n, r, hl, e⟩ := I4.lstM hp
 refine wpAny_bind (call_meets PySem.F.slot_list_append ⟨_, e, rfl⟩ PySem.F.entry_list_append (PySem.F.args_list_append_2 _ _) (PySem.list_append p its.toArray n u (by rw [List.size_toArray]; omega)) ⟨e, ?_⟩)
 refine q _ (I4.lset (its' := its ++ [u]) (t' := s1.toks) hp e (by simp) (r.append (.cons r4 .nil)) ?_)
 rw [List.length_append, List.length_singleton]
 omega
end
theorem comp_loop {Y : Cx} {e tg : Expr} {env : Env} {g : TG} {te : TE} {tt : TT} {it p : Addr} {fp : List Addr} {tn : Nat -> Heap -> Prop} {J : It} {R : Result -> Shared -> Prop} {iterPos : Pos} {rest : Sem Fin}
  (T : Turn Y.prog Y.w Y.K tg J fp it tn) (hc : Y.calm = true) (hE : Y.xe = fun _ _ => False) (hg : PG Y tg g) (hq : (Code.compLoop e 0 (.ref it) (.ref p) Y.env).quiet = true)
  (hden : ∀ (s : Shared) (Q : Fin -> Shared -> Prop), wpAny (model Y.prog Y.w) Y.A (pyNext (.ref it) >>= fun r => match r with
    | none => pure (.done .next)
    | some v => letOwnedTupleGo tg (.ref it) v >>= fun _ => assign tg Y.env v >>= fun _ => rest) Q (fun _ _ => False) s ->
   wpAny (model Y.prog Y.w) (Y.A.under (.compLoop e 0 (.ref it) (.ref p) Y.env)) ((model Y.prog Y.w).den (.compLoop e 0 (.ref it) (.ref p) Y.env)) Q (fun _ _ => False) s)
  (hrest : ∀ (τ : LSt) (H : Hp) (s : Shared) (pins : List (Addr × Obj)) (vs : List V) (N : Hp -> List V -> Prop) (Q : Fin -> Shared -> Prop), Inv Y pins τ H s ->
   (tt τ H fun k H3 => if k = true then te τ H3 fun y H4 => H4 p = some (.lst vs) /\ vs.length < sizeLine /\ N (upd H4 p (.lst (vs ++ [y]))) (vs ++ [y]) else N H3 vs) ->
   (∀ s' H' ws, Inv Y pins τ H' s' -> N H' ws -> Q (.again (.compLoop e 0 (.ref it) (.ref p) Y.env)) s') -> wpAny (model Y.prog Y.w) Y.A rest Q (fun _ _ => False) s)
  (W : Nat -> Nat -> LSt -> List V -> Hp -> Prop) {Qe : Hp -> Prop}
  (step : ∀ i m τ vs H, W i m τ vs H -> H p = some (.lst vs) /\ ((J.stop i H /\ Qe H) \/ (J.go i H /\ ∀ x H', J.yld i H x H' -> g x τ H' fun τ2 H2 => tt τ2 H2 fun k H3 =>
   if k = true then te τ2 H3 fun y H4 => H4 p = some (.lst vs) /\ vs.length < sizeLine /\ ∃ m', m' < m /\ W (i + 1) m' τ2 (vs ++ [y]) (upd H4 p (.lst (vs ++ [y]))) else ∃ m', m' < m /\ W (i + 1) m' τ2 vs H3)))
  (hR : ∀ τ H s, Inv Y [] τ H s -> Qe H -> R (.ok .next) s) {s : Shared} {τ : LSt} {H : Hp} {vs : List V} {i m : Nat} (I : Inv Y [] τ H s) (st : tn i s.heap) (fr : ∀ b ∈ fp, FpOk Y [] H b) (w : W i m τ vs H) :
  codeAny (model Y.prog Y.w) Y.A (.compLoop e 0 (.ref it) (.ref p) Y.env) R s := by
 have stat : ∀ {H' : Hp}, (∀ b ∈ fp, H' b = none) -> ∀ b ∈ fp, FpOk Y [] H' b := fun hn b hb => ⟨hn b hb, (fr b hb).2⟩
 refine codeAny_loop hq (fun n s' => ∃ i τ' vs' H', Inv Y [] τ' H' s' /\ tn i s'.heap /\ (∀ b ∈ fp, H' b = none) /\ W i n τ' vs' H') (fun n s3 hI => ?_) m ⟨i, τ, vs, H, I, st, fun b hb => (fr b hb).1, w⟩
 obtain ⟨i, τ3, vs3, H3, I3, st3, fr3, w3⟩ := hI
 refine wpAny_mono (hden s3 _ ?_) (fun _ _ q => q) (fun _ _ q => q.elim)
 obtain ⟨hp, hs⟩ := step i n τ3 vs3 H3 w3
 rcases hs with ⟨stop, qe⟩ | ⟨go, hs⟩
 ·refine wpAny_bind (thn (T.done Y rfl rfl rfl hc i [] s3 τ3 H3 (fun _ _ => False) I3 (stat fr3) st3 stop) fun r s4 ⟨hr, I4⟩ => ?_)
  subst hr
  exact wpAny_pure (hR τ3 H3 s4 I4 qe)
 ·refine wpAny_bind (thn (T.item Y rfl rfl rfl hc i [] s3 τ3 H3 (fun _ _ => False) I3 (stat fr3) st3 go) fun r s4 ⟨u, hr, h4⟩ => ?_)
  subst hr
  refine wpAny_bind (thn h4 fun _ s5 ⟨x, H5, I5, r5, y5, st5, fr5⟩ => ?_)
  have I5' := I5.pinned (stat fr5) (T.obj _ _ st5)
  have hg' := hg _ s5 τ3 H5 x u _ I5' r5 (hs x H5 y5)
  rw [hE] at hg'
  refine wpAny_bind (thn hg' fun _ s6 ⟨τ6, H6, I6, q6⟩ => ?_)
  refine hrest τ6 H6 s6 _ vs3 (fun H' ws => ∃ m', m' < n /\ W (i + 1) m' τ6 ws H') _ I6 q6 fun s7 H7 ws I7 ⟨m', hm, w7⟩ => ?_
  refine ⟨rfl, m', hm, i + 1, τ6, ws, H7, I7.unpinned, T.keep _ _ _ st5 fun b hb o e => (I7.pin (b, o) (List.mem_append_right _ (List.mem_append_right _ (mem_pinsAt hb e)))).1, fun b hb => ?_, w7⟩
  obtain ⟨o, e, d⟩ := T.obj _ _ st5 b hb
  exact (I7.pin (b, o) (List.mem_append_right _ (List.mem_append_right _ (mem_pinsAt hb e)))).2.1
end Pu
namespace Pu
open PySem PySem.Spec PyProof.Rows L2
section
variable {X : Cx} {scope : Scope} {is : List Nat} {elt tg iter c : Expr} {pos : Pos} {wi : TI} {g : TG} {te : TE} {tt : TT}
theorem comp_core {use : Option (Value -> Sem Unit)} {Qf : Value -> Shared -> Prop} {ppos : Pos} {pins : List (Addr × Obj)} {s : Shared} {σ : LSt} {H : Hp} {Q : VK} {ifs : List Expr} {rest : Env -> Value -> Value -> Sem Fin} (S : CScope X scope is) (hc : X.calm = true) (hi : L2.PI X tg iter wi) (hg : ∀ C s₀ H₀ fp, PG (compCx X scope C s₀ H₀ fp) tg g)
  (hquiet : ∀ it acc env, (Code.compLoop (.ListComp elt [⟨tg, iter, ifs, 0⟩] scope pos) 0 it acc env).quiet = true)
  (hden : ∀ C s₀ H₀ fp it p (s : Shared) (Q : Fin -> Shared -> Prop), wpAny (model X.prog X.w) X.A (pyNext (.ref it) >>= fun r => match r with
    | none => pure (.done .next)
    | some v => letOwnedTupleGo tg (.ref it) v >>= fun _ => assign tg (compCx X scope C s₀ H₀ fp).env v >>= fun _ => rest (compCx X scope C s₀ H₀ fp).env (.ref it) (.ref p)) Q (fun _ _ => False) s ->
   wpAny (model X.prog X.w) (X.A.under (.compLoop (.ListComp elt [⟨tg, iter, ifs, 0⟩] scope pos) 0 (.ref it) (.ref p) (compCx X scope C s₀ H₀ fp).env)) ((model X.prog X.w).den (.compLoop (.ListComp elt [⟨tg, iter, ifs, 0⟩] scope pos) 0 (.ref it) (.ref p) (compCx X scope C s₀ H₀ fp).env)) Q (fun _ _ => False) s)
  (hrest : ∀ C s₀ H₀ fp it p (τ : LSt) (H : Hp) (s : Shared) (pins : List (Addr × Obj)) (vs : List V) (N : Hp -> List V -> Prop) (Q : Fin -> Shared -> Prop), Inv (compCx X scope C s₀ H₀ fp) pins τ H s ->
   (tt τ H fun k H3 => if k = true then te τ H3 fun y H4 => H4 p = some (.lst vs) /\ vs.length < sizeLine /\ N (upd H4 p (.lst (vs ++ [y]))) (vs ++ [y]) else N H3 vs) ->
   (∀ s' H' ws, Inv (compCx X scope C s₀ H₀ fp) pins τ H' s' -> N H' ws -> Q (.again (.compLoop (.ListComp elt [⟨tg, iter, ifs, 0⟩] scope pos) 0 (.ref it) (.ref p) (compCx X scope C s₀ H₀ fp).env)) s') ->
   wpAny (model X.prog X.w) X.A (rest (compCx X scope C s₀ H₀ fp).env (.ref it) (.ref p)) Q (fun _ _ => False) s)
  (hs : ∀ x, foldedSetIterable iter X.env x = pure x) (I : Inv X pins σ H s) (h : tLC is wi g tt te σ H Q)
  (hfin : ∀ C p H5 s5 m5 s3 H3 fp τ, s3.heap.objs.size <= C -> Inv X pins σ H3 s3 -> (∀ b ∈ fp, FpOk X pins H3 b) -> Inv (compCx X scope C s3 H3 fp) [] τ H5 s5 -> s5.heap.Ns C m5 -> Q (.ref p) H5 -> compPost (model X.prog X.w) X.A X.xe use Qf (.ref p) C (.ok .next) s5) :
  wpAny (model X.prog X.w) X.A (comprehension (.ListComp elt [⟨tg, iter, ifs, 0⟩] scope pos) scope X.env ppos (newList []) false (eval iter X.env) use) Qf X.xe s := by
 refine wpAny_comprehension_free (use := use) rfl hs (closureFor_eq (S.cells I.ok)) S.kind S.names ?_
 refine thn (hi pins s σ H _ I h) fun v s1 h1 => thn h1 fun itv s2 h2 => ?_
 obtain ⟨it, fp, tn, J, H2, e, I2, T, st2, f2, hW⟩ := h2
 subst e
 refine wpAny_newObj_type (wp_newEnv fun h₁ hns₁ hkp hcl₁ => ?_)
 have I3 : Inv X pins σ (upd H2 s2.heap.objs.size (.lst [])) { s2 with heap := s2.heap.push { cls := .type "list", data := .seq ([] : List Value).toArray } } := I2.lnew (t' := s2.toks) .nil (Nat.zero_le _)
 obtain ⟨W, ⟨m, w0⟩, step⟩ := hW s2.heap.objs.size I2.fresh
 have hob : ∀ b ∈ fp, b < s2.heap.objs.size := fun b hb => let ⟨o, e, _⟩ := T.obj 0 _ st2 b hb; Heap.lt_size e
 have hfp : ∀ b ∈ fp, FpOk X pins (upd H2 s2.heap.objs.size (.lst [])) b := fun b hb => ⟨by rw [upd_ne (Nat.ne_of_lt (hob b hb))]; exact (f2 b hb).1, (f2 b hb).2⟩
 have hk : ∀ b o, (s2.heap.push { cls := .type "list", data := .seq ([] : List Value).toArray }).get? b = some o -> h₁.get? b = some o := hkp
 have Ic := comp_start (t' := s2.toks) S hc I3 hfp (fun b hb => Nat.lt_of_lt_of_le (hob b hb) (by rw [Heap.size_push]; exact Nat.le_succ _)) hns₁ hk hcl₁
 have st4 : tn 0 h₁ := T.keep 0 _ _ st2 fun b _ o e => hk b o (Heap.get?_push_of_some _ e)
 have fr4 : ∀ b ∈ fp, FpOk (compCx X scope _ _ _ fp) [] (upd H2 s2.heap.objs.size (.lst [])) b := fun b hb => ⟨(hfp b hb).1, (Ic.ok.exf b hb).1, Ic.ok.exfs b hb, .inl hb, fun x c e => (Ic.ok.exf b hb).2 x c e, fun p hp => absurd (show p ∈ ([] : List (Addr × Obj)) from hp) (by simp)⟩
 have loop := comp_loop (Y := compCx X scope _ _ _ fp) (e := .ListComp elt [⟨tg, iter, ifs, 0⟩] scope pos) (env := X.env) (iterPos := pos) T rfl rfl (hg _ _ _ fp) (hquiet _ _ _) (hden _ _ _ fp it s2.heap.objs.size) (hrest _ _ _ fp it s2.heap.objs.size) W step
  (R := compPost (model X.prog X.w) X.A X.xe use Qf (.ref s2.heap.objs.size) (s2.heap.push { cls := .type "list", data := .seq ([] : List Value).toArray }).objs.size) (fun τ H5 s5 I5 q5 => by
   obtain ⟨m5, hn5, _⟩ := I5.loc
   exact hfin _ _ H5 s5 m5 _ _ fp τ (Nat.le_refl _) I3 hfp I5 hn5 q5) Ic st4 fr4 w0
 exact codeAny_compStart_list loop (T.self _ 0 _ _ _ st4 loop)
theorem quiet_comp {e : Expr} {it acc : Value} {env : Env} : (Code.compLoop e 0 it acc env).quiet = true := rfl
theorem den0 {Y : Cx} {it p : Addr} {s : Shared} {Q : Fin -> Shared -> Prop} (h : wpAny (model X.prog X.w) X.A (pyNext (.ref it) >>= fun r => match r with
        | none => pure (.done .next)
        | some v => letOwnedTupleGo tg (.ref it) v >>= fun _ => assign tg Y.env v >>= fun _ => (eval elt Y.env >>= fun x => call (.builtin "list.append") [.ref p, x] >>= fun _ => again (.compLoop (.ListComp elt [⟨tg, iter, [], 0⟩] scope pos) 0 (.ref it) (.ref p) Y.env))) Q (fun _ _ => False) s) :
      wpAny (model X.prog X.w) (X.A.under (.compLoop (.ListComp elt [⟨tg, iter, [], 0⟩] scope pos) 0 (.ref it) (.ref p) Y.env)) ((model X.prog X.w).den (.compLoop (.ListComp elt [⟨tg, iter, [], 0⟩] scope pos) 0 (.ref it) (.ref p) Y.env)) Q (fun _ _ => False) s := by
 show wpAny _ _ ((compTurn (.ListComp elt [⟨tg, iter, [], 0⟩] scope pos) 0 (.ref it) (.ref p) Y.env).onRaise (fun x => do noteFrame x Y.env; theTreesLotGoes x)) _ _ s
 refine wpAny_noted ?_
 rw [compTurn_list1']
 exact wpAny_bind (wpAny_standAt (wpAny_mono h (fun _ _ q => q) fun _ _ q => q.elim))
theorem den1 {Y : Cx} {it p : Addr} {s : Shared} {Q : Fin -> Shared -> Prop} (h : wpAny (model X.prog X.w) X.A (pyNext (.ref it) >>= fun r => match r with
        | none => pure (.done .next)
        | some v => letOwnedTupleGo tg (.ref it) v >>= fun _ => assign tg Y.env v >>= fun _ => (isTrue c Y.env (eval c Y.env) >>= fun ok => if ok = true then (eval elt Y.env >>= fun x => call (.builtin "list.append") [.ref p, x] >>= fun _ => again (.compLoop (.ListComp elt [⟨tg, iter, [c], 0⟩] scope pos) 0 (.ref it) (.ref p) Y.env))
          else again (.compLoop (.ListComp elt [⟨tg, iter, [c], 0⟩] scope pos) 0 (.ref it) (.ref p) Y.env))) Q (fun _ _ => False) s) :
      wpAny (model X.prog X.w) (X.A.under (.compLoop (.ListComp elt [⟨tg, iter, [c], 0⟩] scope pos) 0 (.ref it) (.ref p) Y.env)) ((model X.prog X.w).den (.compLoop (.ListComp elt [⟨tg, iter, [c], 0⟩] scope pos) 0 (.ref it) (.ref p) Y.env)) Q (fun _ _ => False) s := by
 show wpAny _ _ ((compTurn (.ListComp elt [⟨tg, iter, [c], 0⟩] scope pos) 0 (.ref it) (.ref p) Y.env).onRaise (fun x => do noteFrame x Y.env; theTreesLotGoes x)) _ _ s
 refine wpAny_noted ?_
 rw [compTurn_list2]
 exact wpAny_bind (wpAny_standAt (wpAny_mono h (fun _ _ q => q) fun _ _ q => q.elim))
def tAlways : TT := fun _ H Q => Q true H
theorem rest0 {Y : Cx} (hY : Y.xe = fun _ _ => False) (he : PE Y elt te) {it p : Addr} (τ : LSt) (H : Hp) (s : Shared) (pins : List (Addr × Obj)) (vs : List V) (N : Hp -> List V -> Prop) (Q : Fin -> Shared -> Prop) (I : Inv Y pins τ H s)
  (h : tAlways τ H fun k H3 => if k = true then te τ H3 fun y H4 => H4 p = some (.lst vs) /\ vs.length < sizeLine /\ N (upd H4 p (.lst (vs ++ [y]))) (vs ++ [y]) else N H3 vs)
  (mono : ∀ (Q Q' : VK), (∀ v H', Q v H' -> Q' v H') -> te τ H Q -> te τ H Q')
  (q : ∀ s' H' ws, Inv Y pins τ H' s' -> N H' ws -> Q (.again (.compLoop (.ListComp elt [⟨tg, iter, [], 0⟩] scope pos) 0 (.ref it) (.ref p) Y.env)) s') :
  wpAny (model Y.prog Y.w) Y.A (eval elt Y.env >>= fun x => call (.builtin "list.append") [.ref p, x] >>= fun _ => again (.compLoop (.ListComp elt [⟨tg, iter, [], 0⟩] scope pos) 0 (.ref it) (.ref p) Y.env)) Q (fun _ _ => False) s := by
 have h' : te τ H fun y H4 => H4 p = some (.lst vs) /\ vs.length < sizeLine /\ N (upd H4 p (.lst (vs ++ [y]))) (vs ++ [y]) := h
 exact comp_emit he (by rw [hY]; exact fun _ _ z => z) I (mono _ _ (fun y H4 ⟨a, b, n⟩ => ⟨a, b, fun s' I' => wpAny_pure (q s' _ _ I' n)⟩) h')
end
end Pu
namespace Pu
open PySem PySem.Spec PyProof.Rows L2
section
variable {K : PySem.W.Frag} {B A : List Addr} {H : Hp} {st st' : PSt} {σ : LSt}
theorem clr_len (is : List Nat) : ∀ st : PSt, (clr is st).length = st.length := by
 induction is with
 | nil => exact fun _ => rfl
 | cons i is ih => intro st; show (clr is (st.set i none)).length = _; rw [ih, List.length_set]
theorem clr_get (is : List Nat) : ∀ (st : PSt) (j : Nat) (x : Sl), (clr is st)[j]? = some (some x) -> st[j]? = some (some x) /\ j ∉ is := by
 induction is with
 | nil => exact fun σ j v h => ⟨h, by simp⟩
 | cons i is ih =>
  intro σ j v h
  obtain ⟨h1, h2⟩ := ih (σ.set i none) j v h
  rw [List.getElem?_set] at h1
  by_cases e : i = j
  ·subst e
   rw [if_pos rfl] at h1
   split at h1 <;> cases h1
  ·rw [if_neg e] at h1
   exact ⟨h1, fun z => (List.mem_cons.mp z).elim (fun z => e z.symm) h2⟩
theorem clrS_out (is : List Nat) : ∀ (σ : LSt) (j : Nat), j ∉ is -> (clrS is σ)[j]? = σ[j]? := by
 induction is with
 | nil => exact fun σ j _ => rfl
 | cons i is ih =>
  intro σ j h
  show (clrS is (σ.set i none))[j]? = _
  rw [ih _ j fun z => h (List.mem_cons_of_mem _ z), List.getElem?_set, if_neg (show ¬ i = j from fun z => h (z ▸ List.mem_cons_self))]
theorem RS.clr (is : List Nat) (r : RS K B A H st σ) : RS K B A H (Pu.clr is st) (clrS is σ) where
 len := by rw [clr_len, clrS_len, r.len]
 own := r.own
 dis := r.dis
 val := fun i d e => by
  obtain ⟨e1, h⟩ := clr_get is st i _ e
  rw [clrS_out is σ i h]
  exact r.val i d e1
 lst := fun i kk xs e => by
  obtain ⟨e1, h⟩ := clr_get is st i _ e
  obtain ⟨a, o, vs, e2, m, h1, ko, q, u⟩ := r.lst i kk xs e1
  refine ⟨a, o, vs, by rw [clrS_out is σ i h]; exact e2, m, h1, ko, q, fun j k' ys ej ej2 => ?_⟩
  obtain ⟨e3, h3⟩ := clr_get is st j _ ej
  rw [clrS_out is σ j h3] at ej2
  exact u j k' ys e3 ej2
theorem RS.weaken (r : RS K B A H st σ) (hl : st'.length = st.length) (h : ∀ (j : Nat) (x : Sl), st'[j]? = some (some x) -> st[j]? = some (some x)) : RS K B A H st' σ where
 len := hl.trans r.len
 own := r.own
 dis := r.dis
 val := fun i d e => r.val i d (h i _ e)
 lst := fun i kk xs e => by
  obtain ⟨a, o, vs, e2, m, h1, ko, q, u⟩ := r.lst i kk xs (h i _ e)
  exact ⟨a, o, vs, e2, m, h1, ko, q, fun j k' ys ej ej2 => u j k' ys (h j _ ej) ej2⟩
theorem mem_mid {A B : List Addr} {p b : Addr} : b ∈ A ++ p :: B ↔ b = p \/ b ∈ A ++ B := by
 simp only [List.mem_append, List.mem_cons]
 constructor
 ·rintro (h | h | h)
  ·exact .inr (.inl h)
  ·exact .inl h
  ·exact .inr (.inr h)
 ·rintro (h | h | h)
  ·exact .inr (.inl h)
  ·exact .inl h
  ·exact .inr (.inr h)
theorem same_mid {p : Addr} {o : HO} (hp : H p = none) : Same (hide (A ++ B) H) (hide (A ++ p :: B) (upd H p o)) := fun b u q => by
 have q1 := hide_sub _ _ _ _ q
 have hb : b ∉ A ++ B := fun z => by rw [hide_in z] at q; cases q
 have ne : b ≠ p := ne_of_none q1 hp
 rw [hide_out (show b ∉ A ++ p :: B from fun z => (mem_mid.mp z).elim ne hb), upd_ne ne]
 exact q1
theorem RS.grow (r : RS K B A H st σ) {p : Addr} {vs : List V} (hp : H p = none) : RS K (p :: B) A (upd H p (.lst vs)) st σ where
 len := r.len
 own := fun a ha => by
  by_cases e : a = p
  ·subst e; rw [upd_same]; rfl
  ·rw [upd_ne e]; exact r.own a ((mem_mid.mp ha).resolve_left e)
 dis := fun a ha hb => by
  rcases List.mem_cons.mp hb with rfl | hb
  ·exact r.own.free hp (List.mem_append_left _ ha)
  ·exact r.dis a ha hb
 val := fun j d' e => let ⟨u, e1, q⟩ := r.val j d' e; ⟨u, e1, q.mono (same_mid hp)⟩
 lst := fun j kk xs e => by
  obtain ⟨a, o, vs', e1, m, h1, ko, q, u⟩ := r.lst j kk xs e
  exact ⟨a, o, vs', e1, m, by rw [upd_ne (ne_of_none h1 hp)]; exact h1, ko, q.mono (same_mid hp), u⟩
theorem RS.put {p : Addr} (r : RS K (p :: B) A H st σ) {vs : List V} : RS K (p :: B) A (upd H p (.lst vs)) st σ := by
 have hh : hide (A ++ p :: B) (upd H p (.lst vs)) = hide (A ++ p :: B) H := hide_upd (mem_mid.mpr (.inl rfl))
 refine ⟨r.len, fun b hb => ?_, r.dis, fun j d e => by rw [hh]; exact r.val j d e, fun j kk xs e => ?_⟩
 ·by_cases e : b = p
  ·subst e; rw [upd_same]; rfl
  ·rw [upd_ne e]; exact r.own b hb
 ·obtain ⟨a, o, vs', e1, m, h1, ko, q, u⟩ := r.lst j kk xs e
  refine ⟨a, o, vs', e1, m, ?_, ko, by rw [hh]; exact q, u⟩
  have : a ≠ p := fun z => r.dis a m (z ▸ List.mem_cons_self)
  rw [upd_ne this]; exact h1
end
def TgSub (is : List Nat) (t : Tg) : Prop := ∀ d st s2, t d st = .ok s2 -> s2.length = st.length /\ ∀ (j : Nat), j ∉ is -> s2[j]? = st[j]?
theorem sub_N {i : Nat} : TgSub [i] (tgN i) := fun d st s2 h => by
 cases h
 refine ⟨List.length_set, fun j hj => ?_⟩
 rw [List.getElem?_set, if_neg fun z => hj (by simp [z])]
def ndB : List Str -> Bool
 | [] => true
 | x :: r => !r.contains x && ndB r
theorem nd_of : ∀ {l : List Str}, ndB l = true -> l.Nodup
 | [], _ => .nil
 | x :: r, h => by
  unfold ndB at h
  simp only [Bool.and_eq_true, Bool.not_eq_true'] at h
  exact List.nodup_cons.mpr ⟨fun z => by rw [List.contains_iff_mem.mpr z] at h; exact Bool.noConfusion h.1, nd_of h.2⟩
def chkC (scope : Scope) (outer : List (Str × NameKind)) (N : List Str) (is : List Nat) : Bool :=
 scope.kind == .function && ndB (scope.names.map (·.1)) && scope.names.all (fun x => x.2 != .free || outer.lookup x.1 == some .cell || outer.lookup x.1 == some .free) &&
  (List.range N.length).all fun i => (scope.names.lookup (N.getD i "") != some .local && scope.names.lookup (N.getD i "") != some .cell) || is.contains i
theorem CScope.of {X : Cx} {scope : Scope} {is : List Nat} (h : chkC scope X.env.scope.names X.N is = true) : CScope X scope is := by
 unfold chkC at h
 simp only [Bool.and_eq_true, List.all_eq_true] at h
 obtain ⟨⟨⟨h1, h0⟩, h2⟩, h3⟩ := h
 refine ⟨by simpa using h1, nd_of h0, fun x hx hf => ?_, fun i x e hl => ?_⟩
 ·have := h2 x hx
  simp only [Bool.or_eq_true, bne_iff_ne, ne_eq, beq_iff_eq] at this
  rcases this with (z | z) | z
  ·exact absurd hf z
  ·exact .inl z
  ·exact .inr z
 ·have hi : i < X.N.length := (List.getElem?_eq_some_iff.mp e).1
  have := h3 i (List.mem_range.mpr hi)
  rw [List.getD_eq_getElem?_getD, e] at this
  simp only [Option.getD_some, Bool.or_eq_true, Bool.and_eq_true, bne_iff_ne, ne_eq] at this
  rcases this with ⟨z1, z2⟩ | z
  ·rcases hl with hl | hl
   ·exact absurd hl z1
   ·exact absurd hl z2
  ·simpa using z
theorem tI_mono {K : PySem.W.Frag} {B : List Addr} {f : Ex} {τ : LSt} {H : Hp} (Q Q' : VK) (m : ∀ v H', Q v H' -> Q' v H') (h : tI K B f τ H Q) : tI K B f τ H Q' :=
 let ⟨A, st, d, rs, hd, q⟩ := h; ⟨A, st, d, rs, hd, fun v H' s r => m v H' (q v H' s r)⟩
def tIx (K : PySem.W.Frag) (f : Ex) : TE := fun τ H Q => ∃ B, tI K B f τ H Q
def tTx (K : PySem.W.Frag) (f : Ex) : TT := fun τ H Q => ∃ B, tT K B f τ H Q
def tGx (K : PySem.W.Frag) (t : Tg) : TG := fun v τ H Q => ∃ B, tG K B t v τ H Q
theorem pe_x {X : Cx} {e : Expr} {f : Ex} (h : ∀ B, PE X e (tI X.K B f)) : PE X e (tIx X.K f) := fun pins s σ H Q I ⟨B, q⟩ => h B pins s σ H Q I q
theorem pt_x {X : Cx} {e : Expr} {f : Ex} (h : ∀ B, PT X e (tT X.K B f)) : PT X e (tTx X.K f) := fun pins s σ H Q I ⟨B, q⟩ => h B pins s σ H Q I q
theorem pg_x {X : Cx} {e : Expr} {t : Tg} (h : ∀ B, PG X e (tG X.K B t)) : PG X e (tGx X.K t) := fun pins s σ H v u Q I r ⟨B, q⟩ => h B pins s σ H v u Q I r q
theorem tIx_mono {K : PySem.W.Frag} {f : Ex} {τ : LSt} {H : Hp} (Q Q' : VK) (m : ∀ v H', Q v H' -> Q' v H') (h : tIx K f τ H Q) : tIx K f τ H Q' := let ⟨B, q⟩ := h; ⟨B, tI_mono Q Q' m q⟩
theorem lc_of {K : PySem.W.Frag} {B : List Addr} {is : List Nat} {t : Tg} {it : ItE} {c f : Ex} {tt : TT} {σ : LSt} {H : Hp} (hsub : TgSub is t)
  (htt : ∀ τ H Q, tTx K c τ H Q -> tt τ H Q) {A : List Addr} {st : PSt} {xs ys : List D} (rs : RS K B A H st σ) (hx : it st = .ok xs) (hl : xs.length <= big) (hy : compR t c f (clr is st) xs = .ok ys) {Q : VK}
  (q : ∀ p vs H1 H', Same H H1 -> H1 p = none -> Same H1 H' -> H' p = some (.lst vs) -> Reps K (hide (A ++ p :: B) H') ys vs -> Q (.ref p) H') : tLC is (tIt K B it) (tGx K t) tt (tIx K f) σ H Q := by
 refine ⟨A, st, xs, rs, hx, fun J H1 s1 ito p hp => ?_⟩
 have rs1 := rs.mono s1
 refine ⟨fun i m τ vs H' => m = xs.length - i /\ i <= xs.length /\ vs.length <= i /\ H' p = some (.lst vs) /\ Same H1 H' /\ RS K (p :: B) A H' (clr is st) τ /\
   ∃ ds rest, Reps K (hide (A ++ p :: B) H') ds vs /\ compR t c f (clr is st) (xs.drop i) = .ok rest /\ ds ++ rest = ys, ⟨xs.length, by simp, Nat.zero_le _, Nat.zero_le _, upd_same, same_upd hp, (rs1.clr is).grow hp, [], ys, .nil, by rw [List.drop_zero]; exact hy, rfl⟩, ?_⟩
 rintro i m τ vs H' ⟨rfl, hi, hvl, hpv, s2, rs2, ds, rest, rds, hr, hcat⟩
 refine ⟨hpv, ?_⟩
 have mv : ∀ a, a ∈ (p :: A) ++ B ↔ a ∈ A ++ p :: B := fun a => by
  rw [mem_mid]
  exact List.mem_cons
 have le : Le A H1 (p :: A) H' := fun b u z => by
  have z1 := hide_sub _ _ _ _ z
  have hb : b ∉ A := fun w => by rw [hide_in w] at z; cases z
  have ne : b ≠ p := ne_of_none z1 hp
  rw [hide_out (show b ∉ p :: A from fun w => (List.mem_cons.mp w).elim ne hb)]
  exact s2 b u z1
 obtain ⟨i1, i2⟩ := ito (p :: A) H' le (fun a ha => rs2.own a ((mv a).mp ha)) i
 by_cases hlt : i < xs.length
 ·have hd' : xs[i]? = some xs[i] := List.getElem?_eq_getElem hlt
  obtain ⟨go, yl⟩ := i1 _ hd'
  rw [List.drop_eq_getElem_cons hlt] at hr
  obtain ⟨st2, hst2, h5⟩ := R.ok_of hr
  obtain ⟨cb, hcb, h6⟩ := R.ok_of h5
  obtain ⟨k, rfl, h7⟩ := onB_of h6
  refine .inr ⟨go, fun x H2 y => ?_⟩
  obtain ⟨sm3, rx⟩ := yl x H2 y
  have hpv := sm3 _ _ hpv
  have s2 := s2.trans sm3
  have rs2 := rs2.mono sm3
  have rds := rds.mono (Same.hide sm3)
  have rx' : Rep K (hide (A ++ p :: B) H2) xs[i] x := rx.mono (hide_more fun a ha => (mv a).mpr ha)
  obtain ⟨sl, sg⟩ := hsub _ _ _ hst2
  have back : ∀ (j : Nat) (z : Sl), (clr is st)[j]? = some (some z) -> st2[j]? = some (some z) := fun j z ez => by rw [sg j (clr_get is st j z ez).2]; exact ez
  refine ⟨p :: B, A, clr is st, xs[i], st2, rs2, rx', hst2, fun τ2 rs3 => htt _ _ _ ⟨p :: B, A, st2, k, rs3, hcb, fun H3 s3 => ?_⟩⟩
  cases k with
  | true =>
   obtain ⟨y', hy', h8⟩ := R.ok_of h7
   obtain ⟨rest', hrest', h9⟩ := R.ok_of h8
   cases h9
   refine ⟨p :: B, A, st2, y', rs3.mono s3, hy', fun v H4 s4 r4 => ⟨s4 _ _ (s3 _ _ hpv), ?_, xs.length - (i + 1), by omega, rfl, hlt, by rw [List.length_append, List.length_singleton]; omega, upd_same, ?_, ?_, ds ++ [y'], rest', ?_, hrest', by rw [List.append_assoc]; exact hcat⟩⟩
   ·have : sizeLine = 16777216 := by decide
    have hbg := big_eq
    omega
   ·exact fun b u z => by rw [upd_ne (ne_of_none z hp)]; exact s4 _ _ (s3 _ _ (s2 b u z))
   ·exact (((rs3.mono s3).mono s4).weaken (by rw [sl]) back).put
   ·rw [hide_upd (mem_mid.mpr (.inl rfl))]
    exact (rds.mono (Same.hide (s3.trans s4))).append (.cons r4 .nil)
  | false => exact ⟨xs.length - (i + 1), by omega, rfl, hlt, by omega, s3 _ _ hpv, s2.trans s3, (rs3.mono s3).weaken (by rw [sl]) back, ds, rest, rds.mono (Same.hide s3), h7, hcat⟩
 ·have e : i = xs.length := by omega
  subst e
  rw [List.drop_length] at hr
  cases hr
  rw [List.append_nil] at hcat
  subst hcat
  exact .inl ⟨i2 (Nat.le_refl _), q p vs H1 H' s1 hp s2 hpv rds⟩
section
variable {X : Cx} {B : List Addr} {scope : Scope} {elt tg iter c : Expr} {pos : Pos} {t : Tg} {it : ItE} {f u : Ex}
theorem rest1 {Y : Cx} {te : TE} {tt : TT} (hY : Y.xe = fun _ _ => False) (he : PE Y elt te) (ht : PT Y c tt) {it p : Addr} (τ : LSt) (H : Hp) (s : Shared) (pins : List (Addr × Obj)) (vs : List V) (N : Hp -> List V -> Prop) (Q : Fin -> Shared -> Prop) (I : Inv Y pins τ H s)
  (h : tt τ H fun k H3 => if k = true then te τ H3 fun y H4 => H4 p = some (.lst vs) /\ vs.length < sizeLine /\ N (upd H4 p (.lst (vs ++ [y]))) (vs ++ [y]) else N H3 vs)
  (mono : ∀ H (Q Q' : VK), (∀ v H', Q v H' -> Q' v H') -> te τ H Q -> te τ H Q')
  (q : ∀ s' H' ws, Inv Y pins τ H' s' -> N H' ws -> Q (.again (.compLoop (.ListComp elt [⟨tg, iter, [c], 0⟩] scope pos) 0 (.ref it) (.ref p) Y.env)) s') :
  wpAny (model Y.prog Y.w) Y.A (isTrue c Y.env (eval c Y.env) >>= fun ok => if ok = true then (eval elt Y.env >>= fun x => call (.builtin "list.append") [.ref p, x] >>= fun _ => again (.compLoop (.ListComp elt [⟨tg, iter, [c], 0⟩] scope pos) 0 (.ref it) (.ref p) Y.env))
        else again (.compLoop (.ListComp elt [⟨tg, iter, [c], 0⟩] scope pos) 0 (.ref it) (.ref p) Y.env)) Q (fun _ _ => False) s := by
 have ht' := ht pins s τ H _ I h
 rw [hY] at ht'
 refine wpAny_bind (thn ht' fun k s1 ⟨H1, I1, q1⟩ => ?_)
 cases k with
 | true =>
  rw [if_pos rfl]
  have q1 : te τ H1 fun y H4 => H4 p = some (.lst vs) /\ vs.length < sizeLine /\ N (upd H4 p (.lst (vs ++ [y]))) (vs ++ [y]) := q1
  exact comp_emit he (by rw [hY]; exact fun _ _ z => z) I1 (mono _ _ _ (fun y H4 ⟨a, b, n⟩ => ⟨a, b, fun s' I' => wpAny_pure (q s' _ _ I' n)⟩) q1)
 | false =>
  rw [if_neg Bool.false_ne_true]
  exact wpAny_pure (q s1 H1 vs I1 q1)
theorem comp_e {σ : LSt} {H : Hp} {Q : VK} {st : PSt} {A : List Addr} {ys : List D} {p : Addr} {vs : List V} {H1 H' : Hp} (rs : RS X.K B A H st σ) (q : ∀ v H', Same H H' -> Rep X.K (hide (A ++ B) H') (.lst ys) v -> Q v H') (s1 : Same H H1) (hp : H1 p = none) (s2 : Same H1 H')
  (hv : H' p = some (.lst vs)) (r : Reps X.K (hide (A ++ p :: B) H') ys vs) : Q (.ref p) H' :=
 q _ H' (s1.trans s2) (rep_lst.mpr ⟨p, vs, rfl, SqL.of (by rw [hide_out ((rs.own.mono s1).free hp)]; exact hv), r.mono (hide_more fun a ha => mem_mid.mpr (.inr ha))⟩)
theorem i_comp (is : List Nat) (hsub : TgSub is t) (S : CScope X scope is) (hi : L2.PI X tg iter (tIt X.K B it)) (hg : ∀ (B : List Addr) (C : Addr) (s₀ : Shared) (H₀ : Hp) (fp : List Addr), PG (compCx X scope C s₀ H₀ fp) tg (tG X.K B t))
  (he : ∀ (B : List Addr) (C : Addr) (s₀ : Shared) (H₀ : Hp) (fp : List Addr), PE (compCx X scope C s₀ H₀ fp) elt (tI X.K B f)) (hc : X.calm = true) (hs : ∀ x, foldedSetIterable iter X.env x = pure x := by intro _; rfl) :
  PE X (.ListComp elt [⟨tg, iter, [], 0⟩] scope pos) (tI X.K B (eComp is t it eTrue f)) := by
 intro pins s σ H Q I h
 obtain ⟨A, st, d, rs, hd, q⟩ := h
 obtain ⟨xs, hx, h2⟩ := R.ok_of hd
 obtain ⟨hl, h3⟩ := guardR_of h2
 obtain ⟨ys, hy, h4⟩ := R.ok_of h3
 cases h4
 rw [eval_ListComp]
 refine comp_core (use := none) (Qf := EP X pins σ Q) (Q := Q) (tt := tAlways) (te := tIx X.K f) (rest := fun env it p => eval elt env >>= fun x => call (.builtin "list.append") [p, x] >>= fun _ => again (.compLoop (.ListComp elt [⟨tg, iter, [], 0⟩] scope pos) 0 it p env)) S hc hi (fun C s₀ H₀ fp => pg_x fun B => hg B C s₀ H₀ fp) (fun _ _ _ => quiet_comp)
  (fun C s₀ H₀ fp it p s Q h => den0 (Y := compCx X scope C s₀ H₀ fp) h) (fun C s₀ H₀ fp it p τ H s pins vs N Q I h q => rest0 (Y := compCx X scope C s₀ H₀ fp) rfl (pe_x fun B => he B C s₀ H₀ fp) τ H s pins vs N Q I h (fun Q Q' m h => tIx_mono Q Q' m h) q) hs I
  (lc_of hsub (fun τ H Q ⟨B, A, st, k, rs, hk, q⟩ => ?_) rs hx hl hy fun p vs H1 H' s1 hp s2 hv r => comp_e rs q s1 hp s2 hv r) fun C p H5 s5 m5 s3 H3 fp τ hC I3 hfp I5 hn5 q5 => ⟨m5, hn5, fun h' hs' => ⟨.ref p, H5, inv_end I3 hfp hC I5 hs', rfl, q5⟩⟩
 cases hk
 exact q H (Same.refl _)
theorem i_compif (is : List Nat) (hsub : TgSub is t) (S : CScope X scope is) (hi : L2.PI X tg iter (tIt X.K B it)) (hg : ∀ (B : List Addr) (C : Addr) (s₀ : Shared) (H₀ : Hp) (fp : List Addr), PG (compCx X scope C s₀ H₀ fp) tg (tG X.K B t))
  (ht : ∀ (B : List Addr) (C : Addr) (s₀ : Shared) (H₀ : Hp) (fp : List Addr), PT (compCx X scope C s₀ H₀ fp) c (tT X.K B u))
  (he : ∀ (B : List Addr) (C : Addr) (s₀ : Shared) (H₀ : Hp) (fp : List Addr), PE (compCx X scope C s₀ H₀ fp) elt (tI X.K B f)) (hc : X.calm = true) (hs : ∀ x, foldedSetIterable iter X.env x = pure x := by intro _; rfl) :
  PE X (.ListComp elt [⟨tg, iter, [c], 0⟩] scope pos) (tI X.K B (eComp is t it u f)) := by
 intro pins s σ H Q I h
 obtain ⟨A, st, d, rs, hd, q⟩ := h
 obtain ⟨xs, hx, h2⟩ := R.ok_of hd
 obtain ⟨hl, h3⟩ := guardR_of h2
 obtain ⟨ys, hy, h4⟩ := R.ok_of h3
 cases h4
 rw [eval_ListComp]
 exact comp_core (use := none) (Qf := EP X pins σ Q) (Q := Q) (tt := tTx X.K u) (te := tIx X.K f) (rest := fun env it p => isTrue c env (eval c env) >>= fun ok => if ok = true then (eval elt env >>= fun x => call (.builtin "list.append") [p, x] >>= fun _ => again (.compLoop (.ListComp elt [⟨tg, iter, [c], 0⟩] scope pos) 0 it p env)) else again (.compLoop (.ListComp elt [⟨tg, iter, [c], 0⟩] scope pos) 0 it p env)) S hc hi (fun C s₀ H₀ fp => pg_x fun B => hg B C s₀ H₀ fp) (fun _ _ _ => quiet_comp)
  (fun C s₀ H₀ fp it p s Q h => den1 (Y := compCx X scope C s₀ H₀ fp) h) (fun C s₀ H₀ fp it p τ H s pins vs N Q I h q => rest1 (Y := compCx X scope C s₀ H₀ fp) rfl (pe_x fun B => he B C s₀ H₀ fp) (pt_x fun B => ht B C s₀ H₀ fp) τ H s pins vs N Q I h (fun _ Q Q' m h => tIx_mono Q Q' m h) q) hs I
  (lc_of hsub (fun τ H Q h => h) rs hx hl hy fun p vs H1 H' s1 hp s2 hv r => comp_e rs q s1 hp s2 hv r) fun C p H5 s5 m5 s3 H3 fp τ hC I3 hfp I5 hn5 q5 => ⟨m5, hn5, fun h' hs' => ⟨.ref p, H5, inv_end I3 hfp hC I5 hs', rfl, q5⟩⟩
end
end Pu
namespace Pu
open PySem PySem.Spec PyProof.Rows L2 PySem.SeqAt
section
variable {X : Cx} {pins : List (Addr × Obj)} {σ : LSt} {H : Hp} {s : Shared}
theorem no_both (I : Inv X pins σ H s) {a : Addr} {xs ys : List V} (h1 : SqL X.K H a xs) (h2 : SqT X.K H a ys) : False := by
 obtain ⟨its, _, ⟨o, n, e, hc, _⟩, _⟩ := I.list h1
 obtain ⟨its2, _, ⟨o2, e2, hc2, _⟩, _⟩ := I.tuple h2
 rw [e] at e2; cases e2
 rw [hc] at hc2; simp at hc2
mutual
theorem Rep.inj (I : Inv X pins σ H s) : ∀ {x y : D} {v : V}, plain x = true -> plain y = true -> Rep X.K H x v -> Rep X.K H y v -> x = y
 | .non, y, v, px, py, h, h' => by
  have e := rep_non.mp h; subst e
  cases y <;> first | (simp at py; done) | skip
  all_goals simp only [rep_non, rep_bl, rep_int, rep_str, rep_tupD, rep_lst] at h'
  all_goals first | rfl | (obtain ⟨_, _, h', _⟩ := h'; cases h'; done) | (cases h'; done)
 | .bl b, y, v, px, py, h, h' => by
  have e := rep_bl.mp h; subst e
  cases y <;> first | (simp at py; done) | skip
  all_goals simp only [rep_non, rep_bl, rep_int, rep_str, rep_tupD, rep_lst] at h'
  all_goals first | (obtain ⟨_, _, h', _⟩ := h'; cases h'; done) | (cases h'; first | rfl | done)
 | .int i, y, v, px, py, h, h' => by
  have e := rep_int.mp h; subst e
  cases y <;> first | (simp at py; done) | skip
  all_goals simp only [rep_non, rep_bl, rep_int, rep_str, rep_tupD, rep_lst] at h'
  all_goals first | (obtain ⟨_, _, h', _⟩ := h'; cases h'; done) | (cases h'; first | rfl | done)
 | .str x, y, v, px, py, h, h' => by
  have e := rep_str.mp h; subst e
  cases y with
  | dct _ _ _ => simp at py
  | ins _ _ _ => simp at py
  | exn _ _ _ => simp at py
  | str z =>
   have e2 := rep_str.mp h'
   injection e2 with e2
   injection e2 with e2
   have : x = z := by simpa using congrArg Array.toList e2
   rw [this]
  | non => exact nomatch rep_non.mp h'
  | bl _ => exact nomatch rep_bl.mp h'
  | int _ => exact nomatch rep_int.mp h'
  | tup _ => obtain ⟨_, _, h', _⟩ := rep_tup_mp h'; cases h'
  | lst _ => obtain ⟨_, _, h', _⟩ := rep_lst.mp h'; cases h'
 | .tup ds, y, v, px, py, h, h' => by
  obtain ⟨a, vs, e, hq, hr⟩ := rep_tup_mp h
  subst e
  cases y with
  | dct _ _ _ => simp at py
  | ins _ _ _ => simp at py
  | exn _ _ _ => simp at py
  | tup es =>
   obtain ⟨a', vs', e', hq', hr'⟩ := rep_tup_mp h'
   cases e'
   have := I.tuple_inj hq hq'
   subst this
   rw [Reps.inj I (by simpa using px) (by simpa using py) hr hr']
  | lst es =>
   obtain ⟨a', vs', e', hq', hr'⟩ := rep_lst.mp h'
   cases e'
   exact (no_both I hq' hq).elim
  | non => exact nomatch rep_non.mp h'
  | bl _ => exact nomatch rep_bl.mp h'
  | int _ => exact nomatch rep_int.mp h'
  | str _ => exact nomatch rep_str.mp h'
 | .lst ds, y, v, px, py, h, h' => by
  obtain ⟨a, vs, e, hq, hr⟩ := rep_lst.mp h
  subst e
  cases y with
  | dct _ _ _ => simp at py
  | ins _ _ _ => simp at py
  | exn _ _ _ => simp at py
  | lst es =>
   obtain ⟨a', vs', e', hq', hr'⟩ := rep_lst.mp h'
   cases e'
   have := I.list_inj hq hq'
   subst this
   rw [Reps.inj I (by simpa using px) (by simpa using py) hr hr']
  | tup es =>
   obtain ⟨a', vs', e', hq', hr'⟩ := rep_tup_mp h'
   cases e'
   exact (no_both I hq hq').elim
  | non => exact nomatch rep_non.mp h'
  | bl _ => exact nomatch rep_bl.mp h'
  | int _ => exact nomatch rep_int.mp h'
  | str _ => exact nomatch rep_str.mp h'
 | .dct _ _ _, y, v, px, py, h, h' => by simp at px
 | .ins _ _ _, y, v, px, py, h, h' => by simp at px
 | .exn _ _ _, y, v, px, py, h, h' => by simp at px
theorem Reps.inj (I : Inv X pins σ H s) : ∀ {xs ys : List D} {vs : List V}, plains xs = true -> plains ys = true -> Reps X.K H xs vs -> Reps X.K H ys vs -> xs = ys
 | [], ys, vs, px, py, h, h' => by
  have e := reps_nil.mp h; subst e
  cases ys with
  | nil => rfl
  | cons y ys => obtain ⟨_, _, h', _⟩ := reps_cons.mp h'; cases h'
 | x :: xs, ys, vs, px, py, h, h' => by
  obtain ⟨v, r, e, h1, h2⟩ := reps_cons.mp h
  subst e
  cases ys with
  | nil => exact nomatch reps_nil.mp h'
  | cons y ys =>
   obtain ⟨v', r', e', h1', h2'⟩ := reps_cons.mp h'
   cases e'
   simp only [plains_cons, Bool.and_eq_true] at px py
   rw [Rep.inj I px.1 py.1 h1 h1', Reps.inj I px.2 py.2 h2 h2']
end
mutual
theorem eqD_refl : ∀ x : D, plain x = true -> eqD x x = true
 | .non, _ => by unfold eqD; rfl
 | .bl b, _ => by unfold eqD; simp
 | .int i, _ => by unfold eqD; simp
 | .str x, _ => by unfold eqD; simp
 | .tup x, h => by unfold eqD; exact eqDs_refl x (by simpa using h)
 | .lst x, h => by unfold eqD; exact eqDs_refl x (by simpa using h)
 | .dct _ _ _, h => by simp at h
 | .ins _ _ _, h => by simp at h
 | .exn _ _ _, h => by simp at h
theorem eqDs_refl : ∀ x : List D, plains x = true -> eqDs x x = true
 | [], _ => by unfold eqDs; rfl
 | a :: x, h => by
  simp only [plains_cons, Bool.and_eq_true] at h
  unfold eqDs; rw [eqD_refl a h.1, eqDs_refl x h.2]; rfl
end
def pairE (xs ys : List D) (j : Nat) : Bool := eqD (xs.getD j .non) (ys.getD j .non)
theorem eqDs_all : ∀ xs ys : List D, ((List.range (min xs.length ys.length)).all (pairE xs ys) && xs.length == ys.length) = eqDs xs ys
 | [], [] => by unfold eqDs; rfl
 | [], _ :: _ => by unfold eqDs; simp
 | _ :: _, [] => by unfold eqDs; simp
 | x :: xs, y :: ys => by
  have ih := eqDs_all xs ys
  have e : eqDs (x :: xs) (y :: ys) = (eqD x y && eqDs xs ys) := by conv => lhs; unfold eqDs
  rw [e, <- ih]
  have hm : min (x :: xs).length (y :: ys).length = min xs.length ys.length + 1 := by simp only [List.length_cons]; omega
  rw [hm, List.range_succ_eq_map, List.all_cons, List.all_map]
  have e1 : pairE (x :: xs) (y :: ys) 0 = eqD x y := rfl
  have e2 : (pairE (x :: xs) (y :: ys) ∘ Nat.succ) = pairE xs ys := rfl
  rw [e1, e2, Bool.and_assoc]
  congr 1
  simp
theorem eqDs_other {xs ys : List D} (h : xs.length ≠ ys.length) : eqDs xs ys = false := by
 rw [<- eqDs_all]; simp [h]
mutual
theorem eqAt_rep (I : Inv X pins σ H s) : ∀ (x y : D) (A : Around) (v u : V) (a b : Value), Rep X.K H x v -> Rep X.K H y u -> RelV v a -> RelV u b -> A.units + dep x < cLine -> plain x = true -> plain y = true -> EqAt A s a b (eqD x y)
 | .non, y, A, v, u, a, b, ra, rb, va, vb, hu, px, py => by
  have zv := rep_non.mp ra; subst zv; have za : a = Value.none := va; subst za
  cases y with
  | dct _ _ _ => simp at py
  | ins _ _ _ => simp at py
  | exn _ _ _ => simp at py
  | non =>
   have zu := rep_non.mp rb; subst zu; have zb : b = Value.none := vb; subst zb
   have e : eqD (.non) (.non) = eqD _ _ := rfl
   unfold eqD
   exact EqAt.same _
  | bl y =>
   have zu := rep_bl.mp rb; subst zu; have zb : b = Value.bool y := vb; subst zb
   have e : eqD (.non) (.bl y) = eqD _ _ := rfl
   unfold eqD
   exact EqAt.none_bool y
  | int y =>
   have zu := rep_int.mp rb; subst zu; obtain ⟨tb, zb⟩ : ∃ t, b = Value.int y t := vb; subst zb
   have e : eqD (.non) (.int y) = eqD _ _ := rfl
   unfold eqD
   exact EqAt.none_int y tb
  | str y =>
   have zu := rep_str.mp rb; subst zu; obtain ⟨tb, zb⟩ : ∃ t, b = Value.str ⟨y.toArray⟩ t := vb; subst zb
   have e : eqD (.non) (.str y) = eqD _ _ := rfl
   unfold eqD
   exact EqAt.none_str _ tb
  | tup y =>
   obtain ⟨lb, wsb, zu, hqb, hrb⟩ := rep_tup_mp rb; subst zu; have zb : b = Value.ref lb := vb; subst zb; obtain ⟨itsb, rvb, plb, _⟩ := I.tuple hqb; have ilb : s.heap.IsTuple lb itsb.toArray := plb
   have e : eqD (.non) (.tup y) = eqD _ _ := rfl
   unfold eqD
   exact EqAt.none_tuple ilb (Nat.lt_of_le_of_lt (Nat.le_add_right _ _) hu)
  | lst y =>
   obtain ⟨lb, wsb, zu, hqb, hrb⟩ := rep_lst.mp rb; subst zu; have zb : b = Value.ref lb := vb; subst zb; obtain ⟨itsb, rvb, plb, _⟩ := I.list hqb; have ilb := plb.isList
   have e : eqD (.non) (.lst y) = eqD _ _ := rfl
   unfold eqD
   exact EqAt.none_list ilb (Nat.lt_of_le_of_lt (Nat.le_add_right _ _) hu)
 | .bl x, y, A, v, u, a, b, ra, rb, va, vb, hu, px, py => by
  have zv := rep_bl.mp ra; subst zv; have za : a = Value.bool x := va; subst za
  cases y with
  | dct _ _ _ => simp at py
  | ins _ _ _ => simp at py
  | exn _ _ _ => simp at py
  | non =>
   have zu := rep_non.mp rb; subst zu; have zb : b = Value.none := vb; subst zb
   have e : eqD (.bl x) (.non) = eqD _ _ := rfl
   unfold eqD
   exact EqAt.bool_none x
  | bl y =>
   have zu := rep_bl.mp rb; subst zu; have zb : b = Value.bool y := vb; subst zb
   have e : eqD (.bl x) (.bl y) = eqD _ _ := rfl
   unfold eqD
   exact EqAt.bool_bool x y
  | int y =>
   have zu := rep_int.mp rb; subst zu; obtain ⟨tb, zb⟩ : ∃ t, b = Value.int y t := vb; subst zb
   have e : eqD (.bl x) (.int y) = eqD _ _ := rfl
   unfold eqD
   exact EqAt.bool_int x y tb
  | str y =>
   have zu := rep_str.mp rb; subst zu; obtain ⟨tb, zb⟩ : ∃ t, b = Value.str ⟨y.toArray⟩ t := vb; subst zb
   have e : eqD (.bl x) (.str y) = eqD _ _ := rfl
   unfold eqD
   exact EqAt.bool_str x _ tb
  | tup y =>
   obtain ⟨lb, wsb, zu, hqb, hrb⟩ := rep_tup_mp rb; subst zu; have zb : b = Value.ref lb := vb; subst zb; obtain ⟨itsb, rvb, plb, _⟩ := I.tuple hqb; have ilb : s.heap.IsTuple lb itsb.toArray := plb
   have e : eqD (.bl x) (.tup y) = eqD _ _ := rfl
   unfold eqD
   exact EqAt.bool_tuple x ilb (Nat.lt_of_le_of_lt (Nat.le_add_right _ _) hu)
  | lst y =>
   obtain ⟨lb, wsb, zu, hqb, hrb⟩ := rep_lst.mp rb; subst zu; have zb : b = Value.ref lb := vb; subst zb; obtain ⟨itsb, rvb, plb, _⟩ := I.list hqb; have ilb := plb.isList
   have e : eqD (.bl x) (.lst y) = eqD _ _ := rfl
   unfold eqD
   exact EqAt.bool_list x ilb (Nat.lt_of_le_of_lt (Nat.le_add_right _ _) hu)
 | .int x, y, A, v, u, a, b, ra, rb, va, vb, hu, px, py => by
  have zv := rep_int.mp ra; subst zv; obtain ⟨ta, za⟩ : ∃ t, a = Value.int x t := va; subst za
  cases y with
  | dct _ _ _ => simp at py
  | ins _ _ _ => simp at py
  | exn _ _ _ => simp at py
  | non =>
   have zu := rep_non.mp rb; subst zu; have zb : b = Value.none := vb; subst zb
   have e : eqD (.int x) (.non) = eqD _ _ := rfl
   unfold eqD
   exact EqAt.int_none x ta
  | bl y =>
   have zu := rep_bl.mp rb; subst zu; have zb : b = Value.bool y := vb; subst zb
   have e : eqD (.int x) (.bl y) = eqD _ _ := rfl
   unfold eqD
   exact EqAt.int_bool x ta y
  | int y =>
   have zu := rep_int.mp rb; subst zu; obtain ⟨tb, zb⟩ : ∃ t, b = Value.int y t := vb; subst zb
   have e : eqD (.int x) (.int y) = eqD _ _ := rfl
   unfold eqD
   exact EqAt.int_int x ta y tb
  | str y =>
   have zu := rep_str.mp rb; subst zu; obtain ⟨tb, zb⟩ : ∃ t, b = Value.str ⟨y.toArray⟩ t := vb; subst zb
   have e : eqD (.int x) (.str y) = eqD _ _ := rfl
   unfold eqD
   exact EqAt.int_str x ta _ tb
  | tup y =>
   obtain ⟨lb, wsb, zu, hqb, hrb⟩ := rep_tup_mp rb; subst zu; have zb : b = Value.ref lb := vb; subst zb; obtain ⟨itsb, rvb, plb, _⟩ := I.tuple hqb; have ilb : s.heap.IsTuple lb itsb.toArray := plb
   have e : eqD (.int x) (.tup y) = eqD _ _ := rfl
   unfold eqD
   exact EqAt.int_tuple x ta ilb (Nat.lt_of_le_of_lt (Nat.le_add_right _ _) hu)
  | lst y =>
   obtain ⟨lb, wsb, zu, hqb, hrb⟩ := rep_lst.mp rb; subst zu; have zb : b = Value.ref lb := vb; subst zb; obtain ⟨itsb, rvb, plb, _⟩ := I.list hqb; have ilb := plb.isList
   have e : eqD (.int x) (.lst y) = eqD _ _ := rfl
   unfold eqD
   exact EqAt.int_list x ta ilb (Nat.lt_of_le_of_lt (Nat.le_add_right _ _) hu)
 | .str x, y, A, v, u, a, b, ra, rb, va, vb, hu, px, py => by
  have zv := rep_str.mp ra; subst zv; obtain ⟨ta, za⟩ : ∃ t, a = Value.str ⟨x.toArray⟩ t := va; subst za
  cases y with
  | dct _ _ _ => simp at py
  | ins _ _ _ => simp at py
  | exn _ _ _ => simp at py
  | non =>
   have zu := rep_non.mp rb; subst zu; have zb : b = Value.none := vb; subst zb
   have e : eqD (.str x) (.non) = eqD _ _ := rfl
   unfold eqD
   exact EqAt.str_none _ ta
  | bl y =>
   have zu := rep_bl.mp rb; subst zu; have zb : b = Value.bool y := vb; subst zb
   have e : eqD (.str x) (.bl y) = eqD _ _ := rfl
   unfold eqD
   exact EqAt.str_bool _ ta y
  | int y =>
   have zu := rep_int.mp rb; subst zu; obtain ⟨tb, zb⟩ : ∃ t, b = Value.int y t := vb; subst zb
   have e : eqD (.str x) (.int y) = eqD _ _ := rfl
   unfold eqD
   exact EqAt.str_int _ ta y tb
  | str y =>
   have zu := rep_str.mp rb; subst zu; obtain ⟨tb, zb⟩ : ∃ t, b = Value.str ⟨y.toArray⟩ t := vb; subst zb
   have e : eqD (.str x) (.str y) = ((⟨x.toArray⟩ : Str) == ⟨y.toArray⟩) := by rw [<- str_beq]; unfold eqD; simp
   rw [e]
   exact EqAt.str_str _ ta _ tb
  | tup y =>
   obtain ⟨lb, wsb, zu, hqb, hrb⟩ := rep_tup_mp rb; subst zu; have zb : b = Value.ref lb := vb; subst zb; obtain ⟨itsb, rvb, plb, _⟩ := I.tuple hqb; have ilb : s.heap.IsTuple lb itsb.toArray := plb
   have e : eqD (.str x) (.tup y) = eqD _ _ := rfl
   unfold eqD
   exact EqAt.str_tuple _ ta ilb (Nat.lt_of_le_of_lt (Nat.le_add_right _ _) hu)
  | lst y =>
   obtain ⟨lb, wsb, zu, hqb, hrb⟩ := rep_lst.mp rb; subst zu; have zb : b = Value.ref lb := vb; subst zb; obtain ⟨itsb, rvb, plb, _⟩ := I.list hqb; have ilb := plb.isList
   have e : eqD (.str x) (.lst y) = eqD _ _ := rfl
   unfold eqD
   exact EqAt.str_list _ ta ilb (Nat.lt_of_le_of_lt (Nat.le_add_right _ _) hu)
 | .tup x, y, A, v, u, a, b, ra, rb, va, vb, hu, px, py => by
  obtain ⟨la, wsa, zv, hqa, hra⟩ := rep_tup_mp ra; subst zv; have za : a = Value.ref la := va; subst za; obtain ⟨itsa, rva, pla, _⟩ := I.tuple hqa; have ila : s.heap.IsTuple la itsa.toArray := pla
  cases y with
  | dct _ _ _ => simp at py
  | ins _ _ _ => simp at py
  | exn _ _ _ => simp at py
  | non =>
   have zu := rep_non.mp rb; subst zu; have zb : b = Value.none := vb; subst zb
   have e : eqD (.tup x) (.non) = eqD _ _ := rfl
   unfold eqD
   exact EqAt.tuple_none ila (Nat.lt_of_le_of_lt (Nat.le_add_right _ _) hu)
  | bl y =>
   have zu := rep_bl.mp rb; subst zu; have zb : b = Value.bool y := vb; subst zb
   have e : eqD (.tup x) (.bl y) = eqD _ _ := rfl
   unfold eqD
   exact EqAt.tuple_bool y ila (Nat.lt_of_le_of_lt (Nat.le_add_right _ _) hu)
  | int y =>
   have zu := rep_int.mp rb; subst zu; obtain ⟨tb, zb⟩ : ∃ t, b = Value.int y t := vb; subst zb
   have e : eqD (.tup x) (.int y) = eqD _ _ := rfl
   unfold eqD
   exact EqAt.tuple_int y tb ila (Nat.lt_of_le_of_lt (Nat.le_add_right _ _) hu)
  | str y =>
   have zu := rep_str.mp rb; subst zu; obtain ⟨tb, zb⟩ : ∃ t, b = Value.str ⟨y.toArray⟩ t := vb; subst zb
   have e : eqD (.tup x) (.str y) = eqD _ _ := rfl
   unfold eqD
   exact EqAt.tuple_str _ tb ila (Nat.lt_of_le_of_lt (Nat.le_add_right _ _) hu)
  | tup y =>
   obtain ⟨lb, wsb, zu, hqb, hrb⟩ := rep_tup_mp rb; subst zu; have zb : b = Value.ref lb := vb; subst zb; obtain ⟨itsb, rvb, plb, _⟩ := I.tuple hqb; have ilb : s.heap.IsTuple lb itsb.toArray := plb
   have n1 : itsa.length = x.length := by rw [<- rva.length, hra.length]
   have n2 : itsb.length = y.length := by rw [<- rvb.length, hrb.length]
   have e : eqD (.tup x) (.tup y) = eqDs x y := by conv => lhs; unfold eqD
   have hd : dep (.tup x) = deps x + 1 := by conv => lhs; unfold dep
   rw [hd] at hu
   have hin : A.in1.units + deps x < cLine := by show A.units + 1 + deps x < cLine; omega
   by_cases hll : la = lb
   ·subst hll
    have := Rep.inj I px py ra rb
    rw [this, eqD_refl _ py]
    exact EqAt.same _
   ·rw [e]
    have e3 : eqDs x y = ((List.range (min itsa.toArray.size itsb.toArray.size)).all (pairE x y) && itsa.toArray.size == itsb.toArray.size) := by rw [<- eqDs_all, List.size_toArray, List.size_toArray, n1, n2]
    rw [e3]
    refine EqAt.of_refs hll (RcAt.tuples ila ilb (by omega) fun j j1 j2 => ?_)
    have := eqAt_reps I x y A.in1 wsa wsb itsa itsb hra hrb rva rvb hin (by simpa using px) (by simpa using py) j (by simpa using j1) (by simpa using j2)
    simpa using this
  | lst y =>
   obtain ⟨lb, wsb, zu, hqb, hrb⟩ := rep_lst.mp rb; subst zu; have zb : b = Value.ref lb := vb; subst zb; obtain ⟨itsb, rvb, plb, _⟩ := I.list hqb; have ilb := plb.isList
   have e : eqD (.tup x) (.lst y) = eqD _ _ := rfl
   unfold eqD
   exact EqAt.tuple_list ila ilb (Nat.lt_of_le_of_lt (Nat.le_add_right _ _) hu)
 | .lst x, y, A, v, u, a, b, ra, rb, va, vb, hu, px, py => by
  obtain ⟨la, wsa, zv, hqa, hra⟩ := rep_lst.mp ra; subst zv; have za : a = Value.ref la := va; subst za; obtain ⟨itsa, rva, pla, _⟩ := I.list hqa; have ila := pla.isList
  cases y with
  | dct _ _ _ => simp at py
  | ins _ _ _ => simp at py
  | exn _ _ _ => simp at py
  | non =>
   have zu := rep_non.mp rb; subst zu; have zb : b = Value.none := vb; subst zb
   have e : eqD (.lst x) (.non) = eqD _ _ := rfl
   unfold eqD
   exact EqAt.list_none ila (Nat.lt_of_le_of_lt (Nat.le_add_right _ _) hu)
  | bl y =>
   have zu := rep_bl.mp rb; subst zu; have zb : b = Value.bool y := vb; subst zb
   have e : eqD (.lst x) (.bl y) = eqD _ _ := rfl
   unfold eqD
   exact EqAt.list_bool y ila (Nat.lt_of_le_of_lt (Nat.le_add_right _ _) hu)
  | int y =>
   have zu := rep_int.mp rb; subst zu; obtain ⟨tb, zb⟩ : ∃ t, b = Value.int y t := vb; subst zb
   have e : eqD (.lst x) (.int y) = eqD _ _ := rfl
   unfold eqD
   exact EqAt.list_int y tb ila (Nat.lt_of_le_of_lt (Nat.le_add_right _ _) hu)
  | str y =>
   have zu := rep_str.mp rb; subst zu; obtain ⟨tb, zb⟩ : ∃ t, b = Value.str ⟨y.toArray⟩ t := vb; subst zb
   have e : eqD (.lst x) (.str y) = eqD _ _ := rfl
   unfold eqD
   exact EqAt.list_str _ tb ila (Nat.lt_of_le_of_lt (Nat.le_add_right _ _) hu)
  | tup y =>
   obtain ⟨lb, wsb, zu, hqb, hrb⟩ := rep_tup_mp rb; subst zu; have zb : b = Value.ref lb := vb; subst zb; obtain ⟨itsb, rvb, plb, _⟩ := I.tuple hqb; have ilb : s.heap.IsTuple lb itsb.toArray := plb
   have e : eqD (.lst x) (.tup y) = eqD _ _ := rfl
   unfold eqD
   exact EqAt.list_tuple ila ilb (Nat.lt_of_le_of_lt (Nat.le_add_right _ _) hu)
  | lst y =>
   obtain ⟨lb, wsb, zu, hqb, hrb⟩ := rep_lst.mp rb; subst zu; have zb : b = Value.ref lb := vb; subst zb; obtain ⟨itsb, rvb, plb, _⟩ := I.list hqb; have ilb := plb.isList
   have n1 : itsa.length = x.length := by rw [<- rva.length, hra.length]
   have n2 : itsb.length = y.length := by rw [<- rvb.length, hrb.length]
   have e : eqD (.lst x) (.lst y) = eqDs x y := by conv => lhs; unfold eqD
   have hd : dep (.lst x) = deps x + 1 := by conv => lhs; unfold dep
   rw [hd] at hu
   have hin : A.in1.units + deps x < cLine := by show A.units + 1 + deps x < cLine; omega
   by_cases hll : la = lb
   ·subst hll
    have := Rep.inj I px py ra rb
    rw [this, eqD_refl _ py]
    exact EqAt.same _
   ·rw [e]
    by_cases hsz : itsa.length = itsb.length
    ·have e3 : eqDs x y = (List.range itsa.toArray.size).all (pairE x y) := by rw [<- eqDs_all, List.size_toArray, n1]; simp [show x.length = y.length by omega]
     rw [e3]
     refine EqAt.of_refs hll (RcAt.lists ila ilb (by simpa using hsz) (by omega) fun j j1 j2 => ?_)
     have := eqAt_reps I x y A.in1 wsa wsb itsa itsb hra hrb rva rvb hin (by simpa using px) (by simpa using py) j (by simpa using j1) (by simpa using j2)
     simpa using this
    ·rw [eqDs_other (by omega)]
     exact EqAt.of_refs hll (RcAt.lists_lengths ila ilb (by simpa using hsz) (by omega))
 | .dct _ _ _, y, A, v, u, a, b, ra, rb, va, vb, hu, px, py => by simp at px
 | .ins _ _ _, y, A, v, u, a, b, ra, rb, va, vb, hu, px, py => by simp at px
 | .exn _ _ _, y, A, v, u, a, b, ra, rb, va, vb, hu, px, py => by simp at px
theorem eqAt_reps (I : Inv X pins σ H s) : ∀ (xs ys : List D) (A : Around) (vs us : List V) (as bs : List Value), Reps X.K H xs vs -> Reps X.K H ys us -> Vals vs as -> Vals us bs -> A.units + deps xs < cLine -> plains xs = true -> plains ys = true -> ∀ (j : Nat) (h1 : j < as.length) (h2 : j < bs.length), EqAt A s as[j] bs[j] (pairE xs ys j)
 | [], _, A, vs, us, as, bs, ra, rb, va, vb, hu, px, py, j, h1, h2 => by
  have e := reps_nil.mp ra; subst e; cases va; exact absurd h1 (Nat.not_lt_zero _)
 | x :: xs, [], A, vs, us, as, bs, ra, rb, va, vb, hu, px, py, j, h1, h2 => by
  have e := reps_nil.mp rb; subst e; cases vb; exact absurd h2 (Nat.not_lt_zero _)
 | x :: xs, y :: ys, A, vs, us, as, bs, ra, rb, va, vb, hu, px, py, j, h1, h2 => by
  obtain ⟨v, r, e, p1, p2⟩ := reps_cons.mp ra; subst e
  obtain ⟨u, r', e, q1, q2⟩ := reps_cons.mp rb; subst e
  have hd : deps (x :: xs) = max (dep x) (deps xs) := by conv => lhs; unfold deps
  rw [hd] at hu
  simp only [plains_cons, Bool.and_eq_true] at px py
  cases va with
  | cons va vas =>
   cases vb with
   | cons vb vbs =>
    cases j with
    | zero => exact eqAt_rep I x y A v u _ _ p1 q1 va vb (by omega) px.1 py.1
    | succ j => exact eqAt_reps I xs ys A r r' _ _ p2 q2 vas vbs (by omega) px.2 py.2 j (Nat.lt_of_succ_lt_succ h1) (Nat.lt_of_succ_lt_succ h2)
end
theorem rcAt_rep (I : Inv X pins σ H s) : ∀ (x y : D) (A : Around) (v u : V) (a b : Value), Rep X.K H x v -> Rep X.K H y u -> RelV v a -> RelV u b -> A.units + dep x < cLine -> plain x = true -> plain y = true -> RcAt A s a b (eqD x y)
 | .non, y, A, v, u, a, b, ra, rb, va, vb, hu, px, py => by
  have zv := rep_non.mp ra; subst zv; have za : a = Value.none := va; subst za
  cases y with
  | dct _ _ _ => simp at py
  | ins _ _ _ => simp at py
  | exn _ _ _ => simp at py
  | non =>
   have zu := rep_non.mp rb; subst zu; have zb : b = Value.none := vb; subst zb
   have e : eqD (.non) (.non) = eqD _ _ := rfl
   unfold eqD
   exact RcAt.none_none
  | bl y =>
   have zu := rep_bl.mp rb; subst zu; have zb : b = Value.bool y := vb; subst zb
   have e : eqD (.non) (.bl y) = eqD _ _ := rfl
   unfold eqD
   exact RcAt.none_bool y
  | int y =>
   have zu := rep_int.mp rb; subst zu; obtain ⟨tb, zb⟩ : ∃ t, b = Value.int y t := vb; subst zb
   have e : eqD (.non) (.int y) = eqD _ _ := rfl
   unfold eqD
   exact RcAt.none_int y tb
  | str y =>
   have zu := rep_str.mp rb; subst zu; obtain ⟨tb, zb⟩ : ∃ t, b = Value.str ⟨y.toArray⟩ t := vb; subst zb
   have e : eqD (.non) (.str y) = eqD _ _ := rfl
   unfold eqD
   exact RcAt.none_str _ tb
  | tup y =>
   obtain ⟨lb, wsb, zu, hqb, hrb⟩ := rep_tup_mp rb; subst zu; have zb : b = Value.ref lb := vb; subst zb; obtain ⟨itsb, rvb, plb, _⟩ := I.tuple hqb; have ilb : s.heap.IsTuple lb itsb.toArray := plb
   have e : eqD (.non) (.tup y) = eqD _ _ := rfl
   unfold eqD
   exact RcAt.none_tuple ilb (Nat.lt_of_le_of_lt (Nat.le_add_right _ _) hu)
  | lst y =>
   obtain ⟨lb, wsb, zu, hqb, hrb⟩ := rep_lst.mp rb; subst zu; have zb : b = Value.ref lb := vb; subst zb; obtain ⟨itsb, rvb, plb, _⟩ := I.list hqb; have ilb := plb.isList
   have e : eqD (.non) (.lst y) = eqD _ _ := rfl
   unfold eqD
   exact RcAt.none_list ilb (Nat.lt_of_le_of_lt (Nat.le_add_right _ _) hu)
 | .bl x, y, A, v, u, a, b, ra, rb, va, vb, hu, px, py => by
  have zv := rep_bl.mp ra; subst zv; have za : a = Value.bool x := va; subst za
  cases y with
  | dct _ _ _ => simp at py
  | ins _ _ _ => simp at py
  | exn _ _ _ => simp at py
  | non =>
   have zu := rep_non.mp rb; subst zu; have zb : b = Value.none := vb; subst zb
   have e : eqD (.bl x) (.non) = eqD _ _ := rfl
   unfold eqD
   exact RcAt.bool_none x
  | bl y =>
   have zu := rep_bl.mp rb; subst zu; have zb : b = Value.bool y := vb; subst zb
   have e : eqD (.bl x) (.bl y) = eqD _ _ := rfl
   unfold eqD
   exact RcAt.bool_bool x y
  | int y =>
   have zu := rep_int.mp rb; subst zu; obtain ⟨tb, zb⟩ : ∃ t, b = Value.int y t := vb; subst zb
   have e : eqD (.bl x) (.int y) = eqD _ _ := rfl
   unfold eqD
   exact RcAt.bool_int x y tb
  | str y =>
   have zu := rep_str.mp rb; subst zu; obtain ⟨tb, zb⟩ : ∃ t, b = Value.str ⟨y.toArray⟩ t := vb; subst zb
   have e : eqD (.bl x) (.str y) = eqD _ _ := rfl
   unfold eqD
   exact RcAt.bool_str x _ tb
  | tup y =>
   obtain ⟨lb, wsb, zu, hqb, hrb⟩ := rep_tup_mp rb; subst zu; have zb : b = Value.ref lb := vb; subst zb; obtain ⟨itsb, rvb, plb, _⟩ := I.tuple hqb; have ilb : s.heap.IsTuple lb itsb.toArray := plb
   have e : eqD (.bl x) (.tup y) = eqD _ _ := rfl
   unfold eqD
   exact RcAt.bool_tuple x ilb (Nat.lt_of_le_of_lt (Nat.le_add_right _ _) hu)
  | lst y =>
   obtain ⟨lb, wsb, zu, hqb, hrb⟩ := rep_lst.mp rb; subst zu; have zb : b = Value.ref lb := vb; subst zb; obtain ⟨itsb, rvb, plb, _⟩ := I.list hqb; have ilb := plb.isList
   have e : eqD (.bl x) (.lst y) = eqD _ _ := rfl
   unfold eqD
   exact RcAt.bool_list x ilb (Nat.lt_of_le_of_lt (Nat.le_add_right _ _) hu)
 | .int x, y, A, v, u, a, b, ra, rb, va, vb, hu, px, py => by
  have zv := rep_int.mp ra; subst zv; obtain ⟨ta, za⟩ : ∃ t, a = Value.int x t := va; subst za
  cases y with
  | dct _ _ _ => simp at py
  | ins _ _ _ => simp at py
  | exn _ _ _ => simp at py
  | non =>
   have zu := rep_non.mp rb; subst zu; have zb : b = Value.none := vb; subst zb
   have e : eqD (.int x) (.non) = eqD _ _ := rfl
   unfold eqD
   exact RcAt.int_none x ta
  | bl y =>
   have zu := rep_bl.mp rb; subst zu; have zb : b = Value.bool y := vb; subst zb
   have e : eqD (.int x) (.bl y) = eqD _ _ := rfl
   unfold eqD
   exact RcAt.int_bool x ta y
  | int y =>
   have zu := rep_int.mp rb; subst zu; obtain ⟨tb, zb⟩ : ∃ t, b = Value.int y t := vb; subst zb
   have e : eqD (.int x) (.int y) = eqD _ _ := rfl
   unfold eqD
   exact RcAt.int_int x ta y tb
  | str y =>
   have zu := rep_str.mp rb; subst zu; obtain ⟨tb, zb⟩ : ∃ t, b = Value.str ⟨y.toArray⟩ t := vb; subst zb
   have e : eqD (.int x) (.str y) = eqD _ _ := rfl
   unfold eqD
   exact RcAt.int_str x ta _ tb
  | tup y =>
   obtain ⟨lb, wsb, zu, hqb, hrb⟩ := rep_tup_mp rb; subst zu; have zb : b = Value.ref lb := vb; subst zb; obtain ⟨itsb, rvb, plb, _⟩ := I.tuple hqb; have ilb : s.heap.IsTuple lb itsb.toArray := plb
   have e : eqD (.int x) (.tup y) = eqD _ _ := rfl
   unfold eqD
   exact RcAt.int_tuple x ta ilb (Nat.lt_of_le_of_lt (Nat.le_add_right _ _) hu)
  | lst y =>
   obtain ⟨lb, wsb, zu, hqb, hrb⟩ := rep_lst.mp rb; subst zu; have zb : b = Value.ref lb := vb; subst zb; obtain ⟨itsb, rvb, plb, _⟩ := I.list hqb; have ilb := plb.isList
   have e : eqD (.int x) (.lst y) = eqD _ _ := rfl
   unfold eqD
   exact RcAt.int_list x ta ilb (Nat.lt_of_le_of_lt (Nat.le_add_right _ _) hu)
 | .str x, y, A, v, u, a, b, ra, rb, va, vb, hu, px, py => by
  have zv := rep_str.mp ra; subst zv; obtain ⟨ta, za⟩ : ∃ t, a = Value.str ⟨x.toArray⟩ t := va; subst za
  cases y with
  | dct _ _ _ => simp at py
  | ins _ _ _ => simp at py
  | exn _ _ _ => simp at py
  | non =>
   have zu := rep_non.mp rb; subst zu; have zb : b = Value.none := vb; subst zb
   have e : eqD (.str x) (.non) = eqD _ _ := rfl
   unfold eqD
   exact RcAt.str_none _ ta
  | bl y =>
   have zu := rep_bl.mp rb; subst zu; have zb : b = Value.bool y := vb; subst zb
   have e : eqD (.str x) (.bl y) = eqD _ _ := rfl
   unfold eqD
   exact RcAt.str_bool _ ta y
  | int y =>
   have zu := rep_int.mp rb; subst zu; obtain ⟨tb, zb⟩ : ∃ t, b = Value.int y t := vb; subst zb
   have e : eqD (.str x) (.int y) = eqD _ _ := rfl
   unfold eqD
   exact RcAt.str_int _ ta y tb
  | str y =>
   have zu := rep_str.mp rb; subst zu; obtain ⟨tb, zb⟩ : ∃ t, b = Value.str ⟨y.toArray⟩ t := vb; subst zb
   have e : eqD (.str x) (.str y) = ((⟨x.toArray⟩ : Str) == ⟨y.toArray⟩) := by rw [<- str_beq]; unfold eqD; simp
   rw [e]
   exact RcAt.str_str _ ta _ tb
  | tup y =>
   obtain ⟨lb, wsb, zu, hqb, hrb⟩ := rep_tup_mp rb; subst zu; have zb : b = Value.ref lb := vb; subst zb; obtain ⟨itsb, rvb, plb, _⟩ := I.tuple hqb; have ilb : s.heap.IsTuple lb itsb.toArray := plb
   have e : eqD (.str x) (.tup y) = eqD _ _ := rfl
   unfold eqD
   exact RcAt.str_tuple _ ta ilb (Nat.lt_of_le_of_lt (Nat.le_add_right _ _) hu)
  | lst y =>
   obtain ⟨lb, wsb, zu, hqb, hrb⟩ := rep_lst.mp rb; subst zu; have zb : b = Value.ref lb := vb; subst zb; obtain ⟨itsb, rvb, plb, _⟩ := I.list hqb; have ilb := plb.isList
   have e : eqD (.str x) (.lst y) = eqD _ _ := rfl
   unfold eqD
   exact RcAt.str_list _ ta ilb (Nat.lt_of_le_of_lt (Nat.le_add_right _ _) hu)
 | .tup x, y, A, v, u, a, b, ra, rb, va, vb, hu, px, py => by
  obtain ⟨la, wsa, zv, hqa, hra⟩ := rep_tup_mp ra; subst zv; have za : a = Value.ref la := va; subst za; obtain ⟨itsa, rva, pla, _⟩ := I.tuple hqa; have ila : s.heap.IsTuple la itsa.toArray := pla
  cases y with
  | dct _ _ _ => simp at py
  | ins _ _ _ => simp at py
  | exn _ _ _ => simp at py
  | non =>
   have zu := rep_non.mp rb; subst zu; have zb : b = Value.none := vb; subst zb
   have e : eqD (.tup x) (.non) = eqD _ _ := rfl
   unfold eqD
   exact RcAt.tuple_none ila (Nat.lt_of_le_of_lt (Nat.le_add_right _ _) hu)
  | bl y =>
   have zu := rep_bl.mp rb; subst zu; have zb : b = Value.bool y := vb; subst zb
   have e : eqD (.tup x) (.bl y) = eqD _ _ := rfl
   unfold eqD
   exact RcAt.tuple_bool y ila (Nat.lt_of_le_of_lt (Nat.le_add_right _ _) hu)
  | int y =>
   have zu := rep_int.mp rb; subst zu; obtain ⟨tb, zb⟩ : ∃ t, b = Value.int y t := vb; subst zb
   have e : eqD (.tup x) (.int y) = eqD _ _ := rfl
   unfold eqD
   exact RcAt.tuple_int y tb ila (Nat.lt_of_le_of_lt (Nat.le_add_right _ _) hu)
  | str y =>
   have zu := rep_str.mp rb; subst zu; obtain ⟨tb, zb⟩ : ∃ t, b = Value.str ⟨y.toArray⟩ t := vb; subst zb
   have e : eqD (.tup x) (.str y) = eqD _ _ := rfl
   unfold eqD
   exact RcAt.tuple_str _ tb ila (Nat.lt_of_le_of_lt (Nat.le_add_right _ _) hu)
  | tup y =>
   obtain ⟨lb, wsb, zu, hqb, hrb⟩ := rep_tup_mp rb; subst zu; have zb : b = Value.ref lb := vb; subst zb; obtain ⟨itsb, rvb, plb, _⟩ := I.tuple hqb; have ilb : s.heap.IsTuple lb itsb.toArray := plb
   have n1 : itsa.length = x.length := by rw [<- rva.length, hra.length]
   have n2 : itsb.length = y.length := by rw [<- rvb.length, hrb.length]
   have e : eqD (.tup x) (.tup y) = eqDs x y := by conv => lhs; unfold eqD
   have hd : dep (.tup x) = deps x + 1 := by conv => lhs; unfold dep
   rw [hd] at hu
   have hin : A.in1.units + deps x < cLine := by show A.units + 1 + deps x < cLine; omega
   rw [e]
   have e3 : eqDs x y = ((List.range (min itsa.toArray.size itsb.toArray.size)).all (pairE x y) && itsa.toArray.size == itsb.toArray.size) := by rw [<- eqDs_all, List.size_toArray, List.size_toArray, n1, n2]
   rw [e3]
   refine  (RcAt.tuples ila ilb (by omega) fun j j1 j2 => ?_)
   have := eqAt_reps I x y A.in1 wsa wsb itsa itsb hra hrb rva rvb hin (by simpa using px) (by simpa using py) j (by simpa using j1) (by simpa using j2)
   simpa using this
  | lst y =>
   obtain ⟨lb, wsb, zu, hqb, hrb⟩ := rep_lst.mp rb; subst zu; have zb : b = Value.ref lb := vb; subst zb; obtain ⟨itsb, rvb, plb, _⟩ := I.list hqb; have ilb := plb.isList
   have e : eqD (.tup x) (.lst y) = eqD _ _ := rfl
   unfold eqD
   exact RcAt.tuple_list ila ilb (Nat.lt_of_le_of_lt (Nat.le_add_right _ _) hu)
 | .lst x, y, A, v, u, a, b, ra, rb, va, vb, hu, px, py => by
  obtain ⟨la, wsa, zv, hqa, hra⟩ := rep_lst.mp ra; subst zv; have za : a = Value.ref la := va; subst za; obtain ⟨itsa, rva, pla, _⟩ := I.list hqa; have ila := pla.isList
  cases y with
  | dct _ _ _ => simp at py
  | ins _ _ _ => simp at py
  | exn _ _ _ => simp at py
  | non =>
   have zu := rep_non.mp rb; subst zu; have zb : b = Value.none := vb; subst zb
   have e : eqD (.lst x) (.non) = eqD _ _ := rfl
   unfold eqD
   exact RcAt.list_none ila (Nat.lt_of_le_of_lt (Nat.le_add_right _ _) hu)
  | bl y =>
   have zu := rep_bl.mp rb; subst zu; have zb : b = Value.bool y := vb; subst zb
   have e : eqD (.lst x) (.bl y) = eqD _ _ := rfl
   unfold eqD
   exact RcAt.list_bool y ila (Nat.lt_of_le_of_lt (Nat.le_add_right _ _) hu)
  | int y =>
   have zu := rep_int.mp rb; subst zu; obtain ⟨tb, zb⟩ : ∃ t, b = Value.int y t := vb; subst zb
   have e : eqD (.lst x) (.int y) = eqD _ _ := rfl
   unfold eqD
   exact RcAt.list_int y tb ila (Nat.lt_of_le_of_lt (Nat.le_add_right _ _) hu)
  | str y =>
   have zu := rep_str.mp rb; subst zu; obtain ⟨tb, zb⟩ : ∃ t, b = Value.str ⟨y.toArray⟩ t := vb; subst zb
   have e : eqD (.lst x) (.str y) = eqD _ _ := rfl
   unfold eqD
   exact RcAt.list_str _ tb ila (Nat.lt_of_le_of_lt (Nat.le_add_right _ _) hu)
  | tup y =>
   obtain ⟨lb, wsb, zu, hqb, hrb⟩ := rep_tup_mp rb; subst zu; have zb : b = Value.ref lb := vb; subst zb; obtain ⟨itsb, rvb, plb, _⟩ := I.tuple hqb; have ilb : s.heap.IsTuple lb itsb.toArray := plb
   have e : eqD (.lst x) (.tup y) = eqD _ _ := rfl
   unfold eqD
   exact RcAt.list_tuple ila ilb (Nat.lt_of_le_of_lt (Nat.le_add_right _ _) hu)
  | lst y =>
   obtain ⟨lb, wsb, zu, hqb, hrb⟩ := rep_lst.mp rb; subst zu; have zb : b = Value.ref lb := vb; subst zb; obtain ⟨itsb, rvb, plb, _⟩ := I.list hqb; have ilb := plb.isList
   have n1 : itsa.length = x.length := by rw [<- rva.length, hra.length]
   have n2 : itsb.length = y.length := by rw [<- rvb.length, hrb.length]
   have e : eqD (.lst x) (.lst y) = eqDs x y := by conv => lhs; unfold eqD
   have hd : dep (.lst x) = deps x + 1 := by conv => lhs; unfold dep
   rw [hd] at hu
   have hin : A.in1.units + deps x < cLine := by show A.units + 1 + deps x < cLine; omega
   rw [e]
   by_cases hsz : itsa.length = itsb.length
   ·have e3 : eqDs x y = (List.range itsa.toArray.size).all (pairE x y) := by rw [<- eqDs_all, List.size_toArray, n1]; simp [show x.length = y.length by omega]
    rw [e3]
    refine  (RcAt.lists ila ilb (by simpa using hsz) (by omega) fun j j1 j2 => ?_)
    have := eqAt_reps I x y A.in1 wsa wsb itsa itsb hra hrb rva rvb hin (by simpa using px) (by simpa using py) j (by simpa using j1) (by simpa using j2)
    simpa using this
   ·rw [eqDs_other (by omega)]
    exact  (RcAt.lists_lengths ila ilb (by simpa using hsz) (by omega))
 | .dct _ _ _, y, A, v, u, a, b, ra, rb, va, vb, hu, px, py => by simp at px
 | .ins _ _ _, y, A, v, u, a, b, ra, rb, va, vb, hu, px, py => by simp at px
 | .exn _ _ _, y, A, v, u, a, b, ra, rb, va, vb, hu, px, py => by simp at px
theorem rcNe_rep (I : Inv X pins σ H s) : ∀ (x y : D) (A : Around) (v u : V) (a b : Value), Rep X.K H x v -> Rep X.K H y u -> RelV v a -> RelV u b -> A.units + dep x < cLine -> plain x = true -> plain y = true -> RcNeAt A s a b (!eqD x y)
 | .non, y, A, v, u, a, b, ra, rb, va, vb, hu, px, py => by
  have zv := rep_non.mp ra; subst zv; have za : a = Value.none := va; subst za
  cases y with
  | dct _ _ _ => simp at py
  | ins _ _ _ => simp at py
  | exn _ _ _ => simp at py
  | non =>
   have zu := rep_non.mp rb; subst zu; have zb : b = Value.none := vb; subst zb
   have e : eqD (.non) (.non) = eqD _ _ := rfl
   unfold eqD
   exact RcNeAt.none_none
  | bl y =>
   have zu := rep_bl.mp rb; subst zu; have zb : b = Value.bool y := vb; subst zb
   have e : eqD (.non) (.bl y) = eqD _ _ := rfl
   unfold eqD
   exact RcNeAt.none_bool y
  | int y =>
   have zu := rep_int.mp rb; subst zu; obtain ⟨tb, zb⟩ : ∃ t, b = Value.int y t := vb; subst zb
   have e : eqD (.non) (.int y) = eqD _ _ := rfl
   unfold eqD
   exact RcNeAt.none_int y tb
  | str y =>
   have zu := rep_str.mp rb; subst zu; obtain ⟨tb, zb⟩ : ∃ t, b = Value.str ⟨y.toArray⟩ t := vb; subst zb
   have e : eqD (.non) (.str y) = eqD _ _ := rfl
   unfold eqD
   exact RcNeAt.none_str _ tb
  | tup y =>
   obtain ⟨lb, wsb, zu, hqb, hrb⟩ := rep_tup_mp rb; subst zu; have zb : b = Value.ref lb := vb; subst zb; obtain ⟨itsb, rvb, plb, _⟩ := I.tuple hqb; have ilb : s.heap.IsTuple lb itsb.toArray := plb
   have e : eqD (.non) (.tup y) = eqD _ _ := rfl
   unfold eqD
   exact RcNeAt.none_tuple ilb (Nat.lt_of_le_of_lt (Nat.le_add_right _ _) hu)
  | lst y =>
   obtain ⟨lb, wsb, zu, hqb, hrb⟩ := rep_lst.mp rb; subst zu; have zb : b = Value.ref lb := vb; subst zb; obtain ⟨itsb, rvb, plb, _⟩ := I.list hqb; have ilb := plb.isList
   have e : eqD (.non) (.lst y) = eqD _ _ := rfl
   unfold eqD
   exact RcNeAt.none_list ilb (Nat.lt_of_le_of_lt (Nat.le_add_right _ _) hu)
 | .bl x, y, A, v, u, a, b, ra, rb, va, vb, hu, px, py => by
  have zv := rep_bl.mp ra; subst zv; have za : a = Value.bool x := va; subst za
  cases y with
  | dct _ _ _ => simp at py
  | ins _ _ _ => simp at py
  | exn _ _ _ => simp at py
  | non =>
   have zu := rep_non.mp rb; subst zu; have zb : b = Value.none := vb; subst zb
   have e : eqD (.bl x) (.non) = eqD _ _ := rfl
   unfold eqD
   exact RcNeAt.bool_none x
  | bl y =>
   have zu := rep_bl.mp rb; subst zu; have zb : b = Value.bool y := vb; subst zb
   have e : eqD (.bl x) (.bl y) = eqD _ _ := rfl
   unfold eqD
   exact RcNeAt.bool_bool x y
  | int y =>
   have zu := rep_int.mp rb; subst zu; obtain ⟨tb, zb⟩ : ∃ t, b = Value.int y t := vb; subst zb
   have e : eqD (.bl x) (.int y) = eqD _ _ := rfl
   unfold eqD
   exact RcNeAt.bool_int x y tb
  | str y =>
   have zu := rep_str.mp rb; subst zu; obtain ⟨tb, zb⟩ : ∃ t, b = Value.str ⟨y.toArray⟩ t := vb; subst zb
   have e : eqD (.bl x) (.str y) = eqD _ _ := rfl
   unfold eqD
   exact RcNeAt.bool_str x _ tb
  | tup y =>
   obtain ⟨lb, wsb, zu, hqb, hrb⟩ := rep_tup_mp rb; subst zu; have zb : b = Value.ref lb := vb; subst zb; obtain ⟨itsb, rvb, plb, _⟩ := I.tuple hqb; have ilb : s.heap.IsTuple lb itsb.toArray := plb
   have e : eqD (.bl x) (.tup y) = eqD _ _ := rfl
   unfold eqD
   exact RcNeAt.bool_tuple x ilb (Nat.lt_of_le_of_lt (Nat.le_add_right _ _) hu)
  | lst y =>
   obtain ⟨lb, wsb, zu, hqb, hrb⟩ := rep_lst.mp rb; subst zu; have zb : b = Value.ref lb := vb; subst zb; obtain ⟨itsb, rvb, plb, _⟩ := I.list hqb; have ilb := plb.isList
   have e : eqD (.bl x) (.lst y) = eqD _ _ := rfl
   unfold eqD
   exact RcNeAt.bool_list x ilb (Nat.lt_of_le_of_lt (Nat.le_add_right _ _) hu)
 | .int x, y, A, v, u, a, b, ra, rb, va, vb, hu, px, py => by
  have zv := rep_int.mp ra; subst zv; obtain ⟨ta, za⟩ : ∃ t, a = Value.int x t := va; subst za
  cases y with
  | dct _ _ _ => simp at py
  | ins _ _ _ => simp at py
  | exn _ _ _ => simp at py
  | non =>
   have zu := rep_non.mp rb; subst zu; have zb : b = Value.none := vb; subst zb
   have e : eqD (.int x) (.non) = eqD _ _ := rfl
   unfold eqD
   exact RcNeAt.int_none x ta
  | bl y =>
   have zu := rep_bl.mp rb; subst zu; have zb : b = Value.bool y := vb; subst zb
   have e : eqD (.int x) (.bl y) = eqD _ _ := rfl
   unfold eqD
   exact RcNeAt.int_bool x ta y
  | int y =>
   have zu := rep_int.mp rb; subst zu; obtain ⟨tb, zb⟩ : ∃ t, b = Value.int y t := vb; subst zb
   have e : eqD (.int x) (.int y) = eqD _ _ := rfl
   unfold eqD
   exact RcNeAt.int_int x ta y tb
  | str y =>
   have zu := rep_str.mp rb; subst zu; obtain ⟨tb, zb⟩ : ∃ t, b = Value.str ⟨y.toArray⟩ t := vb; subst zb
   have e : eqD (.int x) (.str y) = eqD _ _ := rfl
   unfold eqD
   exact RcNeAt.int_str x ta _ tb
  | tup y =>
   obtain ⟨lb, wsb, zu, hqb, hrb⟩ := rep_tup_mp rb; subst zu; have zb : b = Value.ref lb := vb; subst zb; obtain ⟨itsb, rvb, plb, _⟩ := I.tuple hqb; have ilb : s.heap.IsTuple lb itsb.toArray := plb
   have e : eqD (.int x) (.tup y) = eqD _ _ := rfl
   unfold eqD
   exact RcNeAt.int_tuple x ta ilb (Nat.lt_of_le_of_lt (Nat.le_add_right _ _) hu)
  | lst y =>
   obtain ⟨lb, wsb, zu, hqb, hrb⟩ := rep_lst.mp rb; subst zu; have zb : b = Value.ref lb := vb; subst zb; obtain ⟨itsb, rvb, plb, _⟩ := I.list hqb; have ilb := plb.isList
   have e : eqD (.int x) (.lst y) = eqD _ _ := rfl
   unfold eqD
   exact RcNeAt.int_list x ta ilb (Nat.lt_of_le_of_lt (Nat.le_add_right _ _) hu)
 | .str x, y, A, v, u, a, b, ra, rb, va, vb, hu, px, py => by
  have zv := rep_str.mp ra; subst zv; obtain ⟨ta, za⟩ : ∃ t, a = Value.str ⟨x.toArray⟩ t := va; subst za
  cases y with
  | dct _ _ _ => simp at py
  | ins _ _ _ => simp at py
  | exn _ _ _ => simp at py
  | non =>
   have zu := rep_non.mp rb; subst zu; have zb : b = Value.none := vb; subst zb
   have e : eqD (.str x) (.non) = eqD _ _ := rfl
   unfold eqD
   exact RcNeAt.str_none _ ta
  | bl y =>
   have zu := rep_bl.mp rb; subst zu; have zb : b = Value.bool y := vb; subst zb
   have e : eqD (.str x) (.bl y) = eqD _ _ := rfl
   unfold eqD
   exact RcNeAt.str_bool _ ta y
  | int y =>
   have zu := rep_int.mp rb; subst zu; obtain ⟨tb, zb⟩ : ∃ t, b = Value.int y t := vb; subst zb
   have e : eqD (.str x) (.int y) = eqD _ _ := rfl
   unfold eqD
   exact RcNeAt.str_int _ ta y tb
  | str y =>
   have zu := rep_str.mp rb; subst zu; obtain ⟨tb, zb⟩ : ∃ t, b = Value.str ⟨y.toArray⟩ t := vb; subst zb
   have e : eqD (.str x) (.str y) = ((⟨x.toArray⟩ : Str) == ⟨y.toArray⟩) := by rw [<- str_beq]; unfold eqD; simp
   rw [e]
   exact RcNeAt.str_str _ ta _ tb
  | tup y =>
   obtain ⟨lb, wsb, zu, hqb, hrb⟩ := rep_tup_mp rb; subst zu; have zb : b = Value.ref lb := vb; subst zb; obtain ⟨itsb, rvb, plb, _⟩ := I.tuple hqb; have ilb : s.heap.IsTuple lb itsb.toArray := plb
   have e : eqD (.str x) (.tup y) = eqD _ _ := rfl
   unfold eqD
   exact RcNeAt.str_tuple _ ta ilb (Nat.lt_of_le_of_lt (Nat.le_add_right _ _) hu)
  | lst y =>
   obtain ⟨lb, wsb, zu, hqb, hrb⟩ := rep_lst.mp rb; subst zu; have zb : b = Value.ref lb := vb; subst zb; obtain ⟨itsb, rvb, plb, _⟩ := I.list hqb; have ilb := plb.isList
   have e : eqD (.str x) (.lst y) = eqD _ _ := rfl
   unfold eqD
   exact RcNeAt.str_list _ ta ilb (Nat.lt_of_le_of_lt (Nat.le_add_right _ _) hu)
 | .tup x, y, A, v, u, a, b, ra, rb, va, vb, hu, px, py => by
  obtain ⟨la, wsa, zv, hqa, hra⟩ := rep_tup_mp ra; subst zv; have za : a = Value.ref la := va; subst za; obtain ⟨itsa, rva, pla, _⟩ := I.tuple hqa; have ila : s.heap.IsTuple la itsa.toArray := pla
  cases y with
  | dct _ _ _ => simp at py
  | ins _ _ _ => simp at py
  | exn _ _ _ => simp at py
  | non =>
   have zu := rep_non.mp rb; subst zu; have zb : b = Value.none := vb; subst zb
   have e : eqD (.tup x) (.non) = eqD _ _ := rfl
   unfold eqD
   exact RcNeAt.tuple_none ila (Nat.lt_of_le_of_lt (Nat.le_add_right _ _) hu)
  | bl y =>
   have zu := rep_bl.mp rb; subst zu; have zb : b = Value.bool y := vb; subst zb
   have e : eqD (.tup x) (.bl y) = eqD _ _ := rfl
   unfold eqD
   exact RcNeAt.tuple_bool y ila (Nat.lt_of_le_of_lt (Nat.le_add_right _ _) hu)
  | int y =>
   have zu := rep_int.mp rb; subst zu; obtain ⟨tb, zb⟩ : ∃ t, b = Value.int y t := vb; subst zb
   have e : eqD (.tup x) (.int y) = eqD _ _ := rfl
   unfold eqD
   exact RcNeAt.tuple_int y tb ila (Nat.lt_of_le_of_lt (Nat.le_add_right _ _) hu)
  | str y =>
   have zu := rep_str.mp rb; subst zu; obtain ⟨tb, zb⟩ : ∃ t, b = Value.str ⟨y.toArray⟩ t := vb; subst zb
   have e : eqD (.tup x) (.str y) = eqD _ _ := rfl
   unfold eqD
   exact RcNeAt.tuple_str _ tb ila (Nat.lt_of_le_of_lt (Nat.le_add_right _ _) hu)
  | tup y =>
   obtain ⟨lb, wsb, zu, hqb, hrb⟩ := rep_tup_mp rb; subst zu; have zb : b = Value.ref lb := vb; subst zb; obtain ⟨itsb, rvb, plb, _⟩ := I.tuple hqb; have ilb : s.heap.IsTuple lb itsb.toArray := plb
   have n1 : itsa.length = x.length := by rw [<- rva.length, hra.length]
   have n2 : itsb.length = y.length := by rw [<- rvb.length, hrb.length]
   have e : eqD (.tup x) (.tup y) = eqDs x y := by conv => lhs; unfold eqD
   have hd : dep (.tup x) = deps x + 1 := by conv => lhs; unfold dep
   rw [hd] at hu
   have hin : A.in1.units + deps x < cLine := by show A.units + 1 + deps x < cLine; omega
   rw [e]
   have e3 : eqDs x y = ((List.range (min itsa.toArray.size itsb.toArray.size)).all (pairE x y) && itsa.toArray.size == itsb.toArray.size) := by rw [<- eqDs_all, List.size_toArray, List.size_toArray, n1, n2]
   rw [e3]
   refine  (RcNeAt.tuples ila ilb (by omega) fun j j1 j2 => ?_)
   have := eqAt_reps I x y A.in1 wsa wsb itsa itsb hra hrb rva rvb hin (by simpa using px) (by simpa using py) j (by simpa using j1) (by simpa using j2)
   simpa using this
  | lst y =>
   obtain ⟨lb, wsb, zu, hqb, hrb⟩ := rep_lst.mp rb; subst zu; have zb : b = Value.ref lb := vb; subst zb; obtain ⟨itsb, rvb, plb, _⟩ := I.list hqb; have ilb := plb.isList
   have e : eqD (.tup x) (.lst y) = eqD _ _ := rfl
   unfold eqD
   exact RcNeAt.tuple_list ila ilb (Nat.lt_of_le_of_lt (Nat.le_add_right _ _) hu)
 | .lst x, y, A, v, u, a, b, ra, rb, va, vb, hu, px, py => by
  obtain ⟨la, wsa, zv, hqa, hra⟩ := rep_lst.mp ra; subst zv; have za : a = Value.ref la := va; subst za; obtain ⟨itsa, rva, pla, _⟩ := I.list hqa; have ila := pla.isList
  cases y with
  | dct _ _ _ => simp at py
  | ins _ _ _ => simp at py
  | exn _ _ _ => simp at py
  | non =>
   have zu := rep_non.mp rb; subst zu; have zb : b = Value.none := vb; subst zb
   have e : eqD (.lst x) (.non) = eqD _ _ := rfl
   unfold eqD
   exact RcNeAt.list_none ila (Nat.lt_of_le_of_lt (Nat.le_add_right _ _) hu)
  | bl y =>
   have zu := rep_bl.mp rb; subst zu; have zb : b = Value.bool y := vb; subst zb
   have e : eqD (.lst x) (.bl y) = eqD _ _ := rfl
   unfold eqD
   exact RcNeAt.list_bool y ila (Nat.lt_of_le_of_lt (Nat.le_add_right _ _) hu)
  | int y =>
   have zu := rep_int.mp rb; subst zu; obtain ⟨tb, zb⟩ : ∃ t, b = Value.int y t := vb; subst zb
   have e : eqD (.lst x) (.int y) = eqD _ _ := rfl
   unfold eqD
   exact RcNeAt.list_int y tb ila (Nat.lt_of_le_of_lt (Nat.le_add_right _ _) hu)
  | str y =>
   have zu := rep_str.mp rb; subst zu; obtain ⟨tb, zb⟩ : ∃ t, b = Value.str ⟨y.toArray⟩ t := vb; subst zb
   have e : eqD (.lst x) (.str y) = eqD _ _ := rfl
   unfold eqD
   exact RcNeAt.list_str _ tb ila (Nat.lt_of_le_of_lt (Nat.le_add_right _ _) hu)
  | tup y =>
   obtain ⟨lb, wsb, zu, hqb, hrb⟩ := rep_tup_mp rb; subst zu; have zb : b = Value.ref lb := vb; subst zb; obtain ⟨itsb, rvb, plb, _⟩ := I.tuple hqb; have ilb : s.heap.IsTuple lb itsb.toArray := plb
   have e : eqD (.lst x) (.tup y) = eqD _ _ := rfl
   unfold eqD
   exact RcNeAt.list_tuple ila ilb (Nat.lt_of_le_of_lt (Nat.le_add_right _ _) hu)
  | lst y =>
   obtain ⟨lb, wsb, zu, hqb, hrb⟩ := rep_lst.mp rb; subst zu; have zb : b = Value.ref lb := vb; subst zb; obtain ⟨itsb, rvb, plb, _⟩ := I.list hqb; have ilb := plb.isList
   have n1 : itsa.length = x.length := by rw [<- rva.length, hra.length]
   have n2 : itsb.length = y.length := by rw [<- rvb.length, hrb.length]
   have e : eqD (.lst x) (.lst y) = eqDs x y := by conv => lhs; unfold eqD
   have hd : dep (.lst x) = deps x + 1 := by conv => lhs; unfold dep
   rw [hd] at hu
   have hin : A.in1.units + deps x < cLine := by show A.units + 1 + deps x < cLine; omega
   rw [e]
   by_cases hsz : itsa.length = itsb.length
   ·have e3 : eqDs x y = (List.range itsa.toArray.size).all (pairE x y) := by rw [<- eqDs_all, List.size_toArray, n1]; simp [show x.length = y.length by omega]
    rw [e3]
    refine  (RcNeAt.lists ila ilb (by simpa using hsz) (by omega) fun j j1 j2 => ?_)
    have := eqAt_reps I x y A.in1 wsa wsb itsa itsb hra hrb rva rvb hin (by simpa using px) (by simpa using py) j (by simpa using j1) (by simpa using j2)
    simpa using this
   ·rw [eqDs_other (by omega)]
    exact  (RcNeAt.lists_lengths ila ilb (by simpa using hsz) (by omega))
 | .dct _ _ _, y, A, v, u, a, b, ra, rb, va, vb, hu, px, py => by simp at px
 | .ins _ _ _, y, A, v, u, a, b, ra, rb, va, vb, hu, px, py => by simp at px
 | .exn _ _ _, y, A, v, u, a, b, ra, rb, va, vb, hu, px, py => by simp at px
end
end Pu
namespace Pu
open PySem PySem.Spec PyProof.Rows L2
section
variable {X : Cx} {B : List Addr} {a b e : Expr} {f g : Ex} {pos : Pos}
theorem RepP.rep {K : PySem.W.Frag} {A : List Addr} {H : Hp} {d : D} {v : V} (h : RepP K A H d v) : Rep K H d v := by
 rcases h with h | ⟨a, k, o, ds, vs, e1, e2, e3, ko, q⟩
 ·exact h.mono (hide_sub _ _)
 ·subst e1 e2
  exact ko.rep e3 (q.mono (hide_sub _ _))
def rEqD (K : PySem.W.Frag) (neg : Bool) : R2 := fun v u H Q => ∃ x y, Rep K H x v /\ Rep K H y u /\ (dep x <= 64 /\ plain x = true /\ plain y = true) /\ Q (.bl (if neg then !eqD x y else eqD x y)) H
theorem op_eqD (hu : X.A.units + 64 < cLine) : OpR X (compareOp .Eq) (rEqD X.K false) := by
 intro pins s σ H v u a b Q I ra rb h
 obtain ⟨x, y, rx, ry, hd, q⟩ := h
 exact rcAt_rep I x y X.A v u a b rx ry ra rb (by omega) hd.2.1 hd.2.2 X.prog X.w X.xe _ ⟨.bl _, H, I, rfl, q⟩
theorem op_neD (hu : X.A.units + 64 < cLine) : OpR X (compareOp .NotEq) (rEqD X.K true) := by
 intro pins s σ H v u a b Q I ra rb h
 obtain ⟨x, y, rx, ry, hd, q⟩ := h
 exact rcNe_rep I x y X.A v u a b rx ry ra rb (by omega) hd.2.1 hd.2.2 X.prog X.w X.xe _ ⟨.bl _, H, I, rfl, q⟩
theorem sem_eq {K : PySem.W.Frag} : Sem2 K (rEqD K false) dEq := by
 intro A H x y d v u Q w rx ry e q
 obtain ⟨c, e⟩ := guardR_of e
 cases e
 exact ⟨x, y, rx.rep, ry.rep, c, q _ H (Same.refl _) (rep_bl.mpr rfl)⟩
theorem sem_ne {K : PySem.W.Frag} : Sem2 K (rEqD K true) dNe := by
 intro A H x y d v u Q w rx ry e q
 obtain ⟨c, e⟩ := guardR_of e
 cases e
 exact ⟨x, y, rx.rep, ry.rep, c, q _ H (Same.refl _) (rep_bl.mpr rfl)⟩
def tyD : D -> String
 | .non => "NoneType"
 | .bl _ => "bool"
 | .int _ => "int"
 | .str _ => "str"
 | .tup _ => "tuple"
 | .lst _ => "list"
 | .dct _ _ _ => "dict"
 | .ins _ _ _ => ""
 | .exn _ _ _ => ""
structure IsT (T : String) (p : D -> Bool) : Prop where
 boot : bootBuiltins T = some (.type T)
 ans : ∀ (K : PySem.W.Frag) (d : D), bltD d = true -> PySem.W.kitOne K (.type (tyD d)) (.type T) = some (p d)
theorem call_isT {T : String} {p : D -> Bool} (h : IsT T p) : CallR X (.builtin "isinstance") (fun xs H Q => ∃ v d, xs = [v, .ty T] /\ bltD d = true /\ Rep X.K H d v /\ Q (.bl (p d)) H) := by
 intro pins s σ H xs us Q I r q
 obtain ⟨v, d, rfl, hbl, rd, q⟩ := q
 obtain ⟨u, u2, rfl, ru, ru2⟩ := r.two
 have e2 : u2 = Value.type T := ru2
 subst e2
 have fin : ∀ tk, EP X pins σ Q (.bool (p d)) { s with toks := tk } := fun tk => ⟨.bl (p d), H, I.tok tk, rfl, q⟩
 have e := h.ans X.K d hbl
 cases d with
 | non => have z := rep_non.mp rd; subst z; have z : u = Value.none := ru; subst z; exact PySem.W.kia_one PySem.W.kitx_none I.kIn True.intro e (fun z => nomatch z) fin
 | bl x => have z := rep_bl.mp rd; subst z; have z : u = Value.bool x := ru; subst z; exact PySem.W.kia_one PySem.W.kitx_bool I.kIn True.intro e (fun z => nomatch z) fin
 | int x => have z := rep_int.mp rd; subst z; obtain ⟨t, z⟩ : ∃ t, u = Value.int x t := ru; subst z; exact PySem.W.kia_one PySem.W.kitx_int I.kIn True.intro e (fun z => nomatch z) fin
 | str x => have z := rep_str.mp rd; subst z; obtain ⟨t, z⟩ : ∃ t, u = Value.str ⟨x.toArray⟩ t := ru; subst z; exact PySem.W.kia_one PySem.W.kitx_str I.kIn True.intro e (fun z => nomatch z) fin
 | tup x =>
  obtain ⟨l, vs, z, hq, _⟩ := rep_tup_mp rd; subst z
  have z : u = Value.ref l := ru; subst z
  obtain ⟨its, _, ⟨o, h1, h2, _⟩, _⟩ := I.tuple hq
  exact PySem.W.kia_one PySem.W.kitx_tuple I.kIn ⟨o, h1, h2⟩ e (fun z => nomatch z) fin
 | lst x =>
  obtain ⟨l, vs, z, hq, _⟩ := rep_lst.mp rd; subst z
  have z : u = Value.ref l := ru; subst z
  obtain ⟨its, _, ⟨o, n, h1, h2, _⟩, _⟩ := I.list hq
  exact PySem.W.kia_one PySem.W.kitx_list I.kIn ⟨o, h1, h2⟩ e (fun z => nomatch z) fin
 | dct t ks x =>
  obtain ⟨l, vs, z, hq, _⟩ := rep_dct.mp rd; subst z
  have z : u = Value.ref l := ru; subst z
  have hd : ∃ o, s.heap.get? l = some o /\ o.ExactDict := by
   rcases hq with ⟨_, kvs, hq, _⟩ | ⟨_, kvs, hq, _⟩
   ·obtain ⟨_, _, vs', _, m⟩ : kvs.length <= sizeLine /\ (l == sysModules) = false /\ ∃ vs, KV kvs vs /\ s.heap.DictOf (mixKind X.prog X.w) l vs := I.hok l _ hq
    obtain ⟨o, es, n, h1, h2, _⟩ := m
    exact ⟨o, h1, h2⟩
   ·obtain ⟨_, _, xs, _, o, es, ep, h1, h2, _⟩ := I.hok l _ hq
    exact ⟨o, h1, h2⟩
  obtain ⟨o, h1, h2⟩ := hd
  exact PySem.W.kia_one PySem.W.kitx_dict I.kIn ⟨o, h1, h2.1⟩ e (fun z => nomatch z) fin
 | ins _ _ _ => exact nomatch hbl
 | exn _ _ _ => exact nomatch hbl
theorem i_isinst {T : Str} {S : String} {p : D -> Bool} {p0 p1 : Pos} (hT : IsT S p) (hm : X.mg "isinstance" = none) (hmT : X.mg T = none) (ha : PE X a (tP X.K B f)) (hST : bootBuiltins T = some (.type S) := by first | rfl | exact hT.boot) (hg : Gl X "isinstance" := by rfl) (hgT : Gl X T := by rfl) (hnT : T ≠ "__name__" := by decide) (hdT : (T == ("__debug__" : Str)) = false := by decide)
  (hs : starEach [a, .Name T p1] X.env = (false, eval a X.env) :: starEach [.Name T p1] X.env := by rfl) (hs2 : starEach [.Name T p1] X.env = (false, eval (.Name T p1) X.env) :: starEach [] X.env := by rfl) :
  PE X (.Call (.Name "isinstance" p0) [a, .Name T p1] [] pos) (tI X.K B (eB p f)) := by
 have hTy : PE X (.Name T p1) (tC (.ty S)) := pe_bltn hgT hmT hST rfl hnT hdT
 refine pe_imp (pe_callB (call_isT hT) hg hm boot_isinstance (pa_cons ha (pa_cons hTy pa_nil hs2) hs) (he := hs)) ?_
 rintro σ H Q ⟨A, st, d, rs, hd, q⟩
 obtain ⟨x, hx, h2⟩ := R.ok_of hd
 obtain ⟨hbl, h2⟩ := guardR_of h2
 cases h2
 exact ⟨A, st, x, rs, hx, fun v H1 s1 r1 => ⟨v, x, rfl, hbl, r1.rep, q _ H1 s1 (rep_bl.mpr rfl)⟩⟩
theorem ty_bool : IsT "bool" isBl := ⟨rfl, fun K d hb => by cases d <;> first | (cases hb; done) | kernel_rfl⟩
theorem ty_int : IsT "int" isIn := ⟨rfl, fun K d hb => by cases d <;> first | (cases hb; done) | kernel_rfl⟩
theorem ty_list : IsT "list" isLs := ⟨rfl, fun K d hb => by cases d <;> first | (cases hb; done) | kernel_rfl⟩
end
end Pu
namespace Pu
open PySem PySem.Spec PyProof.Rows L2 PySem.SeqAt PySem.StrLaws
theorem subAt_list (x y : List Nat) (i : Nat) : Builtin.Str.subAt ⟨x.toArray⟩ ⟨y.toArray⟩ i = ((x.drop i).take y.length == y) := by
 rw [subAt_eq]
 simp [Str.length]
theorem occ_full (s sub : Str) (hi : Nat) : ∀ (l : List Nat) (st : Array Nat × Nat), 1 <= st.1.size -> (forIn l st (occBody s sub hi 1)).run.fst = st.1
 | [], st, h => rfl
 | a :: l, st, h => by
  rw [List.forIn_cons]
  unfold occBody
  rw [if_neg (fun z => by have := z.1.1.1; omega)]
  exact occ_full s sub hi l (st.1, st.2) h
theorem occ_find (s sub : Str) (hi : Nat) : ∀ (l : List Nat) (free : Nat), (∀ i ∈ l, free <= i) ->
  (forIn l ((#[] : Array Nat), free) (occBody s sub hi 1)).run.fst.toList = (l.find? fun i => decide (i + sub.length <= hi) && Builtin.Str.subAt s sub i).toList
 | [], free, _ => rfl
 | a :: l, free, hf => by
  rw [List.forIn_cons]
  have ha : free <= a := hf a List.mem_cons_self
  by_cases hc : a + sub.length <= hi /\ Builtin.Str.subAt s sub a = true
  ·have e : (decide (a + sub.length <= hi) && Builtin.Str.subAt s sub a) = true := by rw [hc.2, decide_eq_true hc.1]; rfl
   rw [List.find?_cons_of_pos (p := fun i => decide (i + sub.length <= hi) && Builtin.Str.subAt s sub i) e]
   have e2 : occBody s sub hi 1 a ((#[] : Array Nat), free) = pure (ForInStep.yield ((#[] : Array Nat).push a, a + sub.length)) := by
    unfold occBody
    exact if_pos ⟨⟨⟨by simp, ha⟩, hc.1⟩, hc.2⟩
   rw [e2]
   show (forIn l (((#[] : Array Nat).push a), a + sub.length) (occBody s sub hi 1)).run.fst.toList = _
   rw [occ_full s sub hi l _ (by simp)]
   rfl
  ·have e : ¬ (decide (a + sub.length <= hi) && Builtin.Str.subAt s sub a) = true := fun z => hc (by simpa using z)
   rw [List.find?_cons_of_neg (p := fun i => decide (i + sub.length <= hi) && Builtin.Str.subAt s sub i) e]
   have e2 : occBody s sub hi 1 a ((#[] : Array Nat), free) = pure (ForInStep.yield ((#[] : Array Nat), free)) := by
    unfold occBody
    exact if_neg fun h => hc ⟨h.1.2, h.2⟩
   rw [e2]
   exact occ_find s sub hi l free fun i hi' => hf i (List.mem_cons_of_mem _ hi')
theorem occ_findN (x y : List Nat) (lo : Nat) : Builtin.Str.occurrences ⟨x.toArray⟩ ⟨y.toArray⟩ lo (⟨x.toArray⟩ : Str).length 1 = (findN x y lo).toList := by
 rw [occ_eq, occ_find _ _ _ _ _ (fun i hi => by simp [List.mem_range'] at hi; omega)]
 unfold findN
 simp only [subAt_list, str_len]
section
variable {X : Cx} {B : List Addr} {a b e o : Expr} {f g : Ex} {pos : Pos}
end
end Pu
namespace Pu
open PySem PySem.Spec PyProof.Rows L2 PySem.SeqAt
section
variable {X : Cx} {B : List Addr} {a b e o : Expr} {f g : Ex} {pos : Pos} {r : Exs} {es : List Expr} {apos cpos : Pos}
open Classical in
noncomputable def eqOf (K : PySem.W.Frag) (H : Hp) (x : D) (u : Value) : Bool := if ∃ d z, Rep K H d z /\ RelV z u /\ plain d = true /\ eqD d x = true then true else false
theorem eqOf_is {pins : List (Addr × Obj)} {σ : LSt} {H : Hp} {s : Shared} (I : Inv X pins σ H s) {x d : D} {z : V} {u : Value} (r : Rep X.K H d z) (rz : RelV z u) (pd : plain d = true) : eqOf X.K H x u = eqD d x := by
 unfold eqOf
 split
 ·rename_i h
  obtain ⟨d', z', r', rz', pd', e⟩ := h
  have := RelV.inj rz rz'
  subst this
  rw [Rep.inj I pd pd' r r', e]
 ·rename_i h
  cases hb : eqD d x with
  | false => rfl
  | true => exact (h ⟨d, z, r, rz, pd, hb⟩).elim
theorem any_of {pins : List (Addr × Obj)} {σ : LSt} {H : Hp} {s : Shared} (I : Inv X pins σ H s) {x : D} : ∀ {ds : List D} {zs : List V} {us : List Value}, Reps X.K H ds zs -> Vals zs us -> plains ds = true -> us.any (eqOf X.K H x) = inD x ds
 | [], zs, us, r, v, _ => by
  have e := reps_nil.mp r; subst e; cases v; rfl
 | d :: ds, zs, us, r, v, p => by
  obtain ⟨z, r', e, h1, h2⟩ := reps_cons.mp r; subst e
  simp only [plains_cons, Bool.and_eq_true] at p
  cases v with
  | cons v vs =>
   rw [List.any_cons, eqOf_is I h1 v p.1, any_of I h2 vs p.2]
   unfold inD
   rw [List.any_cons]
theorem mem_of {pins : List (Addr × Obj)} {σ : LSt} {H : Hp} {s : Shared} (I : Inv X pins σ H s) {A : Around} {x : D} {zx : V} {ux : Value} (rx : Rep X.K H x zx) (vx : RelV zx ux) (px : plain x = true) : ∀ {ds : List D} {zs : List V} {us : List Value}, Reps X.K H ds zs -> Vals zs us -> plains ds = true -> A.units + deps ds < cLine -> ∀ u ∈ us, EqAt A s u ux (eqOf X.K H x u)
 | [], zs, us, r, v, _, _ => by
  have e := reps_nil.mp r; subst e; cases v; exact fun u hu => nomatch hu
 | d :: ds, zs, us, r, v, p, hd => by
  obtain ⟨z, r', e, h1, h2⟩ := reps_cons.mp r; subst e
  simp only [plains_cons, Bool.and_eq_true] at p
  rw [deps_cons] at hd
  cases v with
  | cons v vs =>
   intro u hu
   rcases List.mem_cons.mp hu with rfl | hu
   ·rw [eqOf_is I h1 v p.1]
    exact eqAt_rep I d x A z zx _ ux h1 rx v vx (by omega) p.1 px
   ·exact mem_of I rx vx px h2 vs p.2 (by omega) u hu
def rInD (K : PySem.W.Frag) (neg : Bool) : R2 := fun v u H Q => (∃ a o, u = .ref a /\ DGet H a v o /\ Q (.bl (if neg then !o.isSome else o.isSome)) H) \/ (∃ x ds zs p, u = .ref p /\ (SqL K H p zs \/ SqT K H p zs) /\ Rep K H x v /\ Reps K H ds zs /\ deps ds <= 60 /\ plain x = true /\ plains ds = true /\ Q (.bl (if neg then !inD x ds else inD x ds)) H) \/
 ∃ i j : List Nat, v = .str ⟨i.toArray⟩ /\ u = .str ⟨j.toArray⟩ /\ Q (.bl (if neg then !(findN j i 0).isSome else (findN j i 0).isSome)) H
theorem some_of (x y : List Nat) : (!(Builtin.Str.occurrences ⟨x.toArray⟩ ⟨y.toArray⟩ 0 (⟨x.toArray⟩ : Str).length 1).isEmpty) = (findN x y 0).isSome := by
 rw [occ_findN]
 cases findN x y 0 <;> rfl
theorem op_inD (hu : X.A.units + 64 < cLine) : OpR X (compareOp .In) (rInD X.K false) := by
 intro pins s σ H v u a b Q I ra rb h
 rcases h with ⟨p, o, rfl, g, q⟩ | ⟨x, ds, zs, p, rfl, hq, rx, rds, hd, px, pd, q⟩ | ⟨i, j, rfl, rfl, q⟩
 ·cases rb
  exact d_in (by omega) I g ra fun s' I' => ⟨.bl _, H, I', rfl, q⟩
 ·cases rb
  have hin : X.A.in1.units + deps ds < cLine := by show X.A.units + 1 + deps ds < cLine; omega
  rcases hq with hq | hq
  ·obtain ⟨its, r, pl, hz⟩ := I.list hq
   refine SeqAt.in_listAt (eqOf X.K H x) pl.isList (fun w hw => mem_of I rx ra px rds r pd hin w (by simpa using hw)) ⟨.bl _, H, I, rfl, ?_⟩
   rw [show its.toArray.any (eqOf X.K H x) = its.any (eqOf X.K H x) by simp, any_of I rds r pd]
   exact q
  ·obtain ⟨its, r, pl, hz⟩ := I.tuple hq
   refine SeqAt.in_tupleAt (eqOf X.K H x) pl (fun w hw => mem_of I rx ra px rds r pd hin w (by simpa using hw)) ⟨.bl _, H, I, rfl, ?_⟩
   rw [show its.toArray.any (eqOf X.K H x) = its.any (eqOf X.K H x) by simp, any_of I rds r pd]
   exact q
 ·refine op_in_str pins s σ H _ _ a b Q I ra rb ⟨_, _, rfl, rfl, ?_⟩
  rw [some_of]
  exact q
theorem sem_in {K : PySem.W.Frag} : Sem2 K (rInD K false) dIn := by
 intro A H x y d v u Q w rx ry e q
 unfold dIn at e
 split at e
 ·obtain ⟨c, e⟩ := guardR_of e
  cases e
  rename_i t ks ds
  have rxr : Rep K H x v := rx.rep
  obtain ⟨a, o, e1, g, g1, _⟩ := dget_of ry rxr c
  exact .inl ⟨a, o, e1, g, by rw [g1]; exact q _ H (Same.refl _) (rep_bl.mpr rfl)⟩
 ·obtain ⟨c, e⟩ := guardR_of e
  cases e
  obtain ⟨p, zs, h1, h2, h3⟩ := ry.lst
  exact .inr (.inl ⟨_, _, zs, p, h1, .inl h2, rx.rep, h3.mono (hide_sub _ _), c.1, c.2.1, c.2.2, q _ H (Same.refl _) (rep_bl.mpr rfl)⟩)
 ·obtain ⟨c, e⟩ := guardR_of e
  cases e
  obtain ⟨p, zs, h1, h2, h3⟩ := ry.tup
  exact .inr (.inl ⟨_, _, zs, p, h1, .inr h2, rx.rep, h3.mono (hide_sub _ _), c.1, c.2.1, c.2.2, q _ H (Same.refl _) (rep_bl.mpr rfl)⟩)
 ·cases e
  exact .inr (.inr ⟨_, _, rx.str, ry.str, q _ H (Same.refl _) (rep_bl.mpr rfl)⟩)
 ·cases e
end
end Pu
namespace Pu
open PySem PySem.Spec PyProof.Rows L2
section
variable {X : Cx} {B : List Addr} {a b e : Expr} {f g : Ex} {pos : Pos}
theorem s_app (i : Nat) {x : Str} {p1 apos cpos : Pos} (he : PE X e (tI X.K B f)) (hN : X.N[i]? = some x := by rfl) (hv : Vis X.env.scope x := by first | exact Or.inl rfl | exact Or.inr (Or.inl rfl) | exact Or.inr (Or.inr rfl)) (hd : (x == ("__debug__" : Str)) = false := by decide)
  (hcd : (x == ("__classdict__" : Str)) = false := by decide) (hbase : attributeBase (.Name x p1) "append" X.env (eval (.Name x p1) X.env) = eval (.Name x p1) X.env := by rfl)
  (hfew : ((backTo cpos (starEach [e] X.env)).all (fun x => !x.1) && (backToKw cpos (keywordEach [] X.env)).all (fun x => x.1.isSome)
   && decide (([e] : List Expr).length + ([] : List Keyword).length + (if ([] : List Keyword).isEmpty then 0 else 1) < 30)) = true := by rfl)
  (hline : (apos.endLine == cpos.line) = true := by rfl) (hs : starEach [e] X.env = (false, eval e X.env) :: starEach [] X.env := by rfl)
  (hsw : swapsWith (.Call (.Attribute (.Name x p1) "append" apos) [e] [] cpos) none pos.line X.env = pure false := by rfl) :
  PS X (.Expr (.Call (.Attribute (.Name x p1) "append" apos) [e] [] cpos) pos) (tS X.K B (sApp i f)) := by
 refine ps_imp (ps_expr (pe_bm PySem.F.plainAttrs_list PySem.F.slot_list_append PySem.F.type_list_append mt_append (pe_var hN hv hd hcd) (pa_cons he pa_nil hs) hbase hfew hline hs rfl) hsw) ?_
 rintro Dn σ H ⟨A, st, r, rs, hr, p⟩
 obtain ⟨d, hd, h3⟩ := R.ok_of hr
 split at h3
 ·rename_i xs e1
  obtain ⟨c, h4⟩ := guardR_of h3
  cases h4
  obtain ⟨l, o, vs, e2, m, h1, ko, q, u⟩ := rs.lst i _ xs e1
  have eo : o = .lst vs := ko
  subst eo
  refine ⟨.ref l, e2, .inl ⟨rfl, vs, SqL.of h1⟩, A, st, d, rs, hd, fun v H' s rv => ?_⟩
  have ql := q.length
  refine ⟨l, vs, v, rfl, rfl, s _ _ h1, by rw [ql]; rw [big_eq] at c; exact Nat.lt_of_lt_of_le c (by decide), ?_⟩
  obtain ⟨w1, w2⟩ := (rs.mono s).write e1 e2 (k1 := .l) (ds := xs ++ [d]) (vs' := vs ++ [v]) rfl ((q.mono (Same.hide s)).append (.cons rv .nil))
  exact p A _ _ ((Le.of s).trans w2) w1
 ·cases h3
theorem s_put (i : Nat) {x : Str} {j : Expr} {p1 p2 : Pos} (hj : PE X j (tP X.K B g)) (he : PE X e (tI X.K B f)) (hN : X.N[i]? = some x := by rfl) (hv : Vis X.env.scope x := by first | exact Or.inl rfl | exact Or.inr (Or.inl rfl) | exact Or.inr (Or.inr rfl)) (hd : (x == ("__debug__" : Str)) = false := by decide)
  (hcd : (x == ("__classdict__" : Str)) = false := by decide)
  (ha : ∀ v, assign (.Subscript (.Name x p1) j p2) X.env v = (do
   let ov <- holding [v] (eval (.Name x p1) X.env)
   let iv <- holding [v, ov] (eval j X.env)
   standAt p2
   holding [v, ov, iv] (setItem ov iv v)
   release [v, ov, iv] []) := by intro _; rfl)
  (hs : swapsWithSole [.Subscript (.Name x p1) j p2] e pos.line X.env = pure false := by rfl) (hw : swappedStores [.Subscript (.Name x p1) j p2] e X.env = pure none := by rfl)
  (h1 : (assignEach [.Subscript (.Name x p1) j p2] X.env).map (·.2) = [assign (.Subscript (.Name x p1) j p2) X.env] := by rfl) :
  PS X (.Assign [.Subscript (.Name x p1) j p2] e pos) (tS X.K B (sPut i g f)) := by
 refine ps_imp (ps_asg he (pg_sub (pe_var hN hv hd hcd) hj set_list ha) hs hw h1) ?_
 rintro Dn σ H ⟨A, st, r, rs, hr, p⟩
 obtain ⟨d, hd, h3⟩ := R.ok_of hr
 obtain ⟨y, hy, h4⟩ := R.ok_of h3
 obtain ⟨k, rfl, h5⟩ := inI_of h4
 split at h5
 ·rename_i xs e1
  obtain ⟨n, hn, h6⟩ := R.ok_of h5
  cases h6
  obtain ⟨l, o, vs, e2, m, h1, ko, q, u⟩ := rs.lst i _ xs e1
  have eo : o = .lst vs := ko
  subst eo
  refine ⟨A, st, d, rs, hd, fun v H' s rv => ⟨.ref l, e2, A, st, _, rs.mono s, hy, fun w H2 s2 rw2 => ?_⟩⟩
  have ql := q.length
  have hk : L2.ixN vs.length k = some n := by rw [ql, ixN_same]; exact ofO_of hn
  refine ⟨l, vs, k, n, rfl, rw2.int, (s.trans s2) _ _ h1, hk, ?_⟩
  obtain ⟨w1, w2⟩ := (rs.mono (s.trans s2)).write e1 e2 (k1 := .l) (ds := xs.set n d) (vs' := vs.set n v) rfl (Reps.set (rv.mono (Same.hide s2)) n (q.mono (Same.hide (s.trans s2))))
  exact p A _ _ ((Le.of (s.trans s2)).trans w2) w1
 ·cases h5
theorem s_dnewK (i : Nat) {x : Str} {pos' dp : Pos} (hN : X.N.Nodup) (hi : X.N[i]? = some x := by rfl) (hx : Loc X.env.scope x := by first | exact Or.inl rfl | exact Or.inr rfl) (hs : swapsWith (.Dict [] [] dp) (some (.Name x pos')) pos.line X.env = pure false := by rfl)
  (hf : X.fn x = true \/ X.env.scope.names.lookup x = some .local := by first | exact .inl rfl | exact .inr rfl | assumption) : PS X (.Assign [.Name x pos'] (.Dict [] [] dp) pos) (tS X.K B (sDNew i false)) := ps_imp (ps_set hN hi hx pe_dnewK hs hf) (by
 rintro Dn σ H ⟨A, st, r, rs, hr, p⟩
 cases hr
 exact fun a ha => p (a :: A) _ _ (le_new ha) (rs.setO (kk := .d false []) i ha (.inl ⟨rfl, [], rfl, rfl, rfl⟩) .nil))
def rSetD : V -> V -> V -> Hp -> (Hp -> Prop) -> Prop := fun o i v H Q => ∃ p H', o = .ref p /\ DPut H p i v H' /\ Q H'
theorem set_dict (hu : X.A.units + 64 < cLine) : PSet X rSetD := by
 intro pins s σ H o i v ov iv u Q I ro ri rv h
 obtain ⟨p, H', rfl, g, q⟩ := h
 cases ro
 exact d_setItem (by omega) I g ri rv fun s' I' => ⟨H', I', q⟩
theorem s_dput (hu : X.A.units + 64 < cLine) (i : Nat) {x : Str} {j : Expr} {p1 p2 : Pos} (hj : PE X j (tI X.K B g)) (he : PE X e (tI X.K B f)) (hN : X.N[i]? = some x := by rfl) (hv : Vis X.env.scope x := by first | exact Or.inl rfl | exact Or.inr (Or.inl rfl) | exact Or.inr (Or.inr rfl)) (hd : (x == ("__debug__" : Str)) = false := by decide)
  (hcd : (x == ("__classdict__" : Str)) = false := by decide)
  (ha : ∀ v, assign (.Subscript (.Name x p1) j p2) X.env v = (do
   let ov <- holding [v] (eval (.Name x p1) X.env)
   let iv <- holding [v, ov] (eval j X.env)
   standAt p2
   holding [v, ov, iv] (setItem ov iv v)
   release [v, ov, iv] []) := by intro _; rfl)
  (hs : swapsWithSole [.Subscript (.Name x p1) j p2] e pos.line X.env = pure false := by rfl) (hw : swappedStores [.Subscript (.Name x p1) j p2] e X.env = pure none := by rfl)
  (h1 : (assignEach [.Subscript (.Name x p1) j p2] X.env).map (·.2) = [assign (.Subscript (.Name x p1) j p2) X.env] := by rfl) :
  PS X (.Assign [.Subscript (.Name x p1) j p2] e pos) (tS X.K B (sDPut i g f)) := by
 refine ps_imp (ps_asg he (pg_sub (pe_var hN hv hd hcd) hj (set_dict hu) ha) hs hw h1) ?_
 rintro Dn σ H ⟨A, st, r, rs, hr, p⟩
 obtain ⟨d, hd, h3⟩ := R.ok_of hr
 obtain ⟨k, hk, h5⟩ := R.ok_of h3
 split at h5
 ·rename_i t ks ds e1
  obtain ⟨c, h6⟩ := guardR_of h5
  cases h6
  obtain ⟨l, o, vs, e2, m, h1, ko, q, u⟩ := rs.lst i _ _ e1
  refine ⟨A, st, d, rs, hd, fun v H' s rv => ⟨.ref l, e2, A, st, k, rs.mono s, hk, fun w H2 s2 rk => ?_⟩⟩
  have hl : H2 l = some o := (s.trans s2) _ _ h1
  have q2 := q.mono (Same.hide (s.trans s2))
  have rv2 := rv.mono (Same.hide s2)
  have rk2 : Rep X.K H2 k w := rk.mono (hide_sub _ _)
  have hlen : ds.length < sizeLine := by have := c.2; rw [big_eq] at this; exact Nat.lt_of_lt_of_le this (by decide)
  have ql := q.length
  rcases ko with ⟨rfl, kvs, rfl, rfl, rfl⟩ | ⟨rfl, kvs, rfl, rfl, rfl⟩
  ·obtain ⟨k', e3, e4⟩ := key_of_rep rk2 c.1
   subst e3 e4
   obtain ⟨z1, z2⟩ := putK_of eqK_key k' v d rv2 kvs ds q2
   refine ⟨l, _, rfl, DPut.k hl (by rw [List.length_map] at ql; omega), ?_⟩
   obtain ⟨w1, w2⟩ := (rs.mono (s.trans s2)).write e1 e2 (k1 := .d false (putKs (kvs.map fun p => keyD p.1) (keyD k'))) (.inl ⟨rfl, putK kvs k' v, rfl, z1, rfl⟩) z2
   exact p A _ _ ((Le.of (s.trans s2)).trans w2) w1
  ·obtain ⟨k', b, e3, e4, e5⟩ := tkey_of_rep rk2 c.1
   subst e3 e4
   obtain ⟨z1, z2⟩ := putK_of (E := fun l => D.tup (l.map keyD)) eqK_keys k' v d rv2 kvs ds q2
   refine ⟨l, _, rfl, DPut.t hl e5 (by rw [List.length_map] at ql; omega), ?_⟩
   obtain ⟨w1, w2⟩ := (rs.mono (s.trans s2)).write e1 e2 (k1 := .d true (putKs (kvs.map fun p => D.tup (p.1.map keyD)) (.tup (k'.map keyD)))) (.inr ⟨rfl, putK kvs k' v, rfl, z1, rfl⟩) z2
   exact p A _ _ ((Le.of (s.trans s2)).trans w2) w1
 ·cases h5
end
end Pu
namespace Pu
open PySem PySem.Spec PyProof.Rows L2
section
open PySem.SeqAt
open PySem.AutoSeq1 (wpAny_loadPart')
open PySem.MeetsSeq PySem.MeetsSeq2 PySem.MeetsSeq3
inductive LexV (A : Around) (s : Shared) : List Value -> List Value -> Bool -> Prop where
 | nn : LexV A s [] [] false
 | nc {w : Value} {ws : List Value} : LexV A s [] (w :: ws) true
 | cn {v : Value} {vs : List Value} : LexV A s (v :: vs) [] false
 | eq {v w : Value} {vs ws : List Value} {b : Bool} : EqAt A s v w true -> LexV A s vs ws b -> LexV A s (v :: vs) (w :: ws) b
 | lt {v w : Value} {vs ws : List Value} {b : Bool} : EqAt A s v w false -> (∀ (prog : Program) (wd : World) (E Q : Value -> Shared -> Prop), Q (.bool b) s -> wpAny (model prog wd) A (richCompare .Lt v w) Q E s) -> LexV A s (v :: vs) (w :: ws) b
end
section
variable {X : Cx}
end
end Pu
namespace Pu
open PySem PySem.Spec PyProof.Rows L2
structure ClsAt (K : PySem.W.Frag) (c : String) (C : Addr) : Prop where
 ns : PySem.W.nsIn K mainGlobals (Str.ofString c) = some (some (.ref C))
 cl : Cls K C
theorem ofString_inj {a b : String} (h : Str.ofString a = Str.ofString b) : a = b := by
 have h1 : (Str.ofString a).cps = (Str.ofString b).cps := by rw [h]
 rw [Str.ofString_eq_toList, Str.ofString_eq_toList] at h1
 have h2 : a.toList.map Char.toNat = b.toList.map Char.toNat := by
  have := congrArg Array.toList h1
  simpa using this
 have inj : ∀ (x y : List Char), x.map Char.toNat = y.map Char.toNat -> x = y := by
  intro x
  induction x with
  | nil => intro y h; cases y with | nil => rfl | cons _ _ => simp at h
  | cons a x ih =>
   intro y h
   cases y with
   | nil => simp at h
   | cons b y =>
    rw [List.map_cons, List.map_cons] at h
    injection h with h3 h4
    rw [ih y h4]
    congr 1
    exact Char.ext (UInt32.toNat_inj.mp h3)
 exact String.toList_inj.mp (inj _ _ h2)
section
variable {K : PySem.W.Frag} {H : Hp}
theorem lookup_fld {f : String} : ∀ {ns : List String} {ds : List D} {fs : List (Str × V)} {d : D}, fs.map (·.1) = ns.map Str.ofString -> Reps K H ds (fs.map (·.2)) -> (ns.zip ds).lookup f = some d -> ∃ v, fs.lookup (Str.ofString f) = some v /\ Rep K H d v
 | [], ds, fs, d, _, _, h => by simp at h
 | n :: ns, [], fs, d, _, _, h => by simp at h
 | n :: ns, d0 :: ds, [], d, e, _, h => by simp at e
 | n :: ns, d0 :: ds, (g, w) :: fs, d, e, r, h => by
  rw [List.map_cons, List.map_cons] at e
  injection e with e1 e2
  obtain ⟨v, r', e3, h1, h2⟩ := reps_cons.mp r
  rw [List.map_cons] at e3
  injection e3 with e4 e5
  subst e4 e5
  have e1' : g = Str.ofString n := e1
  subst e1'
  rw [List.zip_cons_cons, List.lookup_cons] at h
  rw [List.lookup_cons]
  by_cases hf : f = n
  ·subst hf
   simp only [beq_self_eq_true] at h ⊢
   cases h
   exact ⟨_, rfl, h1⟩
  ·have hb : (f == n) = false := beq_eq_false_iff_ne.mpr hf
   have hb2 : (Str.ofString f == Str.ofString n) = false := beq_eq_false_iff_ne.mpr fun z => hf (ofString_inj z)
   rw [hb] at h
   rw [hb2]
   exact lookup_fld e2 h2 h
theorem putF_new {f : String} {v : V} : ∀ {ns : List String} {fs : List (Str × V)}, fs.map (·.1) = ns.map Str.ofString -> f ∉ ns -> putF (Str.ofString f) v fs = fs ++ [(Str.ofString f, v)]
 | [], fs, e, _ => by cases fs with | nil => rfl | cons _ _ => simp at e
 | n :: ns, [], e, _ => by simp at e
 | n :: ns, (g, w) :: fs, e, h => by
  rw [List.map_cons, List.map_cons] at e
  injection e with e1 e2
  have e1' : g = Str.ofString n := e1
  subst e1'
  unfold putF
  rw [if_neg (fun z => h (by rw [ofString_inj z]; exact List.mem_cons_self)), putF_new e2 fun z => h (List.mem_cons_of_mem _ z)]
  rfl
end
section
variable {X : Cx} {B : List Addr} {a b e o : Expr} {f g : Ex} {pos : Pos}
theorem RepP.ins {K : PySem.W.Frag} {A : List Addr} {H : Hp} {c : String} {ns : List String} {ds : List D} {v : V} (h : RepP K A H (.ins c ns ds) v) : ∃ p C dx fs, v = .ref p /\ H p = some (.ins C dx fs) /\ PySem.W.nsIn K mainGlobals (Str.ofString c) = some (some (.ref C)) /\ fs.map (·.1) = ns.map Str.ofString /\ Reps K (hide A H) ds (fs.map (·.2)) := by
 rcases h with h | ⟨p, kk, o, ds', vs, e, e2, h, ko, r⟩
 ·obtain ⟨p, C, dx, fs, vs, e, q1, q2, q3, q4, r⟩ := rep_ins.mp h
  subst q4
  exact ⟨p, C, dx, fs, e, hide_sub _ _ _ _ q1, q2, q3, r⟩
 ·cases kk <;> cases e
  obtain ⟨_, C, dx, fs, rfl, q2, q3, rfl⟩ := ko
  exact ⟨p, C, dx, fs, e2, h, q2, q3, r⟩
theorem i_fld {c f' : String} {C : Addr} (hc : ClsAt X.K c C) (hn : NoAttr X.K C (Str.ofString f')) (ho : PE X o (tP X.K B f)) (hb : attributeBase o (Str.ofString f') X.env (eval o X.env) = eval o X.env := by rfl) :
  PE X (.Attribute o (Str.ofString f') pos) (tI X.K B (e1 (dFld c f') f)) := by
 refine pe_imp (pe_fld ho hb) ?_
 rintro σ H Q ⟨A, st, d, rs, hd, q⟩
 obtain ⟨x, hx, h2⟩ := R.ok_of hd
 refine ⟨A, st, x, rs, hx, fun v H1 s1 r1 => ?_⟩
 cases x <;> first | (cases h2; done) | skip
 obtain ⟨e1, h3⟩ := guardR_of h2
 subst e1
 obtain ⟨p, C', dx, fs, e2, h4, h5, h6, h7⟩ := r1.ins
 have : C' = C := by have z := h5.symm.trans hc.ns; injection z with z; injection z with z; injection z
 subst this
 obtain ⟨w, h8, h9⟩ := lookup_fld h6 h7 (ofO_of h3)
 exact ⟨p, C', dx, fs, w, e2, h4, hc.cl, hn, h8, q w H1 s1 h9⟩
def spM (K : PySem.W.Frag) (c : String) (np : Nat) (p : List D -> R D) : Sp := fun vs H Q _ => ∃ x ws A C dx ds d, vs = .ref x :: ws /\ H x = some (.ins C dx []) /\ PySem.W.nsIn K mainGlobals (Str.ofString c) = some (some (.ref C)) /\ Own A H /\ x ∉ A /\ Reps K (hide (x :: A) H) ds ws /\ ds.length = np /\ p ds = .ok d /\
 ∀ H', Same (hide [x] H) H' -> Rep K (hide A H') d (.ref x) -> Q .non H'
structure MakeOk (P : Program) (w : World) (K : PySem.W.Frag) (mg : Str -> Option Value) (base : Heap) (c : String) (k np : Nat) (p : List D -> R D) : Prop where
 ex : ∃ (C fa : Addr) (fd : FuncData) (ps : List Str), ClsAt K c C /\ Mk K C fa /\ FnOk P w K mg base CX0 k fa fd ps (spM K c np p) /\ Binds K fd ps [] /\ mg (Str.ofString c) = some (.ref C)
 len : ∀ ds d, p ds = .ok d -> ds.length = np
theorem i_make {c : String} {k j np : Nat} {p : List D -> R D} {es : List Expr} {r : Exs} {p0 : Pos} (h : MakeOk X.prog X.w X.K X.mg X.base c k np p) (hr : Room j X.A) (hk : k + 1 <= j) (ha : PA X (e :: es) (tA X.K B r)) (hg : Gl X (Str.ofString c) := by rfl) (hdb : (Str.ofString c == ("__debug__" : Str)) = false := by decide)
  (he : starEach (e :: es) X.env = (false, eval e X.env) :: starEach es X.env := by rfl) (hpl : (backTo pos (starEach es X.env)).any (·.1) = false := by rfl) : PE X (.Call (.Name (Str.ofString c) p0) (e :: es) [] pos) (tI X.K B (eCall p r)) := by
 obtain ⟨C, fa, fd, ps, hc, M, F, bd, hm⟩ := h.ex
 refine pe_imp (pe_make M F (hr.mono hk) hg hm bd .nil pass0 ha hdb he hpl) ?_
 rintro σ H Q ⟨A, st, d, rs, hd, q⟩
 obtain ⟨xs, hx, h2⟩ := R.ok_of hd
 refine ⟨A, st, xs, rs, hx, fun vs H1 s1 r1 x dx hx0 hdx hne => ?_⟩
 have w1 := rs.own.mono s1
 have hxA : x ∉ A ++ B := w1.free hx0
 have e0 : ∀ b u, H1 b = some u -> upd (upd H1 dx (.own x)) x (.ins C dx []) b = some u := fun b u z => by
  rw [upd_ne (ne_of_none z hx0), upd_ne (ne_of_none z hdx)]; exact z
 refine ⟨x, vs ++ [], A ++ B, C, dx, xs, d, rfl, upd_same, hc.ns, fun b hb => ?_, hxA, ?_, h.len _ _ h2, h2, fun H' sm rd => ⟨rfl, q _ H' (fun b u z => ?_) rd⟩⟩
 ·obtain ⟨u, z⟩ := Option.isSome_iff_exists.mp (w1 b hb)
  rw [e0 b u z]; rfl
 ·rw [List.append_nil]
  refine r1.mono fun b u z => ?_
  have z1 := hide_sub _ _ _ _ z
  have hb : b ∉ A ++ B := fun y => by rw [hide_in y] at z; cases z
  rw [hide_out (fun y => (List.mem_cons.mp y).elim (ne_of_none z1 hx0) hb)]
  exact e0 b u z1
 ·have z1 := s1 _ _ z
  exact sm b u (by rw [hide_out (by simpa using ne_of_none z1 hx0)]; exact e0 b u z1)
theorem start_rsI {K : PySem.W.Frag} {A : List Addr} {H : Hp} {N : List Str} {ds : List D} {ws : List V} {x C dx : Addr} {c : String} (w : Own A H) (hxA : x ∉ A) (hx : H x = some (.ins C dx [])) (hns : PySem.W.nsIn K mainGlobals (Str.ofString c) = some (some (.ref C))) (r : Reps K (hide (x :: A) H) ds ws) :
  RS K A [x] H (some (Sl.o (.i x c []) []) :: (ds.map (fun d => some (Sl.v d)) ++ List.replicate (N.length - ds.length - 1) none)) (L2.start N (.ref x :: ws)) := by
 have hl := r.length
 have sh : L2.start N (.ref x :: ws) = some (.ref x) :: (ws.map some ++ List.replicate (N.length - ds.length - 1) none) := by
  unfold L2.start
  rw [List.map_cons, List.cons_append, List.length_cons, hl]
  congr 2
 rw [sh]
 have nov : ∀ (i : Nat) (s : Sl), (ds.map (fun d => some (Sl.v d)) ++ List.replicate (N.length - ds.length - 1) none)[i]? = some (some s) -> ∃ d, ds[i]? = some d /\ s = .v d := fun i s e => by
  by_cases hi : i < ds.length
  ·rw [List.getElem?_append_left (by simpa using hi), List.getElem?_map, List.getElem?_eq_getElem hi] at e
   simp at e
   exact ⟨ds[i], List.getElem?_eq_getElem hi, e.symm⟩
  ·rw [List.getElem?_append_right (by simpa using hi), List.getElem?_replicate] at e
   split at e <;> simp at e
 refine ⟨by simp [hl], fun b hb => ?_, fun b hb => by rw [List.mem_singleton.mp hb]; exact hxA, fun i d e => ?_, fun i k xs e => ?_⟩
 ·rcases List.mem_append.mp hb with hb | hb
  ·rw [List.mem_singleton.mp hb, hx]; rfl
  ·exact w b hb
 ·cases i with
  | zero => simp at e
  | succ i =>
   rw [List.getElem?_cons_succ] at e
   obtain ⟨d', e1, e2⟩ := nov i _ e
   cases e2
   obtain ⟨v, hv, rv⟩ := r.get e1
   refine ⟨v, ?_, rv⟩
   have hi : i < ws.length := (List.getElem?_eq_some_iff.mp hv).1
   rw [List.getElem?_cons_succ, List.getElem?_append_left (by simpa using hi), List.getElem?_map, hv]
   rfl
 ·cases i with
  | zero =>
   simp at e
   obtain ⟨rfl, rfl⟩ := e
   refine ⟨x, _, [], rfl, List.mem_singleton.mpr rfl, hx, ⟨rfl, C, dx, [], rfl, hns, rfl, rfl⟩, .nil, fun j k' ys ej _ => ?_⟩
   cases j with
   | zero => rfl
   | succ j =>
    rw [List.getElem?_cons_succ] at ej
    obtain ⟨_, _, e2⟩ := nov j _ ej
    cases e2
  | succ i =>
   rw [List.getElem?_cons_succ] at e
   obtain ⟨_, _, e2⟩ := nov i _ e
   cases e2
theorem fn_init {P : Program} {w : World} {K : PySem.W.Frag} {mg : Str -> Option Value} {base : Heap} {x qual : Str} {st : Stmt} {f : Addr} {fd : FuncData} {N ps : List Str} {k : Nat} (F : Fun K x qual st f fd) (S : FnScope N ps (defScope st)) (c : String) (np n : Nat) (bd : Bd) (hnp : ps.length = np + 1) (hn : N.length = n)
  (hb : ∀ (cdv : Value) (A : Around) (outer : List Env) (s : Shared) (H : Hp) (E : XK) (B : List Addr), Room k (A.deeper (envOfC qual (defScope st) s.heap.objs.size f cdv)) ->
   PSs (cxOf CX0 P w K mg base N qual (defScope st) f cdv A outer s H E).nox (defBody st) (tS K B bd)) : FnOk P w K mg base CX0 (k + 1) f fd ps (spM K c np (runI c np n bd)) := by
 refine F.ok S (fun vs H Q E h => ?_) (fun cdv A outer s H vs Q E hr h => ?_)
 ·obtain ⟨y, ws, A, C, dx, ds, d, rfl, _, _, _, _, r, hl, _⟩ := h
  rw [List.length_cons, r.length, hl, hnp]
 ·obtain ⟨y, ws, A', C, dx, ds, d, rfl, hy, hns, own, hyA, r, hl, hp, q⟩ := h
  refine ⟨tS K A' bd, hb cdv A outer s H E A' hr, ?_⟩
  obtain ⟨_, h2⟩ := guardR_of (runI_of hp y)
  obtain ⟨fl, hfl, h3⟩ := R.ok_of h2
  have rs := start_rsI (N := N) (c := c) own hyA hy hns r
  rw [hl, hn] at rs
  refine ⟨[y], _, fl, rs, hfl, ?_⟩
  cases fl with
  | nx s1 =>
   intro A1 σ1 H1 l rs1
   have h3' : (match (s1[0]? : Option (Option Sl)) with | some (some (.o (.i y' c' ns) xs)) => guardR (y' = y) (R.ok (D.ins c' ns xs)) | _ => .bad) = .ok d := h3
   split at h3'
   ·rename_i y' c' ns xs e1
    obtain ⟨rfl, h4⟩ := guardR_of h3'
    cases h4
    obtain ⟨a, o, vs, e2, m, h5, ko, r5, _⟩ := rs1.lst 0 _ _ e1
    have ea : a = y' := ko.1
    subst ea
    refine q H1 (Same.trans (show Same (hide [a] H) (hide A1 H1) from l) (hide_sub _ _)) ?_
    have := ko.rep (H := hide A' H1) (ds := xs) (by rw [hide_out (rs1.dis a m)]; exact h5) (r5.mono (hide_more fun b hb => List.mem_append_right _ hb))
    exact this
   ·cases h3'
  | rt d' => cases h3
  | bk s1 => cases h3
  | ct s1 => cases h3
theorem runI_len {c : String} {np n : Nat} {bd : Bd} (ds : List D) (d : D) (h : runI c np n bd ds = .ok d) : ds.length = np := (guardR_of (runI_of h 0)).1
theorem s_fldO (i : Nat) {x : Str} {c f' : String} {C : Addr} {p1 p2 : Pos} {value : Expr} (hc : ClsAt X.K c C) (hn : NoAttr X.K C (Str.ofString f')) (he : PE X value (tI X.K B f)) (hN : X.N[i]? = some x := by rfl) (hv : Vis X.env.scope x := by first | exact Or.inl rfl | exact Or.inr (Or.inl rfl) | exact Or.inr (Or.inr rfl)) (hd : (x == ("__debug__" : Str)) = false := by decide)
  (hcd : (x == ("__classdict__" : Str)) = false := by decide) (hs : swapsWith value (some (.Attribute (.Name x p1) (Str.ofString f') p2)) pos.line X.env = pure false := by rfl) :
  PS X (.Assign [.Attribute (.Name x p1) (Str.ofString f') p2] value pos) (tS X.K B (sFldC i c f' f)) := by
 refine ps_imp (ps_fld (pe_var hN hv hd hcd) he hs) ?_
 rintro Dn σ H ⟨A, st, r, rs, hr, p⟩
 obtain ⟨d, hd, h3⟩ := R.ok_of hr
 split at h3
 ·rename_i n c' ns xs e1
  obtain ⟨⟨ec, hf, hlen⟩, h4⟩ := guardR_of h3
  subst ec
  cases h4
  obtain ⟨l, o, vs, e2, m, h1, ko, q, u⟩ := rs.lst i _ _ e1
  obtain ⟨el, C', dx, fs, rfl, k1, k2, rfl⟩ := ko
  have : C' = C := by have z := k1.symm.trans hc.ns; injection z with z; injection z with z; injection z
  subst this
  refine ⟨A, st, d, rs, hd, fun y H1 s1 r1 => ⟨.ref l, e2, l, C', dx, fs, rfl, s1 _ _ h1, hc.cl, hn, ?_, ?_⟩⟩
  ·have := congrArg List.length k2
   rw [List.length_map, List.length_map] at this
   omega
  ·rw [putF_new k2 hf]
   obtain ⟨w1, w2⟩ := (rs.mono s1).write e1 e2 (k1 := .i n c' (ns ++ [f'])) (o' := .ins C' dx (fs ++ [(Str.ofString f', y)])) (ds := xs ++ [d]) (vs' := fs.map (·.2) ++ [y]) ⟨el, C', dx, _, rfl, k1, by rw [List.map_append, List.map_append, k2]; rfl, by rw [List.map_append]; rfl⟩ ((q.mono (Same.hide s1)).append (.cons r1 .nil))
   exact p A _ _ ((Le.of s1).trans w2) w1
 ·cases h3
theorem s_never {sm : Stmt} : PS X sm (tS X.K B sNever) := fun _ _ _ _ _ _ ⟨_, _, _, _, h, _⟩ => nomatch h
end
end Pu
namespace Pu
open PySem PySem.Spec PyProof.Rows L2
section
variable {X : Cx} {B : List Addr} {scope : Scope} {elt tg iter c : Expr} {pos : Pos} {t : Tg} {it : ItE} {f u : Ex}
theorem store_end {pins : List (Addr × Obj)} {σ τ : LSt} {H3 H5 : Hp} {s3 s5 : Shared} {fp : List Addr} {C p : Addr} {m5 : Str -> Option Value} {i : Nat} {x : Str} {px : Pos} {Qf : Value -> Shared -> Prop} (hN : X.N.Nodup) (hi : X.N[i]? = some x) (hx : Loc X.env.scope x)
  (hf : X.fn x = true \/ X.env.scope.names.lookup x = some .local) (hC : s3.heap.objs.size <= C) (I3 : Inv X pins σ H3 s3) (hfp : ∀ b ∈ fp, FpOk X pins H3 b) (I5 : Inv (compCx X scope C s3 H3 fp) [] τ H5 s5) (hn5 : s5.heap.Ns C m5)
  (hQ : ∀ s', Inv X pins (σ.set i (some (.ref p))) H5 s' -> Qf .none s') : compPost (model X.prog X.w) X.A X.xe (some (assign (.Name x px) X.env)) Qf (.ref p) C (.ok .next) s5 := by
 have I5' : Inv X pins σ H5 { s5 with heap := s5.heap } := inv_end I3 hfp hC I5 (.refl ..)
 have lt : ∀ b o, s3.heap.get? b = some o -> C ≠ b := fun b o e z => Nat.lt_irrefl _ (Nat.lt_of_lt_of_le (Heap.lt_size (z ▸ e)) hC)
 have hL : C ≠ X.env.locals := fun z => Nat.lt_irrefl _ (Nat.lt_of_lt_of_le (z ▸ I3.lt) hC)
 have hc : ∀ y c, X.env.cells.lookup y = some c -> c ≠ C := fun y c e => by
  obtain ⟨v, o, ho, _⟩ := I3.cell y c e
  exact (lt c o ho).symm
 have hp : ∀ q ∈ X.pn ++ pins, q.1 ≠ C := fun q hq => (lt q.1 q.2 (I3.pin q hq).1).symm
 show wpAny _ X.A (assign (.Name x px) X.env (.ref p)) _ _ _
 refine wpAny_assign_Name (store_ok2 (v := .ref p) I5' hN hi hx rfl (fun s6 I6 ⟨a, hs, ha⟩ => ?_) hf)
 have hCa : C ≠ a := by
  rcases ha with z | z
  ·rw [z]; exact hL
  ·exact (hc x a z).symm
 refine ⟨m5, hn5.sameBut hs hCa, fun h' hs' => hQ _ ?_⟩
 exact I6.turned (t' := s6.toks) (fun b o hb e => (hs'.2 b hb).trans e) (show H5 C = none from I5.free) hL (.inr (Nat.le_trans I3.sz hC)) hc hp
theorem s_setCif (i : Nat) {x : Str} {px spos : Pos} (is : List Nat) (hsub : TgSub is t) (S : CScope X scope is) (hi : L2.PI X tg iter (tIt X.K B it)) (hg : ∀ (B : List Addr) (C : Addr) (s₀ : Shared) (H₀ : Hp) (fp : List Addr), PG (compCx X scope C s₀ H₀ fp) tg (tG X.K B t))
  (ht : ∀ (B : List Addr) (C : Addr) (s₀ : Shared) (H₀ : Hp) (fp : List Addr), PT (compCx X scope C s₀ H₀ fp) c (tT X.K B u))
  (he : ∀ (B : List Addr) (C : Addr) (s₀ : Shared) (H₀ : Hp) (fp : List Addr), PE (compCx X scope C s₀ H₀ fp) elt (tI X.K B f)) (hc : X.calm = true) (hN : X.N.Nodup) (hi' : X.N[i]? = some x := by rfl) (hx : Loc X.env.scope x := by first | exact Or.inl rfl | exact Or.inr rfl)
  (hsw : swapsWith (.ListComp elt [⟨tg, iter, [c], 0⟩] scope pos) (some (.Name x px)) spos.line X.env = pure true := by rfl)
  (hf : X.fn x = true \/ X.env.scope.names.lookup x = some .local := by first | exact .inl rfl | exact .inr rfl | assumption) (hs : ∀ x, foldedSetIterable iter X.env x = pure x := by intro _; rfl) :
  PS X (.Assign [.Name x px] (.ListComp elt [⟨tg, iter, [c], 0⟩] scope pos) spos) (tS X.K B (sSet i (eComp is t it u f))) := by
 intro pins s σ H Dn I h
 obtain ⟨A, st, r, rs, hr, q⟩ := h
 obtain ⟨d, hd, h3⟩ := R.ok_of hr
 cases h3
 obtain ⟨xs, hx', h2⟩ := R.ok_of hd
 obtain ⟨hl, h3⟩ := guardR_of h2
 obtain ⟨ys, hy, h4⟩ := R.ok_of h3
 cases h4
 rw [exec_Assign_Name_used _ _ _ _ hsw]
 refine wpAny_bind (wpAny_standAt (wpAny_bind ?_))
 show wpAny _ X.A (do let _ <- comprehension (.ListComp elt [⟨tg, iter, [c], 0⟩] scope pos) scope X.env _ (newList []) false (eval iter X.env) (some (assign (.Name x px) X.env))) _ _ s
 refine wpAny_bind (wpAny_mono (Q := fun _ s' => SP X pins Dn .next s') ?_ (fun _ s' hq => wpAny_pure (wpAny_pure hq)) fun _ _ e => e)
 exact comp_core (use := some (assign (.Name x px) X.env)) (Qf := fun _ s' => SP X pins Dn .next s') (Q := fun v H' => Dn.nx (σ.set i (some v)) H') (tt := tTx X.K u) (te := tIx X.K f) (rest := fun env it p => isTrue c env (eval c env) >>= fun ok => if ok = true then (eval elt env >>= fun x => call (.builtin "list.append") [p, x] >>= fun _ => again (.compLoop (.ListComp elt [⟨tg, iter, [c], 0⟩] scope pos) 0 it p env)) else again (.compLoop (.ListComp elt [⟨tg, iter, [c], 0⟩] scope pos) 0 it p env)) S hc hi (fun C s₀ H₀ fp => pg_x fun B => hg B C s₀ H₀ fp) (fun _ _ _ => quiet_comp)
  (fun C s₀ H₀ fp it p s Q h => den1 (Y := compCx X scope C s₀ H₀ fp) h) (fun C s₀ H₀ fp it p τ H s pins vs N Q I h q => rest1 (Y := compCx X scope C s₀ H₀ fp) rfl (pe_x fun B => he B C s₀ H₀ fp) (pt_x fun B => ht B C s₀ H₀ fp) τ H s pins vs N Q I h (fun _ Q Q' m h => tIx_mono Q Q' m h) q) hs I
  (lc_of hsub (fun τ H Q h => h) rs hx' hl hy fun p vs H1 H' s1 hp s2 hv r => comp_e (Q := fun v H' => Dn.nx (σ.set i (some v)) H') rs (fun v H' sm rv => q A _ H' (Le.of sm) ((rs.mono sm).set i rv)) s1 hp s2 hv r) fun C p H5 s5 m5 s3 H3 fp τ hC I3 hfp I5 hn5 q5 => store_end hN hi' hx hf hC I3 hfp I5 hn5 fun s' I' => ⟨_, _, I', q5⟩
end
end Pu
namespace Pu
open PySem PySem.Spec PyProof.Rows L2
structure FunD (K : PySem.W.Frag) (x qual : Str) (st : Stmt) (dV : Value) (f : Addr) (fd : FuncData) : Prop where
 ex : ∃ (oc : Value) (od : Option Addr) (kV doc pm : Value) (an : Option Addr) (cdv ct : Value) (osl : Array (Option Value)),
  fd = PySem.W.fnOf x qual (defArgs st) (defBody st) (defScope st) dV kV doc pm an cdv ct /\ K.lookup f = some ⟨oc, od, .func fd, osl⟩ /\ PySem.W.codeIn K cdv qual = true
 kp : PySem.W.keepIn K (.ref f) = true
section
variable {P : Program} {w : World} {K : PySem.W.Frag} {mg : Str -> Option Value} {base : Heap} {x qual : Str} {st : Stmt} {dV : Value} {f : Addr} {fd : FuncData} {N ps : List Str} {k : Nat}
theorem funD_mk {oc : Value} {od an : Option Addr} {osl : Array (Option Value)} {kV doc pm cdv ct : Value} (l : K.lookup f = some ⟨oc, od, .func (PySem.W.fnOf x qual (defArgs st) (defBody st) (defScope st) dV kV doc pm an cdv ct), osl⟩)
  (c : PySem.W.codeIn K cdv qual = true) (k : PySem.W.keepIn K (.ref f) = true) : FunD K x qual st dV f (PySem.W.fnOf x qual (defArgs st) (defBody st) (defScope st) dV kV doc pm an cdv ct) := ⟨⟨oc, od, kV, doc, pm, an, cdv, ct, osl, rfl, l, c⟩, k⟩
theorem FunD.binds0 (F : FunD K x qual st .none f fd)
  (h : ∀ (kV doc pm : Value) (an : Option Addr) (cdv ct : Value) (us : List Value), us.length = ps.length -> bindArgs (PySem.W.fnOf x qual (defArgs st) (defBody st) (defScope st) .none kV doc pm an cdv ct) ⟨us, []⟩ = pure (ps.zip us)) : Binds K fd ps [] := by
 obtain ⟨oc, od, kV, doc, pm, an, cdv, ct, osl, rfl, lk, hcd⟩ := F.ex
 exact .all (h kV doc pm an cdv ct)
theorem FunD.binds {T : Addr} {o : Obj} {items : Array Value} {n m : Nat} {ds : List Value} (F : FunD K x qual st (.ref T) f fd) (hT : K.lookup T = some o) (hd : o.data = .seq items n) (hm : m + ds.length = ps.length)
  (h : ∀ (kV doc pm : Value) (an : Option Addr) (cdv ct : Value) (us : List Value), us.length = m -> ∃ k : Option (Array Value) -> Sem (List (Str × Value)), bindArgs (PySem.W.fnOf x qual (defArgs st) (defBody st) (defScope st) (.ref T) kV doc pm an cdv ct) ⟨us, []⟩ = seqItems? (.ref T) >>= k /\ k (some items) = pure (ps.zip (us ++ ds))) : Binds K fd ps ds := by
 obtain ⟨oc, od, kV, doc, pm, an, cdv, ct, osl, rfl, lk, hcd⟩ := F.ex
 intro s us KX hl
 obtain ⟨k, h1, h2⟩ := h kV doc pm an cdv ct us (by rw [List.length_append] at hl; omega)
 exact .of_defaults rfl (KX _ _ hT) hd h1 h2
theorem FunD.okX {sp : Sp} (F : FunD K x qual st dV f fd) (S : FnScope N ps (defScope st)) (len : ∀ vs H Q E, sp vs H Q E -> vs.length = ps.length)
  (hbody : ∀ (cdv : Value) (A : Around) (outer : List Env) (s : Shared) (H : Hp) (vs : List V) (Q : VK) (E : XK), Room k (A.deeper (envOfC qual (defScope st) s.heap.objs.size f cdv)) -> sp vs H Q E ->
   ∃ t, PSs (cxOf CX0 P w K mg base N qual (defScope st) f cdv A outer s H E).nox (defBody st) t /\ t { nx := fun _ H' => Q .non H', rt := Q } (L2.start N vs) H) : FnOk P w K mg base CX0 (k + 1) f fd ps sp := by
 obtain ⟨oc, od, kV, doc, pm, an, cdv, ct, osl, rfl, lk, hcd⟩ := F.ex
 refine fn_of lk hcd S len fun A outer s H vs Q E hr hsp => ?_
 obtain ⟨t, h, q⟩ := hbody cdv A outer s H vs Q E hr hsp
 exact ⟨t, h.nox, q⟩
theorem fn_iD (F : FunD K x qual st dV f fd) (S : FnScope N ps (defScope st)) (np n : Nat) (bd : Bd) (hnp : ps.length = np) (hn : N.length = n)
  (hb : ∀ (cdv : Value) (A : Around) (outer : List Env) (s : Shared) (H : Hp) (E : XK) (B : List Addr), Room k (A.deeper (envOfC qual (defScope st) s.heap.objs.size f cdv)) ->
   PSs (cxOf CX0 P w K mg base N qual (defScope st) f cdv A outer s H E).nox (defBody st) (tS K B bd)) : FnOk P w K mg base CX0 (k + 1) f fd ps (spI K np (runD np n bd)) := by
 refine F.okX S (fun vs H Q E h => ?_) (fun cdv A outer s H vs Q E hr h => ?_)
 ·obtain ⟨A, ds, d, own, r, hl, _⟩ := h
  rw [r.length, hl, hnp]
 ·obtain ⟨B, ds, d, own, r, hl, hp, q⟩ := h
  refine ⟨tS K B bd, hb cdv A outer s H E B hr, ?_⟩
  obtain ⟨_, h2⟩ := guardR_of hp
  obtain ⟨fl, hfl, h3⟩ := R.ok_of h2
  have rs := start_rs (N := N) own r
  rw [hl, hn] at rs
  refine ⟨[], _, fl, rs, hfl, ?_⟩
  have fin : ∀ {A' : List Addr} {H' : Hp}, Le [] H A' H' -> Same H H' := fun {A' H'} l => by
   unfold Le at l
   rw [hide_nil] at l
   exact l.trans (hide_sub _ _)
  cases fl with
  | nx s1 =>
   cases h3
   exact fun A' σ' H' l rs' => q _ H' (fin l) (rep_non.mpr rfl)
  | rt d' =>
   cases h3
   exact fun A' v H' l rv => q v H' (fin l) (rv.mono (hide_more fun a ha => List.mem_append_right _ ha))
  | bk s1 => exact nomatch h3
  | ct s1 => exact nomatch h3
end
end Pu
namespace Pu
open PySem PySem.Spec PyProof.Rows L2 PySem.SeqAt
section
variable {X : Cx} {B : List Addr} {a b e o : Expr} {f g : Ex} {pos : Pos} {r : Exs} {es : List Expr} {apos cpos : Pos}
theorem call_list1 : CallR X (.type "list") (fun vs H Q => ∃ l xs, vs = [.ref l] /\ (SqL X.K H l xs \/ SqT X.K H l xs) /\ ∀ n, H n = none -> Q (.ref n) (upd H n (.lst xs))) := by
 intro pins s σ H vs us Q I r h
 obtain ⟨l, xs, rfl, hl, q⟩ := h
 obtain ⟨u, rfl, ru⟩ := r.one
 obtain rfl : u = Value.ref l := ru
 rcases hl with hl | hl
 ·obtain ⟨its, rv, ⟨ob, n, e, hc, _, hd⟩, hz⟩ := I.list hl
  refine call_list_seq l (T := "list") (.inl rfl) e hc hd (fun h' c' k hn => ?_) (by rw [rv.length] at hz; simpa using hz)
  exact ⟨.ref s.heap.objs.size, _, I.laid (o := .lst xs) (t' := s.toks) k (Nat.le_refl _) ⟨hz, its, c', rv, hn⟩, rfl, q _ (I.hok.fresh (Nat.le_refl _))⟩
 ·obtain ⟨its, rv, ⟨ob, e, hc, n, hd⟩, hz⟩ := I.tuple hl
  refine call_list_seq l (T := "tuple") (.inr rfl) e hc hd (fun h' c' k hn => ?_) (by rw [rv.length] at hz; simpa using hz)
  exact ⟨.ref s.heap.objs.size, _, I.laid (o := .lst xs) (t' := s.toks) k (Nat.le_refl _) ⟨hz, its, c', rv, hn⟩, rfl, q _ (I.hok.fresh (Nat.le_refl _))⟩
theorem i_list {p0 : Pos} (hm : X.mg "list" = none) (ha : PE X a (tP X.K B f)) (hg : Gl X "list" := by rfl) (hs : starEach [a] X.env = (false, eval a X.env) :: starEach [] X.env := by rfl) : PE X (.Call (.Name "list" p0) [a] [] pos) (tI X.K B (e1 dList f)) := by
 refine pe_imp (pe_callTy call_list1 hg hm (by rfl) (pa_cons ha pa_nil hs) (he := hs)) ?_
 rintro σ H Q ⟨A, st, d, rs, hd, q⟩
 obtain ⟨x, hx, h2⟩ := R.ok_of hd
 refine ⟨A, st, x, rs, hx, fun v H1 s1 r1 => ?_⟩
 cases x <;> first | (cases h2; done) | skip
 ·cases h2
  obtain ⟨l, vs, e, h3, r3⟩ := r1.tup
  exact ⟨l, vs, by rw [e], .inr h3, fun n hn => q _ _ (s1.trans (same_upd hn)) (rep_new_lst (rs.own.mono s1) hn r3)⟩
 ·cases h2
  obtain ⟨l, vs, e, h3, r3⟩ := r1.lst
  exact ⟨l, vs, by rw [e], .inl h3, fun n hn => q _ _ (s1.trans (same_upd hn)) (rep_new_lst (rs.own.mono s1) hn r3)⟩
theorem vals_bl : ∀ {l : List Bool} {us : List Value}, Vals (l.map V.bl) us -> us = l.map Value.bool
 | [], _, .nil => rfl
 | b :: l, _, .cons r t => by
  rw [vals_bl t]
  cases r
  rfl
theorem call_all1 (hc : X.calm = true) : CallR X (.builtin "all") (fun vs H Q => ∃ (l : Addr) (bs : List Bool), vs = [.ref l] /\ SqL X.K H l (bs.map V.bl) /\ Q (.bl (bs.all id)) H) := by
 intro pins s σ H vs us Q I r h
 obtain ⟨l, bs, rfl, hl, q⟩ := h
 obtain ⟨u, rfl, ru⟩ := r.one
 obtain rfl : u = Value.ref l := ru
 obtain ⟨its, rv, ⟨ob, n, e, hcl, _, hd⟩, hz⟩ := I.list hl
 have ei := vals_bl rv
 have isl : s.heap.IsList l its.toArray := ⟨ob, e, hcl, n, hd⟩
 have hlt : l < s.heap.objs.size := Heap.lt_size e
 refine call_all_walk (wpAny_pyIter_list isl ⟨s.heap.objs.size, _, _, _, _, _, fun i => bs[i]?.getD false, rfl, Walks.list (A := X.A.in1) (I.ok.hd hc) _ l (Nat.ne_of_lt hlt) its.toArray, ⟨⟨_, Heap.get?_push_size _ rfl, rfl, rfl⟩, isl.push _⟩, ?_, fun h' tk k => ?_⟩)
 ·intro i v s' Q' E' hv hq
  rw [ei] at hv
  simp only [List.getElem?_toArray, List.getElem?_map, Option.map_eq_some_iff] at hv
  obtain ⟨b, hb, rfl⟩ := hv
  have hq' : Q' (bs[i]?.getD false) s' := hq
  rw [hb] at hq'
  exact wpAny_pure hq'
 ·refine ⟨.bl (bs.all id), H, I.kept (fun b u z => k b u (fun hb => ?_) (Heap.get?_push_of_some _ z)), ?_, q⟩
  ·have := List.mem_singleton.mp hb
   exact Nat.lt_irrefl _ (this ▸ Heap.lt_size z)
  ·show Value.bool _ = Value.bool _
   congr 1
   rw [Bool.eq_iff_iff, List.all_eq_true, List.all_eq_true]
   have hsz : its.toArray.size = bs.length := by rw [ei]; simp
   rw [hsz]
   constructor
   ·intro h x hx
    obtain ⟨i, hi, rfl⟩ := List.mem_iff_getElem.mp hx
    have := h i (List.mem_range.mpr hi)
    rw [List.getElem?_eq_getElem hi] at this
    exact this
   ·intro h i hi
    have hi' := List.mem_range.mp hi
    rw [List.getElem?_eq_getElem hi']
    exact h _ (List.getElem_mem hi')
theorem reps_bl {K : PySem.W.Frag} {H : Hp} : ∀ {l : List Bool} {vs : List V}, Reps K H (l.map D.bl) vs -> vs = l.map V.bl
 | [], vs, h => reps_nil.mp h
 | b :: l, vs, h => by
  obtain ⟨v, r, rfl, h1, h2⟩ := reps_cons.mp h
  rw [reps_bl h2, rep_bl.mp h1]; rfl
theorem i_all {p0 : Pos} (hm : X.mg "all" = none) (hc : X.calm = true) (ha : PE X a (tP X.K B f)) (hg : Gl X "all" := by rfl) (hs : starEach [a] X.env = (false, eval a X.env) :: starEach [] X.env := by rfl) : PE X (.Call (.Name "all" p0) [a] [] pos) (tI X.K B (e1 dAll f)) := by
 refine pe_imp (pe_callB (call_all1 hc) hg hm (by rfl) (pa_cons ha pa_nil hs) (he := hs)) ?_
 rintro σ H Q ⟨A, st, d, rs, hd, q⟩
 obtain ⟨x, hx, h2⟩ := R.ok_of hd
 refine ⟨A, st, x, rs, hx, fun v H1 s1 r1 => ?_⟩
 cases x <;> first | (cases h2; done) | skip
 obtain ⟨bs, h3, h4⟩ := R.ok_of h2
 cases h4
 obtain ⟨l, vs, e, h5, r5⟩ := r1.lst
 rw [bls_of h3] at r5
 rw [reps_bl r5] at h5
 exact ⟨l, bs, by rw [e], h5, q _ H1 s1 (rep_bl.mpr rfl)⟩
theorem reps_int {K : PySem.W.Frag} {H : Hp} : ∀ {l : List Int} {vs : List V}, Reps K H (l.map D.int) vs -> vs = l.map V.int
 | [], vs, h => reps_nil.mp h
 | b :: l, vs, h => by
  obtain ⟨v, r, rfl, h1, h2⟩ := reps_cons.mp h
  rw [reps_int h2, rep_int.mp h1]; rfl
end
end Pu
namespace Pu
open PySem PySem.Spec PyProof.Rows L2
section
variable {M : Model} {A : Around} {E : Value -> Shared -> Prop} {s : Shared} {C e L : Addr} {h0 b0 : Heap} {H : Hp} {env : Env} {outer : List Env} {Q : Unit -> Shared -> Prop}
end
end Pu
namespace Pu
open PySem PySem.Spec PyProof.Rows L2
section
variable {X : Cx} {e : Expr} {es : List Expr} {t : TA} {W : Addr -> L2.St -> Hp -> Prop}
end
end Pu
namespace Pu
open PySem PySem.Spec PyProof.Rows L2
section
variable {X : Cx} {pins : List (Addr × Obj)} {σ : L2.St} {H : Hp} {ea C : Addr} {s : Shared}
end
section
variable {M : Model} {A : Around} {E : Value -> Shared -> Prop} {nm q : Str} {C N : Addr} {bs bm : List Value} {hdct : Bool} {sn : List Str} {sub : List Value} {ab : Bool} {col : Option Bool} {dd : Option Addr} {k0 k1 k2 k3 k5 : Option Value} {newId : String}
variable {nm' q' : Str} {D' N' : Addr} {bs' bm' : List Value} {hdct' : Bool} {sn' : List Str} {sub' : List Value} {ab' : Bool} {col' : Option Bool} {dd' : Option Addr} {j0 j1 j2 j3 j5 : Option Value} {newId' : String}
end
section
variable {X : Cx}
end
end Pu
namespace Pu
open PySem PySem.Spec PyProof.Rows L2
abbrev XW := D -> L2.St -> Hp -> Prop
section
variable {X : Cx} {B : List Addr} {a b e o : Expr} {f g : Ex} {pos : Pos} {sm : Stmt} {rest : List Stmt} {bd bd' : Bd} {W : XW} {s1 s2 : Bool}
end
end Pu
namespace Pu
open PySem PySem.Spec PyProof.Rows L2
section
variable {X : Cx} {B : List Addr} {a b e o : Expr} {f g : Ex} {pos : Pos} {W : XW}
end
end Pu
namespace Pu
open PySem PySem.Spec PyProof.Rows L2
section
variable {X : Cx} {B : List Addr} {a b : Expr} {f g : Ex} {pos : Pos} {W : XW}
end
end Pu
namespace Pu
open PySem PySem.Spec PyProof.Rows L2 PySem.Calls Builtin Builtin.ObjectAttr Builtin.Getset_descriptor
section
variable {prog : Program} {w : World} {A : Around} {E : Value -> Shared -> Prop} {s : Shared} {K : PySem.W.Frag} {x C : Addr}
end
section
variable {X : Cx} {B : List Addr} {a : Expr} {es : List Expr} {f : Ex} {pos : Pos}
end
section
variable {X : Cx} {B : List Addr} {pins : List (Addr × Obj)} {σ : L2.St} {H : Hp} {s : Shared} {ea C : Addr}
end
end Pu
namespace Pu
open PySem PySem.Spec PyProof.Rows L2
section
variable {K : PySem.W.Frag} {h : Heap} {c : String} {C D' : Addr} {bmB : List Value} {B newId initId : String}
end
section
variable {P : Program} {w : World} {K : PySem.W.Frag} {mg : Str -> Option Value} {base : Heap} {f : Addr} {fd : FuncData} {ps : List Str} {k : Nat}
theorem MakeOk.of {c : String} {C : Addr} {np n : Nat} {bd : Bd} (hc : ClsAt K c C) (hm : Mk K C f) (F : FnOk P w K mg base CX0 k f fd ps (spM K c np (runI c np n bd))) (b : Binds K fd ps []) (m : mg (Str.ofString c) = some (.ref C)) : MakeOk P w K mg base c k np (runI c np n bd) :=
 ⟨⟨C, f, fd, ps, hc, hm, F, b, m⟩, runI_len⟩
end
section
variable {α : Type} {P : List α -> Prop}
theorem of_len0 (h : P []) (us : List α) (hl : us.length = 0) : P us := by rw [List.length_eq_zero_iff.mp hl]; exact h
theorem of_lenS {n : Nat} (h : ∀ a us, us.length = n -> P (a :: us)) (us : List α) (hl : us.length = n + 1) : P us := by
 cases us with
 | nil => cases hl
 | cons a us => exact h a us (Nat.succ.inj hl)
theorem of_len1 (h : ∀ a, P [a]) (us : List α) (hl : us.length = 1) : P us := of_lenS (fun a => of_len0 (h a)) us hl
theorem of_len2 (h : ∀ a b, P [a, b]) (us : List α) (hl : us.length = 2) : P us := of_lenS (fun a => of_len1 (P := fun us => P (a :: us)) (h a)) us hl
theorem of_len3 (h : ∀ a b c, P [a, b, c]) (us : List α) (hl : us.length = 3) : P us := of_lenS (fun a => of_len2 (P := fun us => P (a :: us)) (h a)) us hl
end
end Pu
namespace Pu
open PySem PySem.Spec PyProof.Rows L2
section
variable {X : Cx} {B : List Addr} {a b e o : Expr} {es : List Expr} {f g : Ex} {r : Exs} {pos cpos apos : Pos}
end
end Pu
namespace Pu
open PySem PySem.Spec PyProof.Rows L2
def Inn (K : PySem.W.Frag) (G H : Hp) : List (List D) -> List Addr -> Prop
 | [], ps => ps = []
 | xs :: xss, ps => ∃ p r vs, ps = p :: r /\ H p = some (.lst vs) /\ Reps K G xs vs /\ Inn K G H xss r
theorem Inn.len {K : PySem.W.Frag} {G H : Hp} : ∀ {xss : List (List D)} {ps : List Addr}, Inn K G H xss ps -> ps.length = xss.length
 | [], ps, h => by rw [show ps = [] from h]; rfl
 | xs :: xss, ps, h => by
  obtain ⟨p, r, vs, rfl, _, _, h2⟩ := h
  rw [List.length_cons, List.length_cons, Inn.len h2]
theorem Inn.get {K : PySem.W.Frag} {G H : Hp} : ∀ {xss : List (List D)} {ps : List Addr} {k : Nat} {xs : List D}, Inn K G H xss ps -> xss[k]? = some xs -> ∃ p vs, ps[k]? = some p /\ H p = some (.lst vs) /\ Reps K G xs vs
 | [], _, _, _, _, e => by simp at e
 | x :: xss, ps, 0, xs, h, e => by
  obtain ⟨p, r, vs, rfl, h1, h2, _⟩ := h
  simp at e; subst e
  exact ⟨p, vs, rfl, h1, h2⟩
 | x :: xss, ps, k + 1, xs, h, e => by
  obtain ⟨p, r, vs, rfl, _, _, h3⟩ := h
  obtain ⟨p', vs', e1, e2⟩ := Inn.get (k := k) h3 (by simpa using e)
  exact ⟨p', vs', by simpa using e1, e2⟩
theorem Inn.mono {K : PySem.W.Frag} {G G' H H' : Hp} (g : Same G G') : ∀ {xss : List (List D)} {ps : List Addr}, (∀ p ∈ ps, ∀ o, H p = some o -> H' p = some o) -> Inn K G H xss ps -> Inn K G' H' xss ps
 | [], _, _, h => h
 | x :: xss, ps, k, h => by
  obtain ⟨p, r, vs, rfl, h1, h2, h3⟩ := h
  exact ⟨p, r, vs, rfl, k p List.mem_cons_self _ h1, h2.mono g, Inn.mono g (fun q hq => k q (List.mem_cons_of_mem _ hq)) h3⟩
theorem Inn.put {K : PySem.W.Frag} {G H : Hp} {ys : List D} {ws : List V} (hr : Reps K G ys ws) {p : Addr} : ∀ {xss : List (List D)} {ps : List Addr} {k : Nat}, ps.Nodup -> ps[k]? = some p -> Inn K G H xss ps -> Inn K G (upd H p (.lst ws)) (xss.set k ys) ps
 | [], ps, k, _, e, h => by rw [show ps = [] from h] at e; simp at e
 | x :: xss, ps, 0, nd, e, h => by
  obtain ⟨q, r, vs, rfl, h1, h2, h3⟩ := h
  simp at e; subst e
  exact ⟨q, r, ws, rfl, upd_same, hr, h3.mono (Same.refl _) fun z hz o e => by rw [upd_ne (fun w : z = q => (List.nodup_cons.mp nd).1 (w ▸ hz))]; exact e⟩
 | x :: xss, ps, k + 1, nd, e, h => by
  obtain ⟨q, r, vs, rfl, h1, h2, h3⟩ := h
  have e' : r[k]? = some p := by simpa using e
  have hp : p ∈ r := List.mem_of_getElem? e'
  exact ⟨q, r, vs, rfl, by rw [upd_ne (fun w : q = p => (List.nodup_cons.mp nd).1 (by rw [w]; exact hp))]; exact h1, h2, Inn.put hr (List.nodup_cons.mp nd).2 e' h3⟩
structure NS (K : PySem.W.Frag) (B A Z : List Addr) (H : Hp) (st : PSt) (σ : LSt) (i : Nat) (P : Addr) (ps : List Addr) (xss : List (List D)) : Prop where
 rs : RS K (Z ++ B) A H st σ
 no : st[i]? = some none
 at_ : σ[i]? = some (some (.ref P))
 out : H P = some (.lst (ps.map V.ref))
 inn : Inn K (hide (A ++ (Z ++ B)) H) H xss ps
 zb : ∀ z ∈ Z, z ∉ B
 zp : P ∈ Z
 zs : ∀ p ∈ ps, p ∈ Z
 nd : (P :: ps).Nodup
def LeN (Z A : List Addr) (H : Hp) (A' : List Addr) (H' : Hp) : Prop := Same (hide (Z ++ A) H) (hide (Z ++ A') H')
theorem LeN.trans {Z A A1 A2 : List Addr} {H H1 H2 : Hp} (a : LeN Z A H A1 H1) (b : LeN Z A1 H1 A2 H2) : LeN Z A H A2 H2 := Same.trans a b
theorem LeN.refl {Z A : List Addr} {H : Hp} : LeN Z A H A H := Same.refl _
theorem LeN.of {Z A A' : List Addr} {H H' : Hp} (l : Le A H A' H') : LeN Z A H A' H' := fun b o e => by
 have e1 := hide_sub _ _ _ _ e
 have hb : b ∉ Z ++ A := fun z => by rw [hide_in z] at e; cases e
 have e2 : hide A H b = some o := by rw [hide_out fun z => hb (List.mem_append_right _ z)]; exact e1
 have e3 := l b o e2
 have e4 := hide_sub _ _ _ _ e3
 have hb' : b ∉ A' := fun z => by rw [hide_in z] at e3; cases e3
 rw [hide_out fun z => (List.mem_append.mp z).elim (fun z => hb (List.mem_append_left _ z)) hb']
 exact e4
def PostN (K : PySem.W.Frag) (B A Z : List Addr) (H : Hp) (i : Nat) (P : Addr) (ps : List Addr) (r : NFl) (Dn : Ends) : Prop := match r with
 | .nx xss st => ∀ A' σ' H', LeN Z A H A' H' -> NS K B A' Z H' st σ' i P ps xss -> Dn.nx σ' H'
 | .rt d => ∀ A' v H', LeN Z A H A' H' -> Rep K (hide (A' ++ B) H') d v -> Dn.rt v H'
theorem PostN.mono {K : PySem.W.Frag} {B A Z A1 : List Addr} {H H1 : Hp} {i : Nat} {P : Addr} {ps : List Addr} {r : NFl} {Dn : Ends} (l : LeN Z A H A1 H1) (h : PostN K B A Z H i P ps r Dn) : PostN K B A1 Z H1 i P ps r Dn := by
 cases r with
 | nx x s => exact fun A' σ' H' l' => h A' σ' H' (l.trans l')
 | rt d => exact fun A' v H' l' => h A' v H' (l.trans l')
def tN (K : PySem.W.Frag) (B : List Addr) (i : Nat) (nb : NB) : TS := fun Dn σ H => ∃ A Z st P ps xss r, NS K B A Z H st σ i P ps xss /\ nb xss st = .ok r /\ PostN K B A Z H i P ps r Dn
theorem NS.step {K : PySem.W.Frag} {B A Z A' : List Addr} {H H' : Hp} {st st' : PSt} {σ σ' : LSt} {i : Nat} {P : Addr} {ps : List Addr} {xss : List (List D)} (n : NS K B A Z H st σ i P ps xss) (l : Le A H A' H') (rs : RS K (Z ++ B) A' H' st' σ') (no : st'[i]? = some none) (at_ : σ'[i]? = some (some (.ref P))) : NS K B A' Z H' st' σ' i P ps xss := by
 have kp : ∀ p ∈ Z, ∀ o, H p = some o -> H' p = some o := fun p hp o e => by
  have hA : p ∉ A := fun z => n.rs.dis p z (List.mem_append_left _ hp)
  exact hide_sub _ _ _ _ (l p o (by rw [hide_out hA]; exact e))
 have g : Same (hide (A ++ (Z ++ B)) H) (hide (A' ++ (Z ++ B)) H') := fun b o e => by
  have e1 := hide_sub _ _ _ _ e
  have hb : b ∉ A ++ (Z ++ B) := fun z => by rw [hide_in z] at e; cases e
  have e3 := l b o (by rw [hide_out fun z => hb (List.mem_append_left _ z)]; exact e1)
  have hb' : b ∉ A' := fun z => by rw [hide_in z] at e3; cases e3
  rw [hide_out fun z => (List.mem_append.mp z).elim hb' fun z => hb (List.mem_append_right _ z)]
  exact hide_sub _ _ _ _ e3
 exact ⟨rs, no, at_, kp P n.zp _ n.out, n.inn.mono g fun p hp => kp p (n.zs p hp), n.zb, n.zp, n.zs, n.nd⟩
theorem NS.same {K : PySem.W.Frag} {B A Z : List Addr} {H H' : Hp} {st : PSt} {σ : LSt} {i : Nat} {P : Addr} {ps : List Addr} {xss : List (List D)} (n : NS K B A Z H st σ i P ps xss) (s : Same H H') : NS K B A Z H' st σ i P ps xss := n.step (Le.of s) (n.rs.mono s) n.no n.at_
theorem hide_eq {A A' : List Addr} {H : Hp} (h : ∀ a, a ∈ A ↔ a ∈ A') : hide A H = hide A' H := by
 funext b
 by_cases hb : b ∈ A
 ·rw [hide_in hb, hide_in ((h b).mp hb)]
 ·rw [hide_out hb, hide_out fun z => hb ((h b).mpr z)]
theorem RS.shift {K : PySem.W.Frag} {B A Z : List Addr} {H : Hp} {st : PSt} {σ : LSt} (r : RS K (Z ++ B) A H st σ) (zb : ∀ z ∈ Z, z ∉ B) : RS K B (Z ++ A) H st σ := by
 have m : ∀ a, a ∈ A ++ (Z ++ B) ↔ a ∈ (Z ++ A) ++ B := fun a => by
  simp only [List.mem_append]
  constructor
  ·rintro (h | h | h)
   ·exact .inl (.inr h)
   ·exact .inl (.inl h)
   ·exact .inr h
  ·rintro ((h | h) | h)
   ·exact .inr (.inl h)
   ·exact .inl h
   ·exact .inr (.inr h)
 have e := hide_eq (H := H) m
 refine ⟨r.len, fun a ha => r.own a ((m a).mpr ha), fun a ha hb => (List.mem_append.mp ha).elim (fun z => zb a z hb) (fun z => r.dis a z (List.mem_append_right _ hb)), fun i d h => ?_, fun i k xs h => ?_⟩
 ·obtain ⟨v, e1, q⟩ := r.val i d h
  exact ⟨v, e1, by rw [<- e]; exact q⟩
 ·obtain ⟨a, o, vs, e1, e2, e3, e4, e5, e6⟩ := r.lst i k xs h
  exact ⟨a, o, vs, e1, List.mem_append_right _ e2, e3, e4, by rw [<- e]; exact e5, e6⟩
theorem RS.less {K : PySem.W.Frag} {B A Z : List Addr} {H : Hp} {st : PSt} {σ : LSt} (r : RS K (Z ++ B) A H st σ) : RS K B A H st σ := by
 have m : ∀ a ∈ A ++ B, a ∈ A ++ (Z ++ B) := fun a h => (List.mem_append.mp h).elim (List.mem_append_left _) fun z => List.mem_append_right _ (List.mem_append_right _ z)
 refine ⟨r.len, fun a ha => r.own a (m a ha), fun a ha hb => r.dis a ha (List.mem_append_right _ hb), fun i d h => ?_, fun i k xs h => ?_⟩
 ·obtain ⟨v, e1, q⟩ := r.val i d h
  exact ⟨v, e1, q.mono (hide_more m)⟩
 ·obtain ⟨a, o, vs, e1, e2, e3, e4, e5, e6⟩ := r.lst i k xs h
  exact ⟨a, o, vs, e1, e2, e3, e4, e5.mono (hide_more m), e6⟩
theorem RS.putB {K : PySem.W.Frag} {B A : List Addr} {H : Hp} {st : PSt} {σ : LSt} {p : Addr} {u : HO} (r : RS K B A H st σ) (hp : p ∈ B) : RS K B A (upd H p u) st σ := by
 have hh : hide (A ++ B) (upd H p u) = hide (A ++ B) H := hide_upd (List.mem_append_right _ hp)
 refine ⟨r.len, fun b hb => ?_, r.dis, fun j d e => by rw [hh]; exact r.val j d e, fun j kk xs e => ?_⟩
 ·by_cases e : b = p
  ·subst e; rw [upd_same]; rfl
  ·rw [upd_ne e]; exact r.own b hb
 ·obtain ⟨a, o, vs', e1, m, h1, ko, q, u⟩ := r.lst j kk xs e
  refine ⟨a, o, vs', e1, m, ?_, ko, by rw [hh]; exact q, u⟩
  have : a ≠ p := fun z => r.dis a m (z ▸ hp)
  rw [upd_ne this]; exact h1
section
variable {X : Cx} {B : List Addr} {a b e o : Expr} {f g : Ex} {pos : Pos} {sm : Stmt} {rest : List Stmt} {i : Nat} {na nb : NB} {bd : Bd}
theorem n_nil : PSs X [] (tN X.K B i nNext) := pss_imp pss_nil (by
 rintro Dn σ H ⟨A, Z, st, P, ps, xss, r, n, hr, q⟩
 cases hr
 exact q A σ H LeN.refl n)
theorem n_one (h : PS X sm (tN X.K B i na)) : PSs X [sm] (tN X.K B i na) := pss_one h
theorem n_cons (h1 : PS X sm (tN X.K B i na)) (h2 : PSs X rest (tN X.K B i nb)) : PSs X (sm :: rest) (tN X.K B i (nSeq na nb)) := pss_imp (pss_cons h1 h2) (by
 rintro Dn σ H ⟨A, Z, st, P, ps, xss, r, n, hr, q⟩
 obtain ⟨r1, h1, h2⟩ := R.ok_of hr
 refine ⟨A, Z, st, P, ps, xss, r1, n, h1, ?_⟩
 cases r1 with
 | nx x s => exact fun A' σ' H' l n' => ⟨A', Z, s, P, ps, x, r, n', h2, q.mono l⟩
 | rt d => cases h2; exact q)
theorem set_ne {α : Type} {l : List α} {i j : Nat} {x : α} (h : i ≠ j) : (l.set j x)[i]? = l[i]? := List.getElem?_set_ne (Ne.symm h)
theorem n_for (j : Nat) {x : Str} {p1 : Pos} {iter : Expr} {body : List Stmt} {it : ItE} (hi : ∀ B, L2.PI X (.Name x p1) iter (tIt X.K B it)) (hb : PSs X body (tN X.K B i nb)) (hp : PassesOwn (model X.prog X.w) X.A X.env X.xe) (hc : X.calm = true) (hN : X.N.Nodup) (hij : i ≠ j := by decide) (hj : X.N[j]? = some x := by rfl) (hx : Loc X.env.scope x := by first | exact Or.inl rfl | exact Or.inr rfl)
  (hf : X.fn x = true \/ X.env.scope.names.lookup x = some .local := by first | exact .inl rfl | exact .inr rfl | assumption) (hs : ∀ x, foldedSetIterable iter X.env x = pure x := by intro _; rfl) : PS X (.For (.Name x p1) iter body [] pos) (tN X.K B i (nFor (tgN j) it nb)) := by
 intro pins s σ H Dn I ⟨A, Z, st, P, ps, xss, r, n, hr, p⟩
 refine ps_for hp hc (hi B) (pg_name (i := j) hN hj hx hf) hb hs pins s σ H Dn I ?_
 obtain ⟨ds, hd, h3⟩ := R.ok_of hr
 refine ⟨Z ++ A, st, ds, n.rs.shift n.zb, hd, fun J H1 s1 ito => ?_⟩
 refine ⟨fun k m σ' H' => ∃ A' st' xs', m = ds.length - k /\ k <= ds.length /\ NS X.K B A' Z H' st' σ' i P ps xs' /\ nForR (tgN j) nb (ds.drop k) xs' st' = .ok r /\ LeN Z A H1 A' H', ⟨ds.length, A, st, xss, by simp, Nat.zero_le _, n.same s1, by rw [List.drop_zero]; exact h3, LeN.refl⟩, ?_⟩
 rintro k m σ' H' ⟨A', st', xs', rfl, hle, n', hf', l⟩
 obtain ⟨i1, i2⟩ := ito (Z ++ A') H' l (n'.rs.shift n'.zb).own k
 by_cases hlt : k < ds.length
 ·have hd' : ds[k]? = some ds[k] := List.getElem?_eq_getElem hlt
  obtain ⟨go, yl⟩ := i1 _ hd'
  rw [List.drop_eq_getElem_cons hlt] at hf'
  have hf2 : (nb xs' (st'.set j (some (.v ds[k])))).bind (fun r' => match r' with | .nx x s2 => nForR (tgN j) nb (ds.drop (k + 1)) x s2 | .rt v => .ok (.rt v)) = .ok r := hf'
  obtain ⟨fl, hfl, h6⟩ := R.ok_of hf2
  refine .inr ⟨go, fun σ2 H2 => ∃ A2 st2 xs2, k + 1 <= ds.length /\ NS X.K B A2 Z H2 st2 σ2 i P ps xs2 /\ nForR (tgN j) nb (ds.drop (k + 1)) xs2 st2 = .ok r /\ LeN Z A H1 A2 H2, ?_, fun v H2 y => ?_⟩
  ·rintro σ2 H2 ⟨A2, st2, xs2, hle2, n2, hf2, l2⟩
   exact ⟨ds.length - (k + 1), by omega, A2, st2, xs2, rfl, hle2, n2, hf2, l2⟩
  ·obtain ⟨sm3, rx⟩ := yl v H2 y
   have n' := n'.same sm3
   have l : LeN Z A H1 A' H2 := l.trans (LeN.of (Le.of sm3))
   have mm : ∀ a, a ∈ (Z ++ A') ++ B ↔ a ∈ A' ++ (Z ++ B) := fun a => by
    simp only [List.mem_append]
    constructor
    ·rintro ((h | h) | h)
     ·exact .inr (.inl h)
     ·exact .inl h
     ·exact .inr (.inr h)
    ·rintro (h | h | h)
     ·exact .inl (.inr h)
     ·exact .inl (.inl h)
     ·exact .inr h
   have rx' : Rep X.K (hide (A' ++ (Z ++ B)) H2) ds[k] v := by rw [<- hide_eq mm]; exact rx
   have n3 : NS X.K B A' Z H2 (st'.set j (some (.v ds[k]))) (σ'.set j (some v)) i P ps xs' := n'.step Le.refl (n'.rs.set j rx') (by rw [set_ne hij]; exact n'.no) (by rw [set_ne hij]; exact n'.at_)
   refine ⟨A', Z, _, P, ps, xs', fl, n3, hfl, ?_⟩
   cases fl with
   | nx x4 s4 => exact fun A4 σ4 H4 l4 n4 => ⟨A4, s4, x4, hlt, n4, h6, l.trans l4⟩
   | rt d => cases h6; exact p.mono ((LeN.of (Le.of s1)).trans l)
 ·have e : k = ds.length := by omega
  subst e
  rw [List.drop_length] at hf'
  cases hf'
  exact .inl ⟨i2 (Nat.le_refl _), p A' σ' H' ((LeN.of (Le.of s1)).trans l) n'⟩
theorem ixN_lt {n : Nat} {j : Int} {k : Nat} (h : Pu.ixN n j = some k) : k < n := by
 unfold Pu.ixN at h
 split at h
 ·split at h
  ·cases h; omega
  ·cases h
 ·split at h
  ·cases h; omega
  ·cases h
theorem n_close (h : PSs X rest (tS X.K B bd)) : PSs X rest (tN X.K B i (nClose i bd)) := by
 intro pins s σ H Dn I ⟨A, Z, st, P, ps, xss, r, n, hr, q⟩
 refine h pins s σ H Dn I ?_
 obtain ⟨fl, hfl, h3⟩ := R.ok_of hr
 cases fl with
 | rt d =>
  cases h3
  have hi : i < σ.length := (List.getElem?_eq_some_iff.mp n.at_).1
  have zo : ∀ z ∈ Z, z ∉ A ++ B := fun z hz hm => (List.mem_append.mp hm).elim (fun y => n.rs.dis z y (List.mem_append_left _ hz)) (n.zb z hz)
  have m : ∀ a ∈ A ++ B, a ∈ A ++ (Z ++ B) := fun a h => (List.mem_append.mp h).elim (List.mem_append_left _) fun z => List.mem_append_right _ (List.mem_append_right _ z)
  have reps : ∀ (xss : List (List D)) (ps : List Addr), (∀ p ∈ ps, p ∈ Z) -> Inn X.K (hide (A ++ (Z ++ B)) H) H xss ps -> Reps X.K (hide (A ++ B) H) (xss.map D.lst) (ps.map V.ref) := by
   intro xss
   induction xss with
   | nil => intro ps _ h; rw [show ps = [] from h]; exact .nil
   | cons xs xss ih =>
    intro ps hz h
    obtain ⟨p, r, vs, rfl, h1, h2, h3⟩ := h
    exact .cons (rep_lst.mpr ⟨p, vs, rfl, SqL.of (by rw [hide_out (zo p (hz p List.mem_cons_self))]; exact h1), h2.mono (hide_more m)⟩) (ih r (fun p hp => hz p (List.mem_cons_of_mem _ hp)) h3)
  have rp : Rep X.K (hide (A ++ B) H) (.lst (xss.map D.lst)) (.ref P) := rep_lst.mpr ⟨P, _, rfl, SqL.of (by rw [hide_out (zo P n.zp)]; exact n.out), reps xss ps n.zs n.inn⟩
  have rs := n.rs.less.set i rp
  have es : σ.set i (some (.ref P)) = σ := by
   apply List.ext_getElem?
   intro k
   rw [List.getElem?_set]
   by_cases hk : i = k
   ·subst hk; rw [if_pos rfl, if_pos hi]; exact n.at_.symm
   ·rw [if_neg hk]
  rw [es] at rs
  exact ⟨A, _, .rt d, rs, hfl, fun A' v H' l rv => q A' v H' (LeN.of l) rv⟩
 | nx s => cases h3
 | bk s => cases h3
 | ct s => cases h3
end
end Pu
namespace Pu
open PySem PySem.Spec PyProof.Rows L2
section
variable {X : Cx} {B : List Addr} {e o : Expr} {f g : Ex} {pos : Pos} {sm : Stmt} {rest : List Stmt} {bd bd' : Bd} {i : Nat}
end
section
variable {P : Program} {w : World} {K : PySem.W.Frag} {mg : Str -> Option Value} {base : Heap} {x qual : Str} {st : Stmt} {dV : Value} {f : Addr} {fd : FuncData} {N ps : List Str} {k : Nat}
end
section
variable {X : Cx} {B : List Addr} {e o : Expr} {f g : Ex} {pos : Pos}
end
end Pu
namespace Pu
open PySem PySem.Spec PyProof.Rows L2
section
variable {X : Cx} {B : List Addr} {a : Expr} {f : Ex} {pos : Pos}
end
end Pu
namespace Pu
open PySem PySem.Spec PyProof.Rows L2
section
variable {X : Cx} {B : List Addr} {e e1 e2 o : Expr} {f g : Ex} {pos : Pos} {sm : Stmt} {rest : List Stmt} {bd bd' : Bd} {W : XW} {s1 : Bool}
end
section
variable {P : Program} {w : World} {K : PySem.W.Frag} {mg : Str -> Option Value} {base : Heap} {x qual : Str} {st : Stmt} {dV : Value} {fa : Addr} {fd : FuncData} {N ps : List Str} {k np n : Nat} {bd : Bd} {f : Ex} {p : List D -> R D}
end
section
variable {X : Cx} {B : List Addr} {e e1 e2 o : Expr} {f g : Ex} {pos : Pos}
end
section
variable {X : Cx} {B : List Addr} {e o : Expr} {f g : Ex} {pos : Pos}
end
end Pu
namespace Pu
open PySem PySem.Spec PyProof.Rows L2
section
variable {X : Cx} {B : List Addr} {a b e : Expr} {f g : Ex} {pos : Pos}
end
end Pu
namespace Pu
open PySem PySem.Spec PyProof.Rows L2
def noH : Hp := fun _ => none
theorem same_no {H : Hp} : Same noH H := fun _ _ h => nomatch h
theorem rep_atom {K : PySem.W.Frag} {H : Hp} {d : D} {v : V} (h : atom d = true) (r : Rep K H d v) : Rep K noH d v := by
 cases d <;> first | (cases h; done) | skip
 ·exact rep_non.mpr (rep_non.mp r)
 ·exact rep_bl.mpr (rep_bl.mp r)
 ·exact rep_int.mpr (rep_int.mp r)
 ·exact rep_str.mpr (rep_str.mp r)
theorem reps_atom {K : PySem.W.Frag} {H : Hp} : ∀ {ds : List D} {vs : List V}, ds.all atom = true -> Reps K H ds vs -> Reps K noH ds vs
 | [], _, _, r => by rw [reps_nil.mp r]; exact .nil
 | d :: ds, _, h, r => by
  obtain ⟨v, w, rfl, q, t⟩ := reps_cons.mp r
  rw [List.all_cons, Bool.and_eq_true] at h
  exact .cons (rep_atom h.1 q) (reps_atom h.2 t)
def tC (K : PySem.W.Frag) (B : List Addr) (f : Ex) : TE := fun σ H Q => ∃ A st d xs, RS K B A H st σ /\ f st = .ok d /\ dCopy2 d = .ok (.lst xs) /\ ∀ P ps H', Same H H' -> (∀ p ∈ P :: ps, H p = none) -> (P :: ps).Nodup -> H' P = some (.lst (ps.map V.ref)) -> Inn K noH H' (xs.map unL) ps -> Q (.ref P) H'
theorem dCopy2_of {d : D} {xs : List D} (h : dCopy2 d = .ok (.lst xs)) : d = .lst xs /\ xs.length <= big /\ xs.all rowOk = true := by
 cases d <;> first | (cases h; done) | skip
 obtain ⟨⟨h1, h2⟩, h3⟩ := guardR_of h
 cases h3
 exact ⟨rfl, h1, h2⟩
theorem dCopy2_lst {d e : D} (h : dCopy2 d = .ok e) : ∃ xs, e = .lst xs := by
 cases d <;> first | (cases h; done) | skip
 obtain ⟨_, h3⟩ := guardR_of h
 cases h3
 exact ⟨_, rfl⟩
theorem Inn.snoc {K : PySem.W.Frag} {G H : Hp} {ys : List D} {n : Addr} {ws : List V} (hn : H n = some (.lst ws)) (hr : Reps K G ys ws) : ∀ {xss : List (List D)} {ps : List Addr}, Inn K G H xss ps -> Inn K G H (xss ++ [ys]) (ps ++ [n])
 | [], ps, h => by rw [show ps = [] from h]; exact ⟨n, [], ws, rfl, hn, hr, rfl⟩
 | x :: xss, ps, h => by
  obtain ⟨p, r, vs, rfl, h1, h2, h3⟩ := h
  exact ⟨p, r ++ [n], vs, rfl, h1, h2, Inn.snoc hn hr h3⟩
section
variable {X : Cx} {B : List Addr} {scope : Scope} {iter : Expr} {pos pl p0 p1 p2 : Pos} {f : Ex} {r : Str} {j : Nat}
end
end Pu
namespace Pu
open PySem PySem.Spec PyProof.Rows L2
section
variable {X : Cx} {pos p0 p1 : Pos} {r : Str}
end
end Pu
namespace Pu
open PySem PySem.Spec PyProof.Rows L2
section
variable {X : Cx} {a b e o : Expr} {f g : Ex} {pos : Pos} {sm : Stmt} {rest : List Stmt} {bd bd' : Bd} {W : XW} {H0 : Hp} {x : Addr}
end
section
variable {X : Cx} {B : List Addr} {a b e o : Expr} {f g : Ex} {pos : Pos} {W : XW}
end
end Pu
namespace Pu
open PySem PySem.Spec PyProof.Rows L2
section
variable {K : PySem.W.Frag} {B A Z : List Addr} {H H' : Hp} {st : PSt} {σ : LSt}
theorem same_grow (s : Same H H') (hz : ∀ z ∈ Z, H z = none) : Same (hide (A ++ B) H) (hide (A ++ (Z ++ B)) H') := fun b o e => by
 have e1 := hide_sub _ _ _ _ e
 have hb : b ∉ A ++ B := fun z => by rw [hide_in z] at e; cases e
 have hb2 : b ∉ A ++ (Z ++ B) := fun z => by
  rcases List.mem_append.mp z with z | z
  ·exact hb (List.mem_append_left _ z)
  ·rcases List.mem_append.mp z with z | z
   ·rw [hz b z] at e1; cases e1
   ·exact hb (List.mem_append_right _ z)
 rw [hide_out hb2]
 exact s _ _ e1
theorem RS.growS (r : RS K B A H st σ) (s : Same H H') (hz : ∀ z ∈ Z, H z = none) (hz' : ∀ z ∈ Z, (H' z).isSome = true) : RS K (Z ++ B) A H' st σ where
 len := r.len
 own := fun a ha => by
  rcases List.mem_append.mp ha with h | h
  ·exact (r.own.mono s) a (List.mem_append_left _ h)
  ·exact (List.mem_append.mp h).elim (hz' a) fun h => (r.own.mono s) a (List.mem_append_right _ h)
 dis := fun a ha hb => by
  rcases List.mem_append.mp hb with h | h
  ·have := r.own a (List.mem_append_left _ ha)
   rw [hz a h] at this; cases this
  ·exact r.dis a ha h
 val := fun i d e => let ⟨v, e1, q⟩ := r.val i d e; ⟨v, e1, q.mono (same_grow s hz)⟩
 lst := fun i k xs e => let ⟨a, o, vs, e1, m, h, ko, q, u⟩ := r.lst i k xs e; ⟨a, o, vs, e1, m, s _ _ h, ko, q.mono (same_grow s hz), u⟩
theorem RS.forget (r : RS K B A H st σ) (i : Nat) (v : Option V) : RS K B A H (st.set i none) (σ.set i v) := by
 have ne : ∀ (j : Nat) (x : Sl), (st.set i none)[j]? = some (some x) -> j ≠ i /\ st[j]? = some (some x) := fun j x e => by
  rw [List.getElem?_set] at e
  by_cases h : i = j
  ·rw [if_pos h] at e; split at e <;> cases e
  ·rw [if_neg h] at e; exact ⟨Ne.symm h, e⟩
 refine ⟨by rw [List.length_set, List.length_set, r.len], r.own, r.dis, fun j d e => ?_, fun j k xs e => ?_⟩
 ·obtain ⟨h1, h2⟩ := ne j _ e
  rw [List.getElem?_set_ne (Ne.symm h1)]
  exact r.val j d h2
 ·obtain ⟨h1, h2⟩ := ne j _ e
  rw [List.getElem?_set_ne (Ne.symm h1)]
  obtain ⟨l, o, vs, e1, e2, e3, e4, e5, e6⟩ := r.lst j k xs h2
  refine ⟨l, o, vs, e1, e2, e3, e4, e5, fun j' k' ys e7 e8 => ?_⟩
  obtain ⟨h3, h4⟩ := ne j' _ e7
  rw [List.getElem?_set_ne (Ne.symm h3)] at e8
  exact e6 j' k' ys h4 e8
theorem set_id {α : Type} {l : List α} {i : Nat} {x : α} (h : l[i]? = some x) : l.set i x = l := by
 apply List.ext_getElem?
 intro k
 rw [List.getElem?_set]
 by_cases hk : i = k
 ·subst hk; rw [if_pos rfl, if_pos (List.getElem?_eq_some_iff.mp h).1]; exact h.symm
 ·rw [if_neg hk]
theorem NS.look {i : Nat} {P : Addr} {ps : List Addr} {xss : List (List D)} (n : NS K B A Z H st σ i P ps xss) : RS K B A H (lookN i xss st) σ := by
 have zo : ∀ z ∈ Z, z ∉ A ++ B := fun z hz hm => (List.mem_append.mp hm).elim (fun y => n.rs.dis z y (List.mem_append_left _ hz)) (n.zb z hz)
 have m : ∀ a ∈ A ++ B, a ∈ A ++ (Z ++ B) := fun a h => (List.mem_append.mp h).elim (List.mem_append_left _) fun z => List.mem_append_right _ (List.mem_append_right _ z)
 have reps : ∀ (xss : List (List D)) (ps : List Addr), (∀ p ∈ ps, p ∈ Z) -> Inn K (hide (A ++ (Z ++ B)) H) H xss ps -> Reps K (hide (A ++ B) H) (xss.map D.lst) (ps.map V.ref) := by
  intro xss
  induction xss with
  | nil => intro ps _ h; rw [show ps = [] from h]; exact .nil
  | cons xs xss ih =>
   intro ps hz h
   obtain ⟨p, r, vs, rfl, h1, h2, h3⟩ := h
   exact .cons (rep_lst.mpr ⟨p, vs, rfl, SqL.of (by rw [hide_out (zo p (hz p List.mem_cons_self))]; exact h1), h2.mono (hide_more m)⟩) (ih r (fun p hp => hz p (List.mem_cons_of_mem _ hp)) h3)
 have rp : Rep K (hide (A ++ B) H) (.lst (xss.map D.lst)) (.ref P) := rep_lst.mpr ⟨P, _, rfl, SqL.of (by rw [hide_out (zo P n.zp)]; exact n.out), reps xss ps n.zs n.inn⟩
 have rs := n.rs.less.set i rp
 rw [set_id n.at_] at rs
 exact rs
end
section
variable {X : Cx} {B : List Addr} {a b e o : Expr} {f g : Ex} {pos : Pos} {sm : Stmt} {rest : List Stmt} {i : Nat} {na nb : NB} {bd : Bd}
theorem n_ifB {c : Expr} {t : Ex} {x y : List Stmt} (hc : PT X c (tT X.K B t)) (ha : PSs X x (tN X.K B i na)) (hb : PSs X y (tN X.K B i nb)) : PS X (.If c x y pos) (tN X.K B i (nIfB i t na nb)) := by
 intro pins s σ H Dn I ⟨A, Z, st, P, ps, xss, r, n, hr, q⟩
 refine ps_if hc ha hb pins s σ H Dn I ?_
 obtain ⟨d, hd, h3⟩ := R.ok_of hr
 obtain ⟨k, rfl, h4⟩ := onB_of h3
 refine ⟨A, _, k, n.look, hd, fun H1 s1 => ?_⟩
 have lo := LeN.of (Z := Z) (Le.of (A := A) s1)
 cases k with
 | true => exact ⟨A, Z, st, P, ps, xss, r, n.same s1, h4, q.mono lo⟩
 | false => exact ⟨A, Z, st, P, ps, xss, r, n.same s1, h4, q.mono lo⟩
end
section
variable {X : Cx} {B : List Addr} {scope : Scope} {iter : Expr} {pos pl p0 p1 p2 : Pos} {f : Ex} {r : Str} {rest : List Stmt} {i : Nat} {nb : NB}
theorem nest_open {x : Str} {sm : Stmt} (hr : PSs X rest (tN X.K B i nb)) (hi' : X.N[i]? = some x) (hp : PS X sm (fun Dn σ H => tC X.K B f σ H fun v H' => Dn.nx (σ.set i (some v)) H')) : PSs X (sm :: rest) (tS X.K B (sNestC i f nb)) := by
 rintro pins s σ H Dn I ⟨A, st, r, rs, hr', p⟩
 refine pss_cons hp hr pins s σ H Dn I ?_
 obtain ⟨d, hd, h1⟩ := R.ok_of hr'
 obtain ⟨d2, hd2, h2⟩ := R.ok_of h1
 obtain ⟨r1, h3, h4⟩ := R.ok_of h2
 obtain ⟨xs, rfl⟩ := dCopy2_lst hd2
 refine ⟨A, st, d, xs, rs, hd, hd2, fun P ps H' sm fr nd hP inn => ?_⟩
 have hlen : i < σ.length := by
  rw [I.len]
  exact (List.getElem?_eq_some_iff.mp hi').1
 have inS : ∀ z ∈ P :: ps, (H' z).isSome = true := fun z hz => by
  rcases List.mem_cons.mp hz with rfl | hz
  ·rw [hP]; rfl
  ·obtain ⟨k, hk⟩ := List.mem_iff_getElem?.mp hz
   have hkl : k < (xs.map unL).length := by rw [<- inn.len]; exact (List.getElem?_eq_some_iff.mp hk).1
   obtain ⟨p', vs', e1, e2, _⟩ := inn.get (List.getElem?_eq_getElem hkl)
   rw [hk] at e1; cases e1
   rw [e2]; rfl
 have g4 := (rs.growS (Z := P :: ps) sm fr inS).forget i (some (.ref P))
 have N0 : NS X.K B A (P :: ps) H' (st.set i none) (σ.set i (some (.ref P))) i P ps (xs.map unL) := by
  refine ⟨g4, ?_, ?_, hP, inn.mono same_no fun _ _ _ e => e, fun z hz hb => ?_, List.mem_cons_self, fun p hp => List.mem_cons_of_mem _ hp, nd⟩
  ·rw [List.getElem?_set, if_pos rfl, if_pos (by rw [rs.len]; exact hlen)]
  ·rw [List.getElem?_set, if_pos rfl, if_pos hlen]
  ·have := rs.own z (List.mem_append_right _ hb)
   rw [fr z hz] at this; cases this
 have lN : Same (hide A H) (hide ((P :: ps) ++ A) H') := fun b o e => by
  have e1 := hide_sub _ _ _ _ e
  have hb : b ∉ A := fun z => by rw [hide_in z] at e; cases e
  have hz : b ∉ P :: ps := fun z => by rw [fr b z] at e1; cases e1
  rw [hide_out fun z => (List.mem_append.mp z).elim hz hb]
  exact sm _ _ e1
 refine ⟨A, P :: ps, st.set i none, P, ps, xs.map unL, r1, N0, h3, ?_⟩
 cases r1 with
 | rt d =>
  cases h4
  exact fun A' v H' l rv => p A' v H' (fun b o e => hide_more (A' := A') (fun a ha => List.mem_append_right _ ha) b o (l b o (lN b o e))) rv
 | nx x s => cases h4
end
end Pu
namespace Pu
open PySem PySem.Spec PyProof.Rows L2
open Builtin
section
variable {prog : Program} {w : World} {A : Around} {E : Value -> Shared -> Prop} {s : Shared}
variable {z TI TO i1 i2 l : Addr} {fp : List Addr} {n k1 k2 : Nat} {P : Nat -> Value -> Prop} {St : Nat -> Heap -> Prop} {ys : Array Value} {y a b : Value}
end
section
variable {prog : Program} {w : World} {A : Around} {E : Value -> Shared -> Prop} {s : Shared}
end
section
variable {X : Cx} {B : List Addr} {a b : Expr} {f g : Ex} {pos : Pos}
end
end Pu
namespace Pu
open PySem PySem.Spec PyProof.Rows L2
section
variable {X : Cx} {B : List Addr} {a b e : Expr} {f g : Ex} {pos p0 p1 q : Pos}
theorem pe_rng {ta : TA} (hm : X.mg "range" = none) (ha : PA X [a] ta) (hg : Gl X "range" := by rfl) (hs : starEach [a] X.env = [(false, eval a X.env)] := by rfl) :
  PE X (.Call (.Name "range" p1) [a] [] q) (fun σ H Q => ta σ H fun vs H1 => ∃ j : Int, vs = [.int j] /\ ∀ r, H1 r = none -> Q (.ref r) (upd H1 r (.rng 0 j))) := by
 intro pins s σ H Q I h
 refine Call_ (ld_blt I hg hm boot_range (PyProof.Rows.callWith_type1 (thn (ha q pins s σ H _ I h) fun us s1 ⟨vs, H1, I1, r1, j, e, qq⟩ => ?_) hs rfl))
 subst e
 cases r1 with
 | cons r rr =>
  cases rr
  obtain ⟨t, rfl⟩ := r
  exact call_range_1 ⟨.ref s1.heap.objs.size, _, I1.laid (a := s1.heap.objs.size) (o := .rng 0 j) (fun b o e => Heap.get?_push_of_some _ e) (Nat.le_refl _) ⟨_, _, _, Heap.get?_push_size _ rfl⟩, rfl, qq _ (I1.hok.fresh (Nat.le_refl _))⟩
theorem call_listRng (hc : X.calm = true) : CallR X (.type "list") (fun vs H Q => ∃ r, ∃ j : Int, vs = [.ref r] /\ H r = some (.rng 0 j) /\ -10000000 <= j /\ j <= 10000000 /\ ∀ n, H n = none -> Q (.ref n) (upd H n (.lst ((List.range j.toNat).map fun (k : Nat) => V.int (k : Int))))) := by
 intro pins s σ H vs us Q I r h
 obtain ⟨l, j, rfl, hl, h1, h2, q⟩ := h
 obtain ⟨u, rfl, ru⟩ := r.one
 obtain rfl : u = Value.ref l := ru
 obtain ⟨t, u, v, ho⟩ := (show ∃ t u v, s.heap.get? l = some { cls := .type "range", data := .fields #[.int 0 t, .int j u, .int 1 v] } from I.hok l _ hl)
 have hn : Builtin.Range.rangeSize 0 j 1 = (j.toNat : Nat) := by rw [rangeSize_one]; split <;> omega
 refine call_list_range (I.ok.hd hc) ho (small_one (by omega) (by omega) (by omega) (by omega)) hn (by omega) fun h' tk acc c' hk hs hi => ?_
 refine ⟨.ref s.heap.objs.size, _, I.laid (o := .lst ((List.range j.toNat).map fun (k : Nat) => V.int (k : Int))) (t' := tk) hk (Nat.le_refl _) ⟨?_, acc.toList, c', ?_, by simpa using hs⟩, rfl, q _ (I.hok.fresh (Nat.le_refl _))⟩
 ·rw [List.length_map, List.length_range, sizeLine_eq]; omega
 ·obtain ⟨h3, h4⟩ := hi
  have key : ∀ (n : Nat) (xs : List Value), xs.length = n -> (∀ (k : Nat) w, xs[k]? = some w -> ∃ t, w = .int (0 + (k : Int) * 1) t) -> Vals ((List.range n).map fun (k : Nat) => V.int (k : Int)) xs := by
   intro n
   induction n with
   | zero => intro xs hx _; rw [List.length_eq_zero_iff.mp hx]; exact .nil
   | succ n ih =>
    intro xs hx hp
    obtain ⟨ys, y, rfl⟩ : ∃ ys y, xs = ys ++ [y] := by
     rcases List.eq_nil_or_concat xs with e | ⟨ys, y, e⟩
     ·rw [e] at hx; simp at hx
     ·exact ⟨ys, y, by rw [e, List.concat_eq_append]⟩
    have hy : ys.length = n := by simpa using hx
    rw [List.range_succ, List.map_append]
    refine (ih ys hy fun k w hk => ?_).append (.cons ?_ .nil)
    ·exact hp k w (by rw [List.getElem?_append_left (List.getElem?_eq_some_iff.mp hk).1]; exact hk)
    ·obtain ⟨t, e⟩ := hp n y (by rw [List.getElem?_append_right (by omega), hy]; simp)
     exact ⟨t, by rw [e]; simp⟩
  exact key _ _ (by simpa using h3) fun k w hk => by
   obtain ⟨t, e⟩ := h4 k w (by simpa using hk)
   exact ⟨t, e⟩
theorem reps_range {K : PySem.W.Frag} {H : Hp} (n : Nat) : Reps K H (rangeD 0 n) ((List.range n).map fun (k : Nat) => V.int (k : Int)) := by
 unfold rangeD
 generalize List.range n = l
 induction l with
 | nil => exact .nil
 | cons x l ih => exact .cons (rep_int.mpr (by rw [Int.zero_add])) ih
theorem i_lrange (hm : X.mg "list" = none) (hr : X.mg "range" = none) (hc : X.calm = true) (ha : PE X a (tP X.K B f)) (hg : Gl X "list" := by rfl) (hg2 : Gl X "range" := by rfl) (hs : starEach [a] X.env = (false, eval a X.env) :: starEach [] X.env := by rfl) (hs2 : starEach [Expr.Call (.Name "range" p1) [a] [] q] X.env = (false, eval (.Call (.Name "range" p1) [a] [] q) X.env) :: starEach [] X.env := by rfl) :
  PE X (.Call (.Name "list" p0) [.Call (.Name "range" p1) [a] [] q] [] pos) (tI X.K B (e1 dLRange f)) := by
 refine pe_imp (pe_callTy (call_listRng hc) hg hm (by rfl) (pa_cons (pe_rng hr (pa_cons ha pa_nil hs) hg2 hs) pa_nil hs2) (he := hs2)) ?_
 rintro σ H Q ⟨A, st, d, rs, hd, qq⟩
 obtain ⟨x, hx, h2⟩ := R.ok_of hd
 refine ⟨A, st, x, rs, hx, fun v H1 s1 r1 => ?_⟩
 cases x <;> first | (cases h2; done) | skip
 rename_i j
 obtain ⟨c, h3⟩ := guardR_of h2
 cases h3
 rw [big_eq] at c
 refine ⟨j, by rw [r1.int], fun r hr => ⟨r, j, rfl, upd_same, by omega, by omega, fun n hn => ?_⟩⟩
 have w1 := rs.own.mono (s1.trans (same_upd (o := .rng 0 j) hr))
 exact qq _ _ (s1.trans ((same_upd hr).trans (same_upd hn))) (rep_new_lst w1 hn (reps_range _))
end
end Pu
namespace Pu
open PySem PySem.Spec PyProof.Rows L2
theorem bitAnd_nn {i j : Int} (h1 : 0 <= i) (h2 : 0 <= j) : Builtin.bitAnd i j = ((i.toNat &&& j.toNat : Nat) : Int) := by
 unfold Builtin.bitAnd
 rw [decide_eq_true h1, decide_eq_true h2]
theorem bitOr_nn {i j : Int} (h1 : 0 <= i) (h2 : 0 <= j) : Builtin.bitOr i j = ((i.toNat ||| j.toNat : Nat) : Int) := by
 unfold Builtin.bitOr Builtin.bitAnd
 have a1 : ¬ 0 <= Builtin.bitNot i := by unfold Builtin.bitNot; omega
 have a2 : ¬ 0 <= Builtin.bitNot j := by unfold Builtin.bitNot; omega
 rw [decide_eq_false a1, decide_eq_false a2]
 have e1 : Builtin.bitNot (Builtin.bitNot i) = i := by unfold Builtin.bitNot; omega
 have e2 : Builtin.bitNot (Builtin.bitNot j) = j := by unfold Builtin.bitNot; omega
 show Builtin.bitNot (Builtin.bitNot _) = _
 rw [e1, e2]
 unfold Builtin.bitNot
 omega
section
variable {X : Cx} {B : List Addr} {a b e o : Expr} {f g : Ex} {pos apos cpos : Pos}
theorem i_shl (ha : PE X a (tP X.K B f)) (hb : PE X b (tP X.K B g)) : PE X (.BinOp a .LShift b pos) (tI X.K B (e2 dShl f g)) :=
 i_op op_shl (sem_rI (g := fun i j => .int (i * 2 ^ j.toNat)) (fun _ _ _ => rep_int.mpr rfl) fun x y d e => by
  unfold dShl at e
  split at e
  ·obtain ⟨c, e⟩ := guardR_of e; cases e; exact ⟨_, _, rfl, rfl, c, rfl⟩
  ·cases e) ha hb
theorem i_shr (ha : PE X a (tP X.K B f)) (hb : PE X b (tP X.K B g)) : PE X (.BinOp a .RShift b pos) (tI X.K B (e2 dShr f g)) :=
 i_op op_shr (sem_rI (g := fun i j => .int (i / 2 ^ j.toNat)) (fun _ _ _ => rep_int.mpr rfl) fun x y d e => by
  unfold dShr at e
  split at e
  ·obtain ⟨c, e⟩ := guardR_of e; cases e; exact ⟨_, _, rfl, rfl, c, rfl⟩
  ·cases e) ha hb
theorem i_band (ha : PE X a (tP X.K B f)) (hb : PE X b (tP X.K B g)) : PE X (.BinOp a .BitAnd b pos) (tI X.K B (e2 dAnd f g)) :=
 i_op op_and (sem_rI0 (g := fun i j => .int (Builtin.bitAnd i j)) (fun _ _ _ => rep_int.mpr rfl) fun x y d e => by
  unfold dAnd at e
  split at e
  ·obtain ⟨c, e⟩ := guardR_of e; cases e; exact ⟨_, _, rfl, rfl, by rw [bitAnd_nn c.1 c.2]⟩
  ·cases e) ha hb
theorem i_bor (ha : PE X a (tP X.K B f)) (hb : PE X b (tP X.K B g)) : PE X (.BinOp a .BitOr b pos) (tI X.K B (e2 dOr f g)) :=
 i_op op_or (sem_rI0 (g := fun i j => .int (Builtin.bitOr i j)) (fun _ _ _ => rep_int.mpr rfl) fun x y d e => by
  unfold dOr at e
  split at e
  ·obtain ⟨c, e⟩ := guardR_of e; cases e; exact ⟨_, _, rfl, rfl, by rw [bitOr_nn c.1 c.2]⟩
  ·cases e) ha hb
theorem vals_ints : ∀ {l : List Int} {us : List Value}, Vals (l.map V.int) us -> ∀ (j : Nat) (h : j < us.length), ∃ i t, l[j]? = some i /\ us[j] = .int i t
 | [], us, r, j, h => by cases r; simp at h
 | i :: l, us, r, j, h => by
  cases r with
  | cons ra rb =>
   obtain ⟨t, rfl⟩ := ra
   cases j with
   | zero => exact ⟨i, t, rfl, rfl⟩
   | succ j =>
    obtain ⟨i', t', h1, h2⟩ := vals_ints rb j (by simpa using h)
    exact ⟨i', t', by simpa using h1, by simpa using h2⟩
theorem mt_bits : MtR X "int.bit_length" (fun x vs H Q => ∃ i : Int, x = .int i /\ vs = [] /\ Q (.int ((Builtin.Int.intBits i : Nat) : Int)) H) := by
 intro pins s σ H x vs v us Q I rx rv h
 obtain ⟨i, rfl, rfl, q⟩ := h
 obtain ⟨t, rfl⟩ := (show ∃ t, v = Value.int i t from rx)
 have hus := rv.zero
 subst hus
 exact call_int_bit_length ⟨.int _, H, I.tok _, ⟨_, rfl⟩, q⟩
theorem bits_eq (i : Int) : Builtin.Int.intBits i = bitsN i := by
 unfold Builtin.Int.intBits bitsN
 by_cases h : i = 0
 ·rw [if_pos h, if_pos (by rw [h]; rfl)]
 ·rw [if_neg h, if_neg (by simpa using h)]
theorem i_bits (ho : PE X o (tP X.K B f)) (hbase : attributeBase o "bit_length" X.env (eval o X.env) = eval o X.env := by rfl) (hline : (apos.endLine == cpos.line) = true := by rfl) :
  PE X (.Call (.Attribute o "bit_length" apos) [] [] cpos) (tI X.K B (e1 dBitLen f)) := by
 refine pe_imp (pe_bm0 PySem.F.plainAttrs_int PySem.F.slot_int_bit_length PySem.F.type_int_bit_length mt_bits ho hbase hline) ?_
 rintro σ H Q ⟨A, st, d, rs, hd, k⟩
 obtain ⟨x, hx, h2⟩ := R.ok_of hd
 cases x <;> first | (cases h2; done) | skip
 cases h2
 refine ⟨A, st, _, rs, hx, fun v H1 s1 r1 => ⟨by rw [r1.int]; rfl, _, r1.int, rfl, ?_⟩⟩
 rw [bits_eq]
 exact k _ H1 s1 (rep_int.mpr rfl)
end
end Pu
namespace Pu
open PySem PySem.Spec PyProof.Rows L2
section
open PySem.SeqAt
open PySem.AutoSeq1 (wpAny_loadPart')
open PySem.MeetsSeq PySem.MeetsSeq2 PySem.MeetsSeq3
inductive LexW (A : Around) (s : Shared) : List Value -> List Value -> Bool -> Prop where
 | nn : LexW A s [] [] true
 | nc {w : Value} {ws : List Value} : LexW A s [] (w :: ws) true
 | cn {v : Value} {vs : List Value} : LexW A s (v :: vs) [] false
 | eq {v w : Value} {vs ws : List Value} {b : Bool} : EqAt A s v w true -> LexW A s vs ws b -> LexW A s (v :: vs) (w :: ws) b
 | lt {v w : Value} {vs ws : List Value} {b : Bool} : EqAt A s v w false -> (∀ (prog : Program) (wd : World) (E Q : Value -> Shared -> Prop), Q (.bool b) s -> wpAny (model prog wd) A (richCompare .LtE v w) Q E s) -> LexW A s (v :: vs) (w :: ws) b
end
section
variable {X : Cx}
end
end Pu
namespace Pu
open PySem PySem.Spec PyProof.Rows L2
section
variable {X : Cx} {B : List Addr} {a : Expr} {f : Ex} {pos p0 : Pos}
end
section
variable {X : Cx} {B : List Addr} {scope : Scope} {elt tg iter c : Expr} {pos : Pos} {t : Tg} {it : ItE} {f u : Ex}
theorem own_newC {K : PySem.W.Frag} {A : List Addr} {H H1 H' : Hp} {st : PSt} {σ : LSt} {p : Addr} {vs : List V} {ys : List D} (rs : RS K B A H st σ) (i : Nat) (s1 : Same H H1) (hp : H1 p = none) (s2 : Same H1 H') (hv : H' p = some (.lst vs)) (r : Reps K (hide (A ++ p :: B) H') ys vs) :
  RS K B (p :: A) H' (st.set i (some (.o .l ys))) (σ.set i (some (.ref p))) /\ Le A H (p :: A) H' := by
 let G : Hp := fun b => if b = p then none else H' b
 have hpH : H p = none := by
  cases h : H p with
  | none => rfl
  | some o => rw [s1 _ _ h] at hp; cases hp
 have sG : Same H G := fun b o z => by
  have hb : b ≠ p := ne_of_none z hpH
  show (if b = p then none else H' b) = _
  rw [if_neg hb]
  exact s2 _ _ (s1 _ _ z)
 have gN : G p = none := if_pos rfl
 have eG : upd G p (.lst vs) = H' := by
  funext b
  by_cases hb : b = p
  ·subst hb; rw [upd_same, hv]
  ·rw [upd_ne hb]; exact if_neg hb
 have eh : hide (A ++ p :: B) H' = hide (A ++ B) G := by
  funext b
  by_cases hb : b ∈ A ++ p :: B
  ·rw [hide_in hb]
   rcases mem_mid.mp hb with e | e
   ·subst e
    by_cases hb2 : b ∈ A ++ B
    ·rw [hide_in hb2]
    ·rw [hide_out hb2]; exact gN.symm
   ·rw [hide_in e]
  ·have h2 : b ∉ A ++ B := fun z => hb (mem_mid.mpr (.inr z))
   have h3 : b ≠ p := fun z => hb (mem_mid.mpr (.inl z))
   rw [hide_out hb, hide_out h2]
   exact (if_neg h3).symm
 rw [eh] at r
 have z := (rs.mono sG).setO (kk := .l) (o := .lst vs) i gN rfl r
 have l := (Le.of (A := A) sG).trans (le_new (o := .lst vs) gN)
 rw [eG] at z l
 exact ⟨z, l⟩
theorem s_setOC (i : Nat) {x : Str} {px spos : Pos} (is : List Nat) (hsub : TgSub is t) (S : CScope X scope is) (hi : L2.PI X tg iter (tIt X.K B it)) (hg : ∀ (B : List Addr) (C : Addr) (s₀ : Shared) (H₀ : Hp) (fp : List Addr), PG (compCx X scope C s₀ H₀ fp) tg (tG X.K B t))
  (he : ∀ (B : List Addr) (C : Addr) (s₀ : Shared) (H₀ : Hp) (fp : List Addr), PE (compCx X scope C s₀ H₀ fp) elt (tI X.K B f)) (hc : X.calm = true) (hN : X.N.Nodup) (hi' : X.N[i]? = some x := by rfl) (hx : Loc X.env.scope x := by first | exact Or.inl rfl | exact Or.inr rfl)
  (hsw : swapsWith (.ListComp elt [⟨tg, iter, [], 0⟩] scope pos) (some (.Name x px)) spos.line X.env = pure true := by rfl)
  (hf : X.fn x = true \/ X.env.scope.names.lookup x = some .local := by first | exact .inl rfl | exact .inr rfl | assumption) (hs : ∀ x, foldedSetIterable iter X.env x = pure x := by intro _; rfl) :
  PS X (.Assign [.Name x px] (.ListComp elt [⟨tg, iter, [], 0⟩] scope pos) spos) (tS X.K B (sSetO i (eComp is t it eTrue f))) := by
 intro pins s σ H Dn I h
 obtain ⟨A, st, r, rs, hr, q⟩ := h
 obtain ⟨d, hd, h3⟩ := R.ok_of hr
 obtain ⟨xs, hx', h2⟩ := R.ok_of hd
 obtain ⟨hl, h5⟩ := guardR_of h2
 obtain ⟨ys, hy, h4⟩ := R.ok_of h5
 cases h4
 cases h3
 rw [exec_Assign_Name_used _ _ _ _ hsw]
 refine wpAny_bind (wpAny_standAt (wpAny_bind ?_))
 show wpAny _ X.A (do let _ <- comprehension (.ListComp elt [⟨tg, iter, [], 0⟩] scope pos) scope X.env _ (newList []) false (eval iter X.env) (some (assign (.Name x px) X.env))) _ _ s
 refine wpAny_bind (wpAny_mono (Q := fun _ s' => SP X pins Dn .next s') ?_ (fun _ s' hq => wpAny_pure (wpAny_pure hq)) fun _ _ e => e)
 refine comp_core (use := some (assign (.Name x px) X.env)) (Qf := fun _ s' => SP X pins Dn .next s') (Q := fun v H' => Dn.nx (σ.set i (some v)) H') (tt := tAlways) (te := tIx X.K f) (rest := fun env it p => eval elt env >>= fun x => call (.builtin "list.append") [p, x] >>= fun _ => again (.compLoop (.ListComp elt [⟨tg, iter, [], 0⟩] scope pos) 0 it p env)) S hc hi (fun C s₀ H₀ fp => pg_x fun B => hg B C s₀ H₀ fp) (fun _ _ _ => quiet_comp)
  (fun C s₀ H₀ fp it p s Q h => den0 (Y := compCx X scope C s₀ H₀ fp) h) (fun C s₀ H₀ fp it p τ H s pins vs N Q I h q => rest0 (Y := compCx X scope C s₀ H₀ fp) rfl (pe_x fun B => he B C s₀ H₀ fp) τ H s pins vs N Q I h (fun Q Q' m h => tIx_mono Q Q' m h) q) hs I
  (lc_of hsub (fun τ H Q ⟨B, A, st, k, rs, hk, q⟩ => ?_) rs hx' hl hy fun p vs H1 H' s1 hp s2 hv r => ?_) fun C p H5 s5 m5 s3 H3 fp τ hC I3 hfp I5 hn5 q5 => store_end hN hi' hx hf hC I3 hfp I5 hn5 fun s' I' => ⟨_, _, I', q5⟩
 ·obtain ⟨z, l⟩ := own_newC rs i s1 hp s2 hv r
  exact q _ _ _ l z
 ·cases hk
  exact q H (Same.refl _)
end
end Pu
namespace Pu
open PySem PySem.Spec PyProof.Rows L2
theorem preSum_is (l : List Int) : ∀ n, n <= l.length -> preSum (fun i => l.getD i 0) n = (l.take n).sum
 | 0, _ => rfl
 | n + 1, h => by
  show preSum _ n + l.getD n 0 = _
  rw [preSum_is l n (by omega), List.take_succ_eq_append_getElem (by omega), List.sum_append]
  rw [List.getD_eq_getElem?_getD, List.getElem?_eq_getElem (by omega)]
  simp
section
variable {X : Cx} {B : List Addr} {a : Expr} {f : Ex} {pos : Pos}
theorem call_sumL (hc : X.calm = true) : CallR X (.builtin "sum") (fun vs H Q => ∃ (p : Addr) (l : List Int), vs = [.ref p] /\ SqL X.K H p (l.map V.int) /\ Q (.int l.sum) H) := by
 intro pins s σ H vs us Q I r h
 obtain ⟨p, l, rfl, hl, q⟩ := h
 obtain ⟨u, rfl, ru⟩ := r.one
 obtain rfl : u = Value.ref p := ru
 obtain ⟨its, rv, ⟨ob, n, e, hcl, _, hd⟩, hz⟩ := I.list hl
 have hlen := rv.length
 rw [List.length_map] at hlen
 have isl : s.heap.IsList p its.toArray := ⟨ob, e, hcl, n, hd⟩
 have hlt : p < s.heap.objs.size := Heap.lt_size e
 refine call_sum_walkAnyS (wpAny_pyIter_list isl ?_)
 refine ⟨s.heap.objs.size, [s.heap.objs.size, p], [s.heap.objs.size], _, its.toArray.size, _, _, fun i => l.getD i 0, rfl, (Walks.list (prog := X.prog) (w := X.w) (A := X.A.in1) (I.ok.hd hc) s.heap.objs.size p (Nat.ne_of_lt hlt) its.toArray).toS, ⟨⟨_, Heap.get?_push_size _ rfl, rfl, rfl⟩, isl.push _⟩, fun b hb => ?_, fun i v hv => ?_, fun s' t' hm => ?_⟩
 ·rw [Heap.size_push]
  rcases List.mem_cons.mp hb with rfl | hb
  ·exact Nat.lt_succ_self _
  ·rw [List.mem_singleton.mp hb]; exact Nat.lt_succ_of_lt hlt
 ·have hv' : its[i]? = some v := by simpa using hv
  have hi : i < its.length := (List.getElem?_eq_some_iff.mp hv').1
  obtain ⟨j, t, h1, h2⟩ := vals_ints rv i hi
  refine ⟨t, ?_⟩
  rw [List.getElem?_eq_getElem hi, h2] at hv'
  cases hv'
  show Value.int j t = Value.int (l.getD i 0) t
  rw [List.getD_eq_getElem?_getD, h1]; rfl
 ·rw [Moved.eq_with hm]
  refine ⟨.int l.sum, H, I.kept (t' := s'.toks) (fun b o hb => hm.heap b o (fun z => ?_) (Heap.get?_push_of_some _ hb)), ⟨t', ?_⟩, q⟩
  ·exact absurd (Heap.lt_size hb) (by rw [List.mem_singleton.mp z]; exact Nat.lt_irrefl _)
  ·have : its.toArray.size = l.length := by simp [hlen]
   rw [this, preSum_is l l.length (Nat.le_refl _), List.take_length]
theorem i_sum {p0 : Pos} (hm : X.mg "sum" = none) (hc : X.calm = true) (ha : PE X a (tP X.K B f)) (hg : Gl X "sum" := by rfl) (hs : starEach [a] X.env = (false, eval a X.env) :: starEach [] X.env := by rfl) : PE X (.Call (.Name "sum" p0) [a] [] pos) (tI X.K B (e1 dSum f)) := by
 refine pe_imp (pe_callB (call_sumL hc) hg hm (by rfl) (pa_cons ha pa_nil hs) (he := hs)) ?_
 rintro σ H Q ⟨A, st, d, rs, hd, q⟩
 obtain ⟨x, hx, h2⟩ := R.ok_of hd
 refine ⟨A, st, x, rs, hx, fun v H1 s1 r1 => ?_⟩
 cases x <;> first | (cases h2; done) | skip
 obtain ⟨is, h3, h4⟩ := R.ok_of h2
 cases h4
 obtain ⟨l, vs, e, h5, r5⟩ := r1.lst
 rw [dInts_of h3] at r5
 rw [reps_int r5] at h5
 exact ⟨l, is, by rw [e], h5, q _ H1 s1 (rep_int.mpr rfl)⟩
end
end Pu
namespace Pu
open PySem PySem.Spec PyProof.Rows L2
section
variable {X : Cx} {B : List Addr} {a b : Expr} {f g : Ex} {pos : Pos} {W : XW}
end
end Pu
namespace Pu
section
open PySem PySem.Spec PyProof.Rows L2
variable {X : Cx} {B : List Addr} {a b : Expr} {f g : Ex} {pos : Pos}
theorem sem_ltI {K : PySem.W.Frag} : Sem2 K (rI0 fun i j => .bl (decide (i < j))) dLtI := sem_rI0 (g := fun i j => .bl (decide (i < j))) (fun _ _ _ => rep_bl.mpr rfl) fun x y d e => by
 unfold dLtI at e
 split at e
 ·cases e; exact ⟨_, _, rfl, rfl, rfl⟩
 ·cases e
theorem cmulI_of {i j : Int} (c : (-18446744073709551616 < i /\ i < 18446744073709551616) \/ (-18446744073709551616 < j /\ j < 18446744073709551616)) : CMul i j := by
 unfold CMul
 omega
theorem i_mulI (ha : PE X a (tP X.K B f)) (hb : PE X b (tP X.K B g)) : PE X (.BinOp a .Mult b pos) (tI X.K B (e2 dMulI f g)) := by
 refine i_op op_mul ?_ ha hb
 intro A H x y d v u Q w rx ry e q
 unfold dMulI at e
 split at e
 ·obtain ⟨c, e⟩ := guardR_of e
  cases e
  exact ⟨_, _, rx.int, ry.int, cmulI_of c, q _ H (Same.refl _) (rep_int.mpr rfl)⟩
 ·cases e
end
end Pu
namespace Pu
open PySem PySem.Spec PyProof.Rows L2
def tFx (K : PySem.W.Frag) (f : Ex) : TE := fun τ H Q => ∃ B, tF K B f τ H Q
theorem tFx_mono {K : PySem.W.Frag} {f : Ex} {τ : LSt} {H : Hp} (Q Q' : VK) (m : ∀ v H', Q v H' -> Q' v H') (h : tFx K f τ H Q) : tFx K f τ H Q' := let ⟨B, A, st, ds, rs, hd, q⟩ := h; ⟨B, A, st, ds, rs, hd, fun p vs H' s hp r => m _ _ (q p vs H' s hp r)⟩
theorem pe_fx {X : Cx} {e : Expr} {f : Ex} (h : ∀ B, PE X e (tF X.K B f)) : PE X e (tFx X.K f) := fun pins s σ H Q I ⟨B, q⟩ => h B pins s σ H Q I q
theorem newC {K : PySem.W.Frag} {A B : List Addr} {H H1 H' : Hp} {p : Addr} {vs : List V} {ds : List D} (s1 : Same H H1) (hp : H1 p = none) (s2 : Same H1 H') (hv : H' p = some (.lst vs)) (r : Reps K (hide (A ++ p :: B) H') ds vs) : ∃ G, Same H G /\ G p = none /\ upd G p (.lst vs) = H' /\ Reps K (hide (A ++ B) G) ds vs := by
 let G : Hp := fun b => if b = p then none else H' b
 have gN : G p = none := if_pos rfl
 refine ⟨G, fun b o z => ?_, gN, ?_, r.mono fun b o z => ?_⟩
 ·have hb : b ≠ p := ne_of_none (s1 _ _ z) hp
  show (if b = p then none else H' b) = _
  rw [if_neg hb]
  exact s2 _ _ (s1 _ _ z)
 ·funext b
  by_cases hb : b = p
  ·subst hb; rw [upd_same, hv]
  ·rw [upd_ne hb]; exact if_neg hb
 ·have hb : b ∉ A ++ p :: B := fun w => by rw [hide_in w] at z; cases z
  have z1 := hide_sub _ _ _ _ z
  rw [hide_out fun w => hb (mem_mid.mpr (.inr w))]
  show (if b = p then none else H' b) = _
  rw [if_neg fun w => hb (mem_mid.mpr (.inl w))]
  exact z1
section
variable {X : Cx} {B : List Addr} {scope : Scope} {elt tg iter : Expr} {pos : Pos} {t : Tg} {it : ItE} {f g h : Ex} {rest : List Stmt} {i : Nat} {nb : NB}
theorem f_comp (is : List Nat) (hsub : TgSub is t) (S : CScope X scope is) (hi : L2.PI X tg iter (tIt X.K B it)) (hg : ∀ (B : List Addr) (C : Addr) (s₀ : Shared) (H₀ : Hp) (fp : List Addr), PG (compCx X scope C s₀ H₀ fp) tg (tG X.K B t))
  (he : ∀ (B : List Addr) (C : Addr) (s₀ : Shared) (H₀ : Hp) (fp : List Addr), PE (compCx X scope C s₀ H₀ fp) elt (tI X.K B f)) (hc : X.calm = true) (hs : ∀ x, foldedSetIterable iter X.env x = pure x := by intro _; rfl) :
  PE X (.ListComp elt [⟨tg, iter, [], 0⟩] scope pos) (tF X.K B (eComp is t it eTrue f)) := by
 intro pins s σ H Q I h
 obtain ⟨A, st, d, rs, hd, q⟩ := h
 obtain ⟨xs, hx, h2⟩ := R.ok_of hd
 obtain ⟨hl, h3⟩ := guardR_of h2
 obtain ⟨ys, hy, h4⟩ := R.ok_of h3
 cases h4
 rw [eval_ListComp]
 refine comp_core (use := none) (Qf := EP X pins σ Q) (Q := Q) (tt := tAlways) (te := tIx X.K f) (rest := fun env it p => eval elt env >>= fun x => call (.builtin "list.append") [p, x] >>= fun _ => again (.compLoop (.ListComp elt [⟨tg, iter, [], 0⟩] scope pos) 0 it p env)) S hc hi (fun C s₀ H₀ fp => pg_x fun B => hg B C s₀ H₀ fp) (fun _ _ _ => quiet_comp)
  (fun C s₀ H₀ fp it p s Q h => den0 (Y := compCx X scope C s₀ H₀ fp) h) (fun C s₀ H₀ fp it p τ H s pins vs N Q I h q => rest0 (Y := compCx X scope C s₀ H₀ fp) rfl (pe_x fun B => he B C s₀ H₀ fp) τ H s pins vs N Q I h (fun Q Q' m h => tIx_mono Q Q' m h) q) hs I
  (lc_of hsub (fun τ H Q ⟨B, A, st, k, rs, hk, q⟩ => ?_) rs hx hl hy fun p vs H1 H' s1 hp s2 hv r => ?_) fun C p H5 s5 m5 s3 H3 fp τ hC I3 hfp I5 hn5 q5 => ⟨m5, hn5, fun h' hs' => ⟨.ref p, H5, inv_end I3 hfp hC I5 hs', rfl, q5⟩⟩
 ·obtain ⟨G, g1, g2, g3, g4⟩ := newC s1 hp s2 hv r
  have := q p vs G g1 g2 g4
  rw [g3] at this
  exact this
 ·cases hk
  exact q H (Same.refl _)
theorem lcR_of {K : PySem.W.Frag} {is : List Nat} {σ : LSt} {H : Hp} (hsub : TgSub is t) {A : List Addr} {st : PSt} {xs ys : List D} (rs : RS K B A H st σ) (hx : it st = .ok xs) (hl : xs.length <= big) (hy : compR t eTrue f (clr is st) xs = .ok ys) (ha : ys.all rowOk = true) {Q : VK}
  (q : ∀ P ps H', Same H H' -> (∀ p ∈ P :: ps, H p = none) -> (P :: ps).Nodup -> H' P = some (.lst (ps.map V.ref)) -> Inn K noH H' (ys.map unL) ps -> Q (.ref P) H') : tLC is (tIt K B it) (tGx K t) tAlways (tFx K f) σ H Q := by
 refine ⟨A, st, xs, rs, hx, fun J H1 s1 ito P hP => ?_⟩
 have rs1 := rs.mono s1
 refine ⟨fun i m τ vs H' => m = xs.length - i /\ i <= xs.length /\ ∃ ps ds rest, vs = ps.map V.ref /\ ps.length = i /\ H' P = some (.lst vs) /\ Same H1 H' /\ RS K (P :: B) A H' (clr is st) τ /\ (∀ p ∈ ps, H1 p = none) /\ (P :: ps).Nodup /\ Inn K noH H' (ds.map unL) ps /\ compR t eTrue f (clr is st) (xs.drop i) = .ok rest /\ ds ++ rest = ys,
  ⟨xs.length, by simp, Nat.zero_le _, [], [], ys, rfl, rfl, upd_same, same_upd hP, (rs1.clr is).grow hP, (fun _ h => nomatch h), by simp, rfl, by rw [List.drop_zero]; exact hy, rfl⟩, ?_⟩
 rintro i m τ vs H' ⟨rfl, hi, ps, ds, rest, rfl, hpl, hpv, s2, rs2, fr, nd, inn, hr, hcat⟩
 refine ⟨hpv, ?_⟩
 have mv : ∀ a, a ∈ (P :: A) ++ B ↔ a ∈ A ++ P :: B := fun a => by
  rw [mem_mid]
  exact List.mem_cons
 have le : Le A H1 (P :: A) H' := fun b u z => by
  have z1 := hide_sub _ _ _ _ z
  have hb : b ∉ A := fun w => by rw [hide_in w] at z; cases z
  have ne : b ≠ P := ne_of_none z1 hP
  rw [hide_out (show b ∉ P :: A from fun w => (List.mem_cons.mp w).elim ne hb)]
  exact s2 b u z1
 obtain ⟨i1, i2⟩ := ito (P :: A) H' le (fun a ha => rs2.own a ((mv a).mp ha)) i
 by_cases hlt : i < xs.length
 ·obtain ⟨go, yl⟩ := i1 _ (List.getElem?_eq_getElem hlt)
  rw [List.drop_eq_getElem_cons hlt] at hr
  obtain ⟨st2, hst2, h5⟩ := R.ok_of hr
  have h7 : (f st2).bind (fun y => (compR t eTrue f (clr is st) (xs.drop (i + 1))).bind fun ys => .ok (y :: ys)) = .ok rest := h5
  obtain ⟨y', hy', h8⟩ := R.ok_of h7
  obtain ⟨rest', hrest', h9⟩ := R.ok_of h8
  cases h9
  refine .inr ⟨go, fun x H2 y => ?_⟩
  obtain ⟨sm3, rx⟩ := yl x H2 y
  have rs2 := rs2.mono sm3
  have rx' : Rep K (hide (A ++ P :: B) H2) xs[i] x := rx.mono (hide_more fun a ha => (mv a).mpr ha)
  obtain ⟨sl, sg⟩ := hsub _ _ _ hst2
  have back : ∀ (j : Nat) (z : Sl), (clr is st)[j]? = some (some z) -> st2[j]? = some (some z) := fun j z ez => by rw [sg j (clr_get is st j z ez).2]; exact ez
  have hrow : rowOk y' = true := List.all_eq_true.mp ha _ (by rw [<- hcat]; simp)
  obtain ⟨zs, rfl⟩ : ∃ zs, y' = .lst zs := by
   cases y' <;> first | exact ⟨_, rfl⟩ | exact nomatch hrow
  refine ⟨P :: B, A, clr is st, xs[i], st2, rs2, rx', hst2, fun τ2 rs3 => ?_⟩
  dsimp only [tAlways]
  rw [if_pos rfl]
  refine ⟨P :: B, A, st2, zs, rs3, hy', fun n ws H4 s4 hn r4 => ?_⟩
  have s3 := (s2.trans sm3).trans s4
  have hpv2 := s4 _ _ (sm3 _ _ hpv)
  have hnP : n ≠ P := fun z => by rw [z, hpv2] at hn; cases hn
  have hnp : n ∉ ps := fun z => by
   obtain ⟨k, hk⟩ := List.mem_iff_getElem?.mp z
   have hkl : k < (ds.map unL).length := by rw [<- inn.len]; exact (List.getElem?_eq_some_iff.mp hk).1
   obtain ⟨p', vs', e1, e2, _⟩ := inn.get (List.getElem?_eq_getElem hkl)
   rw [hk] at e1; cases e1
   rw [s4 _ _ (sm3 _ _ e2)] at hn; cases hn
  have h1n : H1 n = none := by
   cases h : H1 n with
   | none => rfl
   | some u => rw [s3 _ _ h] at hn; cases hn
  have hN : upd (upd H4 n (.lst ws)) P (.lst (ps.map V.ref ++ [.ref n])) n = some (.lst ws) := by rw [upd_ne hnP, upd_same]
  refine ⟨by rw [upd_ne (Ne.symm hnP)]; exact hpv2, ?_, xs.length - (i + 1), by omega, rfl, hlt, ps ++ [n], ds ++ [.lst zs], rest', by rw [List.map_append]; rfl, by rw [List.length_append, hpl]; rfl, upd_same, fun b u z => ?_, ((rs3.mono (s4.trans (same_upd hn))).weaken (by rw [sl]) back).put, fun p hp => ?_, ?_, ?_, hrest', by rw [List.append_assoc]; exact hcat⟩
  ·rw [List.length_map, hpl]
   have : sizeLine = 16777216 := by decide
   have hbg := big_eq
   omega
  ·rw [upd_ne (ne_of_none z hP), upd_ne (ne_of_none z h1n)]; exact s3 b u z
  ·rcases List.mem_append.mp hp with hp | hp
   ·exact fr p hp
   ·rw [List.mem_singleton.mp hp]; exact h1n
  ·obtain ⟨n1, n2⟩ := List.nodup_cons.mp nd
   refine List.nodup_cons.mpr ⟨fun z => (List.mem_append.mp z).elim n1 fun z => hnP (List.mem_singleton.mp z).symm, List.nodup_append.mpr ⟨n2, by simp, fun a ha b hb => ?_⟩⟩
   rw [List.mem_singleton.mp hb]
   exact fun z => hnp (z ▸ ha)
  ·rw [List.map_append]
   refine Inn.snoc hN (reps_atom (show zs.all atom = true from hrow) r4) (inn.mono (Same.refl _) fun p hp o e => ?_)
   have h1 : p ≠ P := fun z => (List.nodup_cons.mp nd).1 (z ▸ hp)
   have h2 : p ≠ n := fun z => hnp (z ▸ hp)
   rw [upd_ne h1, upd_ne h2]
   exact s4 _ _ (sm3 _ _ e)
 ·have e : i = xs.length := by omega
  subst e
  rw [List.drop_length] at hr
  cases hr
  rw [List.append_nil] at hcat
  subst hcat
  refine .inl ⟨i2 (Nat.le_refl _), q P ps H' (s1.trans s2) (fun p hp => ?_) nd hpv inn⟩
  have h1 : H1 p = none := (List.mem_cons.mp hp).elim (fun z => by rw [z]; exact hP) (fr p)
  cases h : H p with
  | none => rfl
  | some u => rw [s1 _ _ h] at h1; cases h1
theorem s_nestR {x : Str} {px spos : Pos} (is : List Nat) (hr : PSs X rest (tN X.K B i nb)) (hsub : TgSub is t) (S : CScope X scope is) (hi : L2.PI X tg iter (tIt X.K B it)) (hg : ∀ (B : List Addr) (C : Addr) (s₀ : Shared) (H₀ : Hp) (fp : List Addr), PG (compCx X scope C s₀ H₀ fp) tg (tG X.K B t))
  (he : ∀ (B : List Addr) (C : Addr) (s₀ : Shared) (H₀ : Hp) (fp : List Addr), PE (compCx X scope C s₀ H₀ fp) elt (tF X.K B f)) (hc : X.calm = true) (hN : X.N.Nodup) (hi' : X.N[i]? = some x := by rfl) (hx : Loc X.env.scope x := by first | exact Or.inl rfl | exact Or.inr rfl)
  (hsw : swapsWith (.ListComp elt [⟨tg, iter, [], 0⟩] scope pos) (some (.Name x px)) spos.line X.env = pure true := by rfl)
  (hf : X.fn x = true \/ X.env.scope.names.lookup x = some .local := by first | exact .inl rfl | exact .inr rfl | assumption) (hs : ∀ x, foldedSetIterable iter X.env x = pure x := by intro _; rfl) :
  PSs X (.Assign [.Name x px] (.ListComp elt [⟨tg, iter, [], 0⟩] scope pos) spos :: rest) (tS X.K B (sNestC i (eComp is t it eTrue f) nb)) := by
 refine nest_open hr hi' ?_
 intro pins s σ H Dn I h
 obtain ⟨A, st, d, xs, rs, hd, h2, q⟩ := h
 obtain ⟨rfl, _, ha⟩ := dCopy2_of h2
 obtain ⟨zs, hz, h3⟩ := R.ok_of hd
 obtain ⟨hl, h4⟩ := guardR_of h3
 obtain ⟨ys, hy, h5⟩ := R.ok_of h4
 cases h5
 rw [exec_Assign_Name_used _ _ _ _ hsw]
 refine wpAny_bind (wpAny_standAt (wpAny_bind ?_))
 show wpAny _ X.A (do let _ <- comprehension (.ListComp elt [⟨tg, iter, [], 0⟩] scope pos) scope X.env _ (newList []) false (eval iter X.env) (some (assign (.Name x px) X.env))) _ _ s
 refine wpAny_bind (wpAny_mono (Q := fun _ s' => SP X pins Dn .next s') ?_ (fun _ s' hq => wpAny_pure (wpAny_pure hq)) fun _ _ e => e)
 exact comp_core (use := some (assign (.Name x px) X.env)) (Qf := fun _ s' => SP X pins Dn .next s') (Q := fun v H' => Dn.nx (σ.set i (some v)) H') (tt := tAlways) (te := tFx X.K f) (rest := fun env it p => eval elt env >>= fun x => call (.builtin "list.append") [p, x] >>= fun _ => again (.compLoop (.ListComp elt [⟨tg, iter, [], 0⟩] scope pos) 0 it p env)) S hc hi (fun C s₀ H₀ fp => pg_x fun B => hg B C s₀ H₀ fp) (fun _ _ _ => quiet_comp)
  (fun C s₀ H₀ fp it p s Q h => den0 (Y := compCx X scope C s₀ H₀ fp) h) (fun C s₀ H₀ fp it p τ H s pins vs N Q I h q => rest0 (Y := compCx X scope C s₀ H₀ fp) rfl (pe_fx fun B => he B C s₀ H₀ fp) τ H s pins vs N Q I h (fun Q Q' m h => tFx_mono Q Q' m h) q) hs I
  (lcR_of hsub rs hz hl hy ha q) fun C p H5 s5 m5 s3 H3 fp τ hC I3 hfp I5 hn5 q5 => store_end hN hi' hx hf hC I3 hfp I5 hn5 fun s' I' => ⟨_, _, I', q5⟩
theorem n_put {x : Str} {ge he e : Expr} {p1 p2 p3 : Pos} (hg : ∀ B, PE X ge (tP X.K B g)) (hh : ∀ B, PE X he (tP X.K B h)) (hf : ∀ B, PE X e (tI X.K B f)) (hN : X.N[i]? = some x := by rfl) (hv : Vis X.env.scope x := by first | exact Or.inl rfl | exact Or.inr (Or.inl rfl) | exact Or.inr (Or.inr rfl)) (hd : (x == ("__debug__" : Str)) = false := by decide)
  (hcd : (x == ("__classdict__" : Str)) = false := by decide) (hix : PlainIx ge := by intro _ _; rfl)
  (ha : ∀ v, assign (.Subscript (.Subscript (.Name x p1) ge p2) he p3) X.env v = (do
   let ov <- holding [v] (eval (.Subscript (.Name x p1) ge p2) X.env)
   let iv <- holding [v, ov] (eval he X.env)
   standAt p3
   holding [v, ov, iv] (setItem ov iv v)
   release [v, ov, iv] []) := by intro _; rfl)
  (hs : swapsWithSole [.Subscript (.Subscript (.Name x p1) ge p2) he p3] e pos.line X.env = pure false := by rfl) (hw : swappedStores [.Subscript (.Subscript (.Name x p1) ge p2) he p3] e X.env = pure none := by rfl)
  (h1 : (assignEach [.Subscript (.Subscript (.Name x p1) ge p2) he p3] X.env).map (·.2) = [assign (.Subscript (.Subscript (.Name x p1) ge p2) he p3) X.env] := by rfl) :
  PS X (.Assign [.Subscript (.Subscript (.Name x p1) ge p2) he p3] e pos) (tN X.K B i (nPut g h f)) := by
 intro pins s σ H Dn I ⟨A, Z, st, P, ps, xss, r, n, hr, q⟩
 refine ps_asg (hf (Z ++ B)) (pg_sub (pe_ix ix_seq (pe_var hN hv hd hcd) (hg (Z ++ B)) hix) (hh (Z ++ B)) set_list ha) hs hw h1 pins s σ H Dn I ?_
 obtain ⟨d, hd', h3⟩ := R.ok_of hr
 obtain ⟨a, hga, h4⟩ := R.ok_of h3
 obtain ⟨j, rfl, h5⟩ := inI_of h4
 obtain ⟨b, hhb, h6⟩ := R.ok_of h5
 obtain ⟨k, rfl, h7⟩ := inI_of h6
 obtain ⟨m, hm, h8⟩ := R.ok_of h7
 have hm' := ofO_of hm
 have hlt := ixN_lt hm'
 rw [List.getElem?_eq_getElem hlt] at h8
 obtain ⟨l, hl, h9⟩ := R.ok_of (show (ofO (Pu.ixN (xss[m]).length k)).bind (fun l => .ok (.nx (xss.set m ((xss[m]).set l d)) st)) = .ok r from h8)
 cases h9
 refine ⟨A, st, d, n.rs, hd', fun v H1 s1 rv => ?_⟩
 have n1 := n.same s1
 refine ⟨.ref P, n1.at_, A, st, .int j, n1.rs, hga, fun w H2 s2 r2 => ?_⟩
 have ev := r2.int
 subst ev
 have n2 := n1.same s2
 obtain ⟨p, vs, e1, e2, e3⟩ := n2.inn.get (List.getElem?_eq_getElem hlt)
 have hat : L2.atI (ps.map V.ref) j = some (V.ref p) := by
  have hl := n2.inn.len
  have : Pu.ixN (ps.map V.ref).length j = some m := by rw [List.length_map, hl]; exact hm'
  show (L2.ixN (ps.map V.ref).length j).bind (fun k => (ps.map V.ref)[k]?) = _
  rw [show L2.ixN (ps.map V.ref).length j = some m from this]
  show (ps.map V.ref)[m]? = _
  rw [List.getElem?_map, e1]; rfl
 refine .inl ⟨P, ps.map V.ref, j, .ref p, rfl, rfl, SqL.of n2.out, hat, A, st, .int k, n2.rs, hhb, fun u H3 s3 r3 => ?_⟩
 have n3 := n2.same s3
 have e2' := s3 _ _ e2
 have hpZ : p ∈ Z := n.zs p (List.mem_of_getElem? e1)
 have hk : L2.ixN vs.length k = some l := by rw [e3.length, ixN_same]; exact ofO_of hl
 refine ⟨p, vs, k, l, rfl, r3.int, e2', hk, q A σ _ ?_ ?_⟩
 ·refine (LeN.of (Le.of (s1.trans (s2.trans s3)))).trans ?_
  show Same (hide (Z ++ A) H3) (hide (Z ++ A) (upd H3 p _))
  rw [hide_upd (List.mem_append_left _ hpZ)]
  exact Same.refl _
 ·have hh : hide (A ++ (Z ++ B)) (upd H3 p (.lst (vs.set l v))) = hide (A ++ (Z ++ B)) H3 := hide_upd (List.mem_append_right _ (List.mem_append_left _ hpZ))
  have ndp := List.nodup_cons.mp n.nd
  refine ⟨n3.rs.putB (List.mem_append_left _ hpZ), n3.no, n3.at_, ?_, ?_, n3.zb, n3.zp, n3.zs, n3.nd⟩
  ·rw [upd_ne (fun z : P = p => ndp.1 (by rw [z]; exact List.mem_of_getElem? e1))]; exact n3.out
  ·rw [hh]
   exact n3.inn.put (Reps.set (rv.mono (Same.hide (s2.trans s3))) l (e3.mono (Same.hide s3))) ndp.2 e1
end
end Pu
namespace Pu
open PySem PySem.Spec PyProof.Rows L2
section
variable {X : Cx} {pins : List (Addr × Obj)} {σ : List (Option V)} {H H' : Hp} {s : Shared} {h' : Heap}
end
section
variable {X : Cx} {B : List Addr} {a e : Expr} {es : List Expr} {f : Ex} {pos p0 apos cpos : Pos} {sm : Stmt} {rest : List Stmt} {bd bd' : Bd} {r : Exs}
end
section
variable {P : Program} {w : World} {K : PySem.W.Frag} {mg : Str -> Option Value} {base : Heap} {x qual : Str} {st : Stmt} {dV : Value} {f : Addr} {fd : FuncData} {N ps : List Str} {k : Nat}
end
section
variable {X : Cx} {B : List Addr} {e : Expr} {es : List Expr} {r : Exs} {pos p0 : Pos}
end
section
variable {X : Cx} {B : List Addr} {e : Expr} {pos : Pos} {f : Ex}
end
end Pu
namespace Pu
open PySem PySem.Spec PyProof.Rows L2 PySem.Calls Builtin Builtin.ObjectAttr
section
variable {prog : Program} {w : World} {A : Around} {E : Value -> Shared -> Prop} {R : Result -> Shared -> Prop} {s : Shared} {K : PySem.W.Frag} {x dx C : Addr} {mA : Str -> Option Value} {name : Str} {v : Value} {ox : Obj}
end
section
variable {prog : Program} {w : World} {A : Around} {E : Value -> Shared -> Prop} {hp : Heap} {gs : Array GenState} {dn : Drawn} {tn : Nat} {os : OsState}
variable {n0 q : Str} {C N : Addr} {l0 l1 l2 : List Value} {z0 : Bool} {l3 : List Str} {l4 : List Value} {z1 : Bool} {z2 : Option Bool} {z3 : Option Addr} {k0 k1 k2 k3 k5 : Option Value} {B newId initId : String}
end
section
variable {X : Cx} {pins : List (Addr × Obj)} {σ : List (Option V)} {H : Hp} {s : Shared} {h' : Heap} {x dx C : Addr}
end
section
variable {X : Cx} {B : List Addr} {o e value : Expr} {f : Str} {pos pos' : Pos} {ta tv : TE}
end
section
variable {X : Cx} {B : List Addr} {e : Expr} {es : List Expr} {r : Exs} {pos p0 : Pos}
end
section
variable {P : Program} {w : World} {K : PySem.W.Frag} {mg : Str -> Option Value} {base : Heap} {x qual : Str} {st : Stmt} {dV : Value} {f : Addr} {fd : FuncData} {N ps : List Str} {k : Nat}
end
section
variable {X : Cx} {B : List Addr} {e : Expr} {es : List Expr} {r : Exs} {pos p0 : Pos}
end
end Pu
set_option maxHeartbeats 4000000
namespace Pu
open PySem PySem.Spec PyProof.Rows L2
def top (i : Nat) : Stmt := PySem.Challenge.pw_looprank_k21_sets_of_rooms.main.body.getD i (.Pass ⟨0, 0, 0, 0⟩)
def inCls (s : Stmt) (j : Nat) : Stmt := match s with
 | .ClassDef _ _ _ b _ _ _ _ _ _ _ => b.getD j (.Pass ⟨0, 0, 0, 0⟩)
 | _ => .Pass ⟨0, 0, 0, 0⟩
abbrev s__law_cell : Stmt := top 23
abbrev s__law_mix : Stmt := top 24
abbrev s__law_machine : Stmt := top 25
abbrev s_bits_of : Stmt := top 15
abbrev s__law_whole : Stmt := top 26
abbrev s__law_sum : Stmt := top 28
abbrev s_has_room : Stmt := top 16
abbrev s_rooms_of : Stmt := top 17
abbrev s__law_led : Stmt := top 27
abbrev s_seen_among : Stmt := top 19
abbrev s_all_rooms : Stmt := top 18
abbrev s_seen_from : Stmt := top 20
abbrev s_reaching : Stmt := top 21
abbrev s_is_filled_list : Stmt := top 9
abbrev s_is_whole : Stmt := top 7
abbrev s_is_below : Stmt := top 8
abbrev s_is_row : Stmt := top 10
abbrev s_are_steps : Stmt := top 11
abbrev s_are_ranks : Stmt := top 12
abbrev s_Machine___init__ : Stmt := inCls (top 13) 0
abbrev s_law : Stmt := top 29
theorem sc__law_cell : FnScope ["_law_script", "_law_k"] ["_law_script", "_law_k"] (defScope s__law_cell) := ⟨rfl, rfl, rfl, by decide +kernel, rfl, by decide +kernel, by decide +kernel⟩
theorem sc__law_mix : FnScope ["_law_cell_here", "_law_k", "_law_many", "_law_number"] ["_law_cell_here", "_law_k", "_law_many"] (defScope s__law_mix) := ⟨rfl, rfl, rfl, by decide +kernel, rfl, by decide +kernel, by decide +kernel⟩
theorem sc__law_machine : FnScope ["_law_script", "_law_at", "_law_most", "_law_cell_here", "_law_rooms", "_law_letters", "_law_factor", "_law_steps", "_law_ranks", "_law_room", "_law_one", "_law_row", "_law_rank", "_law_k"] ["_law_script", "_law_at", "_law_most"] (defScope s__law_machine) := ⟨rfl, rfl, rfl, by decide +kernel, rfl, by decide +kernel, by decide +kernel⟩
theorem sc_bits_of : FnScope ["rooms", "bits", "room"] ["rooms"] (defScope s_bits_of) := ⟨rfl, rfl, rfl, by decide +kernel, rfl, by decide +kernel, by decide +kernel⟩
theorem sc__law_whole : FnScope ["_law_found"] ["_law_found"] (defScope s__law_whole) := ⟨rfl, rfl, rfl, by decide +kernel, rfl, by decide +kernel, by decide +kernel⟩
theorem sc__law_sum : FnScope ["_law_rooms", "_law_room"] ["_law_rooms"] (defScope s__law_sum) := ⟨rfl, rfl, rfl, by decide +kernel, rfl, by decide +kernel, by decide +kernel⟩
theorem sc_has_room : FnScope ["bits", "room"] ["bits", "room"] (defScope s_has_room) := ⟨rfl, rfl, rfl, by decide +kernel, rfl, by decide +kernel, by decide +kernel⟩
theorem sc_rooms_of : FnScope ["bits", "room"] ["bits"] (defScope s_rooms_of) := ⟨rfl, rfl, rfl, by decide +kernel, rfl, by decide +kernel, by decide +kernel⟩
theorem sc__law_led : FnScope ["_law_steps", "_law_led_here", "_law_between", "_law_one", "_law_other"] ["_law_steps"] (defScope s__law_led) := ⟨rfl, rfl, rfl, by decide +kernel, rfl, by decide +kernel, by decide +kernel⟩
theorem sc_seen_among : FnScope ["steps", "allowed", "rooms", "seen", "room", "middle"] ["steps", "allowed"] (defScope s_seen_among) := ⟨rfl, rfl, rfl, by decide +kernel, rfl, by decide +kernel, by decide +kernel⟩
theorem sc_all_rooms : FnScope ["machine"] ["machine"] (defScope s_all_rooms) := ⟨rfl, rfl, rfl, by decide +kernel, rfl, by decide +kernel, by decide +kernel⟩
theorem sc_seen_from : FnScope ["machine", "room"] ["machine", "room"] (defScope s_seen_from) := ⟨rfl, rfl, rfl, by decide +kernel, rfl, by decide +kernel, by decide +kernel⟩
theorem sc_reaching : FnScope ["machine", "goals", "seen", "room"] ["machine", "goals"] (defScope s_reaching) := ⟨rfl, rfl, rfl, by decide +kernel, rfl, by decide +kernel, by decide +kernel⟩
theorem sc_is_filled_list : FnScope ["thing", "most"] ["thing", "most"] (defScope s_is_filled_list) := ⟨rfl, rfl, rfl, by decide +kernel, rfl, by decide +kernel, by decide +kernel⟩
theorem sc_is_whole : FnScope ["thing"] ["thing"] (defScope s_is_whole) := ⟨rfl, rfl, rfl, by decide +kernel, rfl, by decide +kernel, by decide +kernel⟩
theorem sc_is_below : FnScope ["thing", "limit"] ["thing", "limit"] (defScope s_is_below) := ⟨rfl, rfl, rfl, by decide +kernel, rfl, by decide +kernel, by decide +kernel⟩
theorem sc_is_row : FnScope ["thing", "letters", "rooms", "room"] ["thing", "letters", "rooms"] (defScope s_is_row) := ⟨rfl, rfl, rfl, by decide +kernel, rfl, by decide +kernel, by decide +kernel⟩
theorem sc_are_steps : FnScope ["thing", "row"] ["thing"] (defScope s_are_steps) := ⟨rfl, rfl, rfl, by decide +kernel, rfl, by decide +kernel, by decide +kernel⟩
theorem sc_are_ranks : FnScope ["thing", "rooms", "rank"] ["thing", "rooms"] (defScope s_are_ranks) := ⟨rfl, rfl, rfl, by decide +kernel, rfl, by decide +kernel, by decide +kernel⟩
theorem sc_Machine___init__ : FnScope ["self", "steps", "ranks", "row"] ["self", "steps", "ranks"] (defScope s_Machine___init__) := ⟨rfl, rfl, rfl, by decide +kernel, rfl, by decide +kernel, by decide +kernel⟩
theorem sc_law : FnScope ["_law_script", "_law_machine_here", "_law_most", "_law_rooms", "_law_handed", "_law_bits", "_law_found", "_law_led_here", "_law_goals", "_law_due", "_law_room", "_law_steps", "_law_ranks", "_law_seen", "_law_some", "_law_cell_here", "_law_row", "_law_goal"] ["_law_script"] (defScope s_law) := ⟨rfl, rfl, rfl, by decide +kernel, rfl, by decide +kernel, by decide +kernel⟩
section
variable {P : Program} {w : World} {K : PySem.W.Frag} {mg : Str -> Option Value} {base : Heap}
theorem d__law_cell {fa : Addr} {fd : FuncData} {dV : Value} (F : FunD K "_law_cell" "_law_cell" s__law_cell dV fa fd)
  (b_len : mg "len" = none) : FnOk P w K mg base CX0 1 fa fd ["_law_script", "_law_k"] (spI K 2 p__law_cell) := by
 refine fn_iD (k := 0) F sc__law_cell 2 2 b__law_cell rfl rfl fun cdv A outer s H E B hr => ?_
 have nd := sc__law_cell.nd
 refine s_cons ?_ ?_
 ·exact s_if (i_cmpT op_lt sem_ltI (toP (i_var 1)) (toP (i_len b_len (toP (i_var 0)))) (nomark _)) (s_one (s_ret (i_ix hr.units (toP (i_var 0)) (toP (i_var 1))))) (s_nil)
 refine s_cons ?_ ?_
 ·exact s_if (i_cmpT (op_eqD hr.units) sem_eq (toP (i_var 0)) (toP (i_lst (a_nil))) (nomark _)) (s_one (s_ret (i_mulI (toP (i_int)) (toP (i_var 1))))) (s_nil)
 exact s_one (s_ret (i_add (toP (i_fdiv (toP (i_ix hr.units (toP (i_var 0)) (toP (i_mod (toP (i_var 1)) (toP (i_len b_len (toP (i_var 0)))))))) (toP (i_add (toP (i_var 1)) (toP (i_int)))))) (toP (i_mulI (toP (i_int)) (toP (i_var 1))))))
theorem d__law_mix {fa : Addr} {fd : FuncData} {dV : Value} (F : FunD K "_law_mix" "_law_mix" s__law_mix dV fa fd)
     : FnOk P w K mg base CX0 1 fa fd ["_law_cell_here", "_law_k", "_law_many"] (spI K 3 p__law_mix) := by
 refine fn_iD (k := 0) F sc__law_mix 3 4 b__law_mix rfl rfl fun cdv A outer s H E B hr => ?_
 have nd := sc__law_mix.nd
 refine s_cons ?_ ?_
 ·exact s_set 3 (i_mod (toP (i_mulI (toP (i_add (toP (i_mod (toP (i_var 0)) (toP (i_int)))) (toP (i_mulI (toP (i_int)) (toP (i_var 1)))))) (toP (i_int)))) (toP (i_int))) nd
 refine s_cons ?_ ?_
 ·exact s_set 3 (i_mod (toP (i_mulI (toP (i_mod (toP (i_mulI (toP (i_var 3)) (toP (i_var 3)))) (toP (i_int)))) (toP (i_int)))) (toP (i_int))) nd
 exact s_one (s_ret (i_mod (toP (i_mod (toP (i_mulI (toP (i_var 3)) (toP (i_var 3)))) (toP (i_int)))) (toP (i_var 2))))
theorem d__law_machine {fa : Addr} {fd : FuncData} {dV : Value} (F : FunD K "_law_machine" "_law_machine" s__law_machine dV fa fd)
  (h__law_cell : DefOk P w K mg base "_law_cell" 1 2 p__law_cell)
  (h__law_mix : DefOk P w K mg base "_law_mix" 1 3 p__law_mix)
  (b_range : mg "range" = none) : FnOk P w K mg base CX0 2 fa fd ["_law_script", "_law_at", "_law_most"] (spI K 3 p__law_machine) := by
 refine fn_iD (k := 1) F sc__law_machine 3 14 b__law_machine rfl rfl fun cdv A outer s H E B hr => ?_
 have nd := sc__law_machine.nd
 refine s_cons ?_ ?_
 ·exact s_set 3 (i_callD h__law_cell hr (by decide) (a_cons (i_var 0) (a_cons (i_var 1) (a_nil)))) nd
 refine s_cons ?_ ?_
 ·exact s_set 4 (i_add (toP (i_int)) (toP (i_callD h__law_mix hr (by decide) (a_cons (i_var 3) (a_cons (i_int) (a_cons (i_ix hr.units (toP (i_lst (a_cons (i_int) (a_cons (i_int) (a_cons (i_int) (a_cons (i_var 2) (a_nil))))))) (toP (i_callD h__law_mix hr (by decide) (a_cons (i_var 3) (a_cons (i_int) (a_cons (i_int) (a_nil))))))) (a_nil))))))) nd
 refine s_cons ?_ ?_
 ·exact s_set 5 (i_add (toP (i_int)) (toP (i_callD h__law_mix hr (by decide) (a_cons (i_var 3) (a_cons (i_int) (a_cons (i_int) (a_nil))))))) nd
 refine s_cons ?_ ?_
 ·exact s_set 6 (i_ix hr.units (toP (i_lst (a_cons (i_int) (a_cons (i_int) (a_cons (i_int) (a_cons (i_add (toP (i_int)) (toP (i_mulI (toP (i_int)) (toP (i_mod (toP (i_callD h__law_cell hr (by decide) (a_cons (i_var 0) (a_cons (i_add (toP (i_var 1)) (toP (i_int))) (a_nil))))) (toP (i_pow (toP (i_int)) (toP (i_int))))))))) (a_nil))))))) (toP (i_callD h__law_mix hr (by decide) (a_cons (i_var 3) (a_cons (i_int) (a_cons (i_int) (a_nil))))))) nd
 refine s_cons ?_ ?_
 ·exact s_setO 7 (f_lst (a_nil)) nd
 refine s_cons ?_ ?_
 ·exact s_setO 8 (f_lst (a_nil)) nd
 refine s_cons ?_ ?_
 ·exact s_for (it_r1 b_range (toP (i_var 4))) (g_name 9 nd) (s_cons (by exact s_set 10 (i_callD h__law_cell hr (by decide) (a_cons (i_var 0) (a_cons (i_add (toP (i_add (toP (i_var 1)) (toP (i_int)))) (toP (i_var 9))) (a_nil)))) nd) (by exact s_cons (by exact s_setOC 11 [13] sub_N (.of rfl) (it_r1 b_range (toP (i_var 5))) (fun _ _ _ _ _ => g_name 13 nd) (fun _ _ _ _ _ => i_callD h__law_mix hr (by decide) (a_cons (i_var 10) (a_cons (i_add (toP (i_int)) (toP (i_var 13))) (a_cons (i_var 4) (a_nil))))) rfl nd) (by exact s_cons (by exact s_set 12 (i_callD h__law_mix hr (by decide) (a_cons (i_var 10) (a_cons (i_int) (a_cons (i_int) (a_nil))))) nd) (by exact s_cons (by exact s_if (i_cmpT (op_eqD hr.units) sem_eq (toP (i_callD h__law_mix hr (by decide) (a_cons (i_var 3) (a_cons (i_int) (a_cons (i_int) (a_nil)))))) (toP (i_int)) (nomark _)) (s_cons (by exact s_setOC 11 [13] sub_N (.of rfl) (it_r1 b_range (toP (i_var 5))) (fun _ _ _ _ _ => g_name 13 nd) (fun _ _ _ _ _ => i_mod (toP (i_fdiv (toP (i_var 10)) (toP (i_ix hr.units (toP (i_lst (a_cons (i_int) (a_cons (i_int) (a_cons (i_int) (a_nil)))))) (toP (i_var 13)))))) (toP (i_var 4))) rfl nd) (by exact s_one (s_set 12 (i_mod (toP (i_fdiv (toP (i_var 10)) (toP (i_int)))) (toP (i_int))) nd))) (s_one (s_if (PW.pt (t_and (i_cmpT (op_eqD hr.units) sem_eq (toP (i_callD h__law_mix hr (by decide) (a_cons (i_var 3) (a_cons (i_int) (a_cons (i_int) (a_nil)))))) (toP (i_int)) (nomark _)) (t_and1 (i_cmpT op_gt sem_gt (toP (i_callD h__law_mix hr (by decide) (a_cons (i_var 10) (a_cons (i_int) (a_cons (i_int) (a_nil)))))) (toP (i_int)) (nomark _))))) (s_one (s_put 11 (toP (i_callD h__law_mix hr (by decide) (a_cons (i_var 10) (a_cons (i_int) (a_cons (i_var 5) (a_nil)))))) (i_mod (toP (i_add (toP (i_var 9)) (toP (i_int)))) (toP (i_var 4))))) (s_nil)))) (by exact s_cons (by exact s_fz [11] (s_app 7 (i_var 11))) (by exact s_one (s_app 8 (i_mulI (toP (i_var 12)) (toP (i_var 6)))))))))) PassesOwn.never rfl
 exact s_one (s_fz [7, 8] (s_ret (i_tup (a_cons (i_var 7) (a_cons (i_var 8) (a_nil))))))
theorem d_bits_of {fa : Addr} {fd : FuncData} {dV : Value} (F : FunD K "bits_of" "bits_of" s_bits_of dV fa fd)
     : FnOk P w K mg base CX0 1 fa fd ["rooms"] (spI K 1 p_bits_of) := by
 refine fn_iD (k := 0) F sc_bits_of 1 3 b_bits_of rfl rfl fun cdv A outer s H E B hr => ?_
 have nd := sc_bits_of.nd
 refine s_cons ?_ ?_
 ·exact s_set 1 (i_int) nd
 refine s_cons ?_ ?_
 ·exact s_for (it_e (i_var 0)) (g_name 2 nd) (s_one (s_set 1 (i_bor (toP (i_var 1)) (toP (i_shl (toP (i_int)) (toP (i_var 2))))) nd)) PassesOwn.never rfl
 exact s_one (s_ret (i_var 1))
theorem d__law_whole {fa : Addr} {fd : FuncData} {dV : Value} (F : FunD K "_law_whole" "_law_whole" s__law_whole dV fa fd)
  (b_isinstance : mg "isinstance" = none)
  (b_int : mg "int" = none)
  (b_bool : mg "bool" = none) : FnOk P w K mg base CX0 1 fa fd ["_law_found"] (spI K 1 p__law_whole) := by
 refine fn_iD (k := 0) F sc__law_whole 1 1 b__law_whole rfl rfl fun cdv A outer s H E B hr => ?_
 have nd := sc__law_whole.nd
 exact s_one (s_ret (i_and (i_isinst ty_int b_isinstance b_int (toP (i_var 0))) (i_and1 (i_not (i_isinst ty_bool b_isinstance b_bool (toP (i_var 0)))))))
theorem d__law_sum {fa : Addr} {fd : FuncData} {dV : Value} (F : FunD K "_law_sum" "_law_sum" s__law_sum dV fa fd)
  (b_sum : mg "sum" = none)
  (b_range : mg "range" = none) : FnOk P w K mg base CX0 1 fa fd ["_law_rooms"] (spI K 1 p__law_sum) := by
 refine fn_iD (k := 0) F sc__law_sum 1 2 b__law_sum rfl rfl fun cdv A outer s H E B hr => ?_
 have nd := sc__law_sum.nd
 exact s_one (s_ret (i_sum b_sum rfl (toP (i_compif [1] sub_N (.of rfl) (it_r1 b_range (toP (i_int))) (fun _ _ _ _ _ => g_name 1 nd) (fun _ _ _ _ _ => i_cmpT (op_inD hr.units) sem_in (toP (i_var 1)) (toP (i_var 0)) rfl) (fun _ _ _ _ _ => i_shl (toP (i_int)) (toP (i_var 1))) rfl))))
theorem d_has_room {fa : Addr} {fd : FuncData} {dV : Value} (F : FunD K "has_room" "has_room" s_has_room dV fa fd)
     : FnOk P w K mg base CX0 1 fa fd ["bits", "room"] (spI K 2 p_has_room) := by
 refine fn_iD (k := 0) F sc_has_room 2 2 b_has_room rfl rfl fun cdv A outer s H E B hr => ?_
 have nd := sc_has_room.nd
 exact s_one (s_ret (i_cmpG (op_eqD hr.units) sem_eq (toP (i_band (toP (i_shr (toP (i_var 0)) (toP (i_var 1)))) (toP (i_int)))) (toP (i_int)) (nomark _)))
theorem d_rooms_of {fa : Addr} {fd : FuncData} {dV : Value} (F : FunD K "rooms_of" "rooms_of" s_rooms_of dV fa fd)
  (h_has_room : DefOk P w K mg base "has_room" 1 2 p_has_room)
  (b_range : mg "range" = none) : FnOk P w K mg base CX0 2 fa fd ["bits"] (spI K 1 p_rooms_of) := by
 refine fn_iD (k := 1) F sc_rooms_of 1 2 b_rooms_of rfl rfl fun cdv A outer s H E B hr => ?_
 have nd := sc_rooms_of.nd
 exact s_one (s_ret (i_compif [1] sub_N (.of rfl) (it_r1 b_range (toP (i_bits (toP (i_var 0))))) (fun _ _ _ _ _ => g_name 1 nd) (fun _ _ _ _ _ => i_test (i_callD h_has_room hr (by decide) (a_cons (i_var 0) (a_cons (i_var 1) (a_nil))))) (fun _ _ _ _ _ => i_var 1) rfl))
theorem d__law_led {fa : Addr} {fd : FuncData} {dV : Value} (F : FunD K "_law_led" "_law_led" s__law_led dV fa fd)
  (b_range : mg "range" = none)
  (b_len : mg "len" = none) : FnOk P w K mg base CX0 1 fa fd ["_law_steps"] (spI K 1 p__law_led) := by
 refine fn_iD (k := 0) F sc__law_led 1 5 b__law_led rfl rfl fun cdv A outer s H E B hr => ?_
 have nd := sc__law_led.nd
 exact s_nestR (i := 1) [3] (by exact n_cons (n_for 2 (fun _ => it_r1 b_range (toP (i_len b_len (toP (i_var 0))))) (n_one (n_for 3 (fun _ => it_r1 b_range (toP (i_len b_len (toP (i_var 0))))) (n_one (n_for 4 (fun _ => it_r1 b_range (toP (i_len b_len (toP (i_var 0))))) (n_one (n_ifB (PW.pt (t_and (i_test (i_ix hr.units (toP (i_ix hr.units (toP (i_var 1)) (toP (i_var 3)))) (toP (i_var 2)))) (t_and1 (i_test (i_ix hr.units (toP (i_ix hr.units (toP (i_var 1)) (toP (i_var 2)))) (toP (i_var 4))))))) (n_one (n_put (fun _ => toP (i_var 3)) (fun _ => toP (i_var 4)) (fun _ => i_bl))) (n_nil))) PassesOwn.never rfl nd)) PassesOwn.never rfl nd)) PassesOwn.never rfl nd) (n_close (s_one (s_ret (i_var 1))))) sub_N (.of rfl) (it_r1 b_range (toP (i_len b_len (toP (i_var 0))))) (fun _ _ _ _ _ => g_name 3 nd) (fun _ _ _ _ _ => f_comp [4] sub_N (.of rfl) (it_r1 b_range (toP (i_len b_len (toP (i_var 0))))) (fun _ _ _ _ _ => g_name 4 nd) (fun _ _ _ _ _ => i_or (i_cmpG (op_eqD hr.units) sem_eq (toP (i_var 3)) (toP (i_var 4)) (nomark _)) (i_or1 (i_cmpG (op_inD hr.units) sem_in (toP (i_var 4)) (toP (i_ix hr.units (toP (i_var 0)) (toP (i_var 3)))) rfl))) rfl) rfl nd
theorem d_seen_among {fa : Addr} {fd : FuncData} {dV : Value} (F : FunD K "seen_among" "seen_among" s_seen_among dV fa fd)
  (h_rooms_of : DefOk P w K mg base "rooms_of" 2 1 p_rooms_of)
  (h_bits_of : DefOk P w K mg base "bits_of" 1 1 p_bits_of)
  (h_has_room : DefOk P w K mg base "has_room" 1 2 p_has_room) : FnOk P w K mg base CX0 3 fa fd ["steps", "allowed"] (spI K 2 p_seen_among) := by
 refine fn_iD (k := 2) F sc_seen_among 2 6 b_seen_among rfl rfl fun cdv A outer s H E B hr => ?_
 have nd := sc_seen_among.nd
 refine s_cons ?_ ?_
 ·exact s_set 2 (i_callD h_rooms_of hr (by decide) (a_cons (i_var 1) (a_nil))) nd
 refine s_cons ?_ ?_
 ·exact s_dnewK 3 nd
 refine s_cons ?_ ?_
 ·exact s_for (it_e (i_var 2)) (g_name 4 nd) (s_one (s_dput hr.units 3 (i_var 4) (i_band (toP (i_bor (toP (i_callD h_bits_of hr (by decide) (a_cons (i_ix hr.units (toP (i_var 0)) (toP (i_var 4))) (a_nil)))) (toP (i_shl (toP (i_int)) (toP (i_var 4)))))) (toP (i_var 1))))) PassesOwn.never rfl
 refine s_cons ?_ ?_
 ·exact s_for (it_e (i_var 2)) (g_name 5 nd) (s_one (s_for (it_e (i_var 2)) (g_name 4 nd) (s_one (s_if (i_test (i_callD h_has_room hr (by decide) (a_cons (i_ix hr.units (i_peek 3) (toP (i_var 4))) (a_cons (i_var 5) (a_nil))))) (s_one (s_dput hr.units 3 (i_var 4) (i_bor (toP (i_ix hr.units (i_peek 3) (toP (i_var 4)))) (toP (i_ix hr.units (i_peek 3) (toP (i_var 5))))))) (s_nil))) PassesOwn.never rfl)) PassesOwn.never rfl
 exact s_one (s_fz [3] (s_ret (i_var 3)))
theorem d_all_rooms {fa : Addr} {fd : FuncData} {dV : Value} (F : FunD K "all_rooms" "all_rooms" s_all_rooms dV fa fd)
  (h_bits_of : DefOk P w K mg base "bits_of" 1 1 p_bits_of)
  {A_Machine : Addr} (c_Machine : ClsAt K "Machine" A_Machine)
  (na_Machine_many : NoAttr K A_Machine (Str.ofString "many"))
  (b_list : mg "list" = none)
  (b_range : mg "range" = none) : FnOk P w K mg base CX0 2 fa fd ["machine"] (spI K 1 p_all_rooms) := by
 refine fn_iD (k := 1) F sc_all_rooms 1 1 b_all_rooms rfl rfl fun cdv A outer s H E B hr => ?_
 have nd := sc_all_rooms.nd
 exact s_one (s_ret (i_callD h_bits_of hr (by decide) (a_cons (i_lrange b_list b_range rfl (toP (i_fld c_Machine na_Machine_many (toP (i_var 0))))) (a_nil))))
theorem d_seen_from {fa : Addr} {fd : FuncData} {dV : Value} (F : FunD K "seen_from" "seen_from" s_seen_from dV fa fd)
  (h_seen_among : DefOk P w K mg base "seen_among" 3 2 p_seen_among)
  (h_all_rooms : DefOk P w K mg base "all_rooms" 2 1 p_all_rooms)
  {A_Machine : Addr} (c_Machine : ClsAt K "Machine" A_Machine)
  (na_Machine_steps : NoAttr K A_Machine (Str.ofString "steps")) : FnOk P w K mg base CX0 4 fa fd ["machine", "room"] (spI K 2 p_seen_from) := by
 refine fn_iD (k := 3) F sc_seen_from 2 2 b_seen_from rfl rfl fun cdv A outer s H E B hr => ?_
 have nd := sc_seen_from.nd
 exact s_one (s_ret (i_ix hr.units (toP (i_callD h_seen_among hr (by decide) (a_cons (i_fld c_Machine na_Machine_steps (toP (i_var 0))) (a_cons (i_callD h_all_rooms hr (by decide) (a_cons (i_var 0) (a_nil))) (a_nil))))) (toP (i_var 1))))
theorem d_reaching {fa : Addr} {fd : FuncData} {dV : Value} (F : FunD K "reaching" "reaching" s_reaching dV fa fd)
  (h_seen_among : DefOk P w K mg base "seen_among" 3 2 p_seen_among)
  (h_all_rooms : DefOk P w K mg base "all_rooms" 2 1 p_all_rooms)
  (h_bits_of : DefOk P w K mg base "bits_of" 1 1 p_bits_of)
  {A_Machine : Addr} (c_Machine : ClsAt K "Machine" A_Machine)
  (na_Machine_steps : NoAttr K A_Machine (Str.ofString "steps"))
  (na_Machine_many : NoAttr K A_Machine (Str.ofString "many"))
  (b_range : mg "range" = none) : FnOk P w K mg base CX0 4 fa fd ["machine", "goals"] (spI K 2 p_reaching) := by
 refine fn_iD (k := 3) F sc_reaching 2 4 b_reaching rfl rfl fun cdv A outer s H E B hr => ?_
 have nd := sc_reaching.nd
 refine s_cons ?_ ?_
 ·exact s_set 2 (i_callD h_seen_among hr (by decide) (a_cons (i_fld c_Machine na_Machine_steps (toP (i_var 0))) (a_cons (i_callD h_all_rooms hr (by decide) (a_cons (i_var 0) (a_nil))) (a_nil)))) nd
 exact s_one (s_ret (i_callD h_bits_of hr (by decide) (a_cons (i_compif [3] sub_N (.of rfl) (it_r1 b_range (toP (i_fld c_Machine na_Machine_many (toP (i_var 0))))) (fun _ _ _ _ _ => g_name 3 nd) (fun _ _ _ _ _ => i_cmpT (op_neD hr.units) sem_ne (toP (i_band (toP (i_ix hr.units (toP (i_var 2)) (toP (i_var 3)))) (toP (i_var 1)))) (toP (i_int)) (nomark _)) (fun _ _ _ _ _ => i_var 3) rfl) (a_nil))))
theorem d_is_filled_list {fa : Addr} {fd : FuncData} {dV : Value} (F : FunD K "is_filled_list" "is_filled_list" s_is_filled_list dV fa fd)
  (b_isinstance : mg "isinstance" = none)
  (b_list : mg "list" = none)
  (b_len : mg "len" = none) : FnOk P w K mg base CX0 1 fa fd ["thing", "most"] (spI K 2 p_is_filled_list) := by
 refine fn_iD (k := 0) F sc_is_filled_list 2 2 b_is_filled_list rfl rfl fun cdv A outer s H E B hr => ?_
 have nd := sc_is_filled_list.nd
 exact s_one (s_ret (i_and (i_isinst ty_list b_isinstance b_list (toP (i_var 0))) (i_and (i_cmpG op_ge sem_ge (toP (i_len b_len (toP (i_var 0)))) (toP (i_int)) (nomark _)) (i_and1 (i_cmpG op_le sem_le (toP (i_len b_len (toP (i_var 0)))) (toP (i_var 1)) (nomark _))))))
theorem d_is_whole {fa : Addr} {fd : FuncData} {dV : Value} (F : FunD K "is_whole" "is_whole" s_is_whole dV fa fd)
  (b_isinstance : mg "isinstance" = none)
  (b_int : mg "int" = none)
  (b_bool : mg "bool" = none) : FnOk P w K mg base CX0 1 fa fd ["thing"] (spI K 1 p_is_whole) := by
 refine fn_iD (k := 0) F sc_is_whole 1 1 b_is_whole rfl rfl fun cdv A outer s H E B hr => ?_
 have nd := sc_is_whole.nd
 exact s_one (s_ret (i_and (i_isinst ty_int b_isinstance b_int (toP (i_var 0))) (i_and1 (i_not (i_isinst ty_bool b_isinstance b_bool (toP (i_var 0)))))))
theorem d_is_below {fa : Addr} {fd : FuncData} {dV : Value} (F : FunD K "is_below" "is_below" s_is_below dV fa fd)
  (h_is_whole : DefOk P w K mg base "is_whole" 1 1 p_is_whole) : FnOk P w K mg base CX0 2 fa fd ["thing", "limit"] (spI K 2 p_is_below) := by
 refine fn_iD (k := 1) F sc_is_below 2 2 b_is_below rfl rfl fun cdv A outer s H E B hr => ?_
 have nd := sc_is_below.nd
 exact s_one (s_ret (i_and (i_callD h_is_whole hr (by decide) (a_cons (i_var 0) (a_nil))) (i_and (i_cmpG op_ge sem_ge (toP (i_var 0)) (toP (i_int)) (nomark _)) (i_and1 (i_cmpG op_lt sem_ltI (toP (i_var 0)) (toP (i_var 1)) (nomark _))))))
theorem d_is_row {fa : Addr} {fd : FuncData} {dV : Value} (F : FunD K "is_row" "is_row" s_is_row dV fa fd)
  (h_is_below : DefOk P w K mg base "is_below" 2 2 p_is_below)
  (b_len : mg "len" = none)
  (b_all : mg "all" = none) : FnOk P w K mg base CX0 3 fa fd ["thing", "letters", "rooms"] (spI K 3 p_is_row) := by
 refine fn_iD (k := 2) F sc_is_row 3 4 b_is_row rfl rfl fun cdv A outer s H E B hr => ?_
 have nd := sc_is_row.nd
 exact s_one (s_ret (i_and (i_cmpG (op_eqD hr.units) sem_eq (toP (i_len b_len (toP (i_var 0)))) (toP (i_var 1)) (nomark _)) (i_and1 (i_all b_all rfl (toP (i_comp [3] sub_N (.of rfl) (it_e (i_var 0)) (fun _ _ _ _ _ => g_name 3 nd) (fun _ _ _ _ _ => i_callD h_is_below hr (by decide) (a_cons (i_var 3) (a_cons (i_var 2) (a_nil)))) rfl))))))
theorem d_are_steps {fa : Addr} {fd : FuncData} {dV : Value} (F : FunD K "are_steps" "are_steps" s_are_steps dV fa fd)
  (h_is_filled_list : DefOk P w K mg base "is_filled_list" 1 2 p_is_filled_list)
  (h_is_row : DefOk P w K mg base "is_row" 3 3 p_is_row)
  (b_all : mg "all" = none)
  (b_len : mg "len" = none)
  {t_MOST_ROOMS : Tok} (g_MOST_ROOMS : mg "MOST_ROOMS" = some (.int 8 t_MOST_ROOMS))
  {t_MOST_LETTERS : Tok} (g_MOST_LETTERS : mg "MOST_LETTERS" = some (.int 3 t_MOST_LETTERS)) : FnOk P w K mg base CX0 4 fa fd ["thing"] (spI K 1 p_are_steps) := by
 refine fn_iD (k := 3) F sc_are_steps 1 2 b_are_steps rfl rfl fun cdv A outer s H E B hr => ?_
 have nd := sc_are_steps.nd
 refine s_cons ?_ ?_
 ·exact s_if (t_not (i_test (i_callD h_is_filled_list hr (by decide) (a_cons (i_var 0) (a_cons (i_gint g_MOST_ROOMS) (a_nil)))))) (s_one (s_ret (i_bl))) (s_nil)
 refine s_cons ?_ ?_
 ·exact s_if (t_not (i_test (i_all b_all rfl (toP (i_comp [1] sub_N (.of rfl) (it_e (i_var 0)) (fun _ _ _ _ _ => g_name 1 nd) (fun _ _ _ _ _ => i_callD h_is_filled_list hr (by decide) (a_cons (i_var 1) (a_cons (i_gint g_MOST_LETTERS) (a_nil)))) rfl))))) (s_one (s_ret (i_bl))) (s_nil)
 exact s_one (s_ret (i_all b_all rfl (toP (i_comp [1] sub_N (.of rfl) (it_e (i_var 0)) (fun _ _ _ _ _ => g_name 1 nd) (fun _ _ _ _ _ => i_callD h_is_row hr (by decide) (a_cons (i_var 1) (a_cons (i_len b_len (toP (i_ix hr.units (toP (i_var 0)) (toP (i_int))))) (a_cons (i_len b_len (toP (i_var 0))) (a_nil))))) rfl))))
theorem d_are_ranks {fa : Addr} {fd : FuncData} {dV : Value} (F : FunD K "are_ranks" "are_ranks" s_are_ranks dV fa fd)
  (h_is_whole : DefOk P w K mg base "is_whole" 1 1 p_is_whole)
  (b_isinstance : mg "isinstance" = none)
  (b_list : mg "list" = none)
  (b_len : mg "len" = none)
  (b_all : mg "all" = none) : FnOk P w K mg base CX0 2 fa fd ["thing", "rooms"] (spI K 2 p_are_ranks) := by
 refine fn_iD (k := 1) F sc_are_ranks 2 3 b_are_ranks rfl rfl fun cdv A outer s H E B hr => ?_
 have nd := sc_are_ranks.nd
 refine s_cons ?_ ?_
 ·exact s_if (PW.pt (t_or (t_not (i_test (i_isinst ty_list b_isinstance b_list (toP (i_var 0))))) (t_or1 (i_cmpT (op_neD hr.units) sem_ne (toP (i_len b_len (toP (i_var 0)))) (toP (i_var 1)) (nomark _))))) (s_one (s_ret (i_bl))) (s_nil)
 exact s_one (s_ret (i_all b_all rfl (toP (i_comp [2] sub_N (.of rfl) (it_e (i_var 0)) (fun _ _ _ _ _ => g_name 2 nd) (fun _ _ _ _ _ => i_and (i_callD h_is_whole hr (by decide) (a_cons (i_var 2) (a_nil))) (i_and1 (i_cmpG op_ge sem_ge (toP (i_var 2)) (toP (i_int)) (nomark _)))) rfl))))
theorem d_Machine___init__ {fa : Addr} {fd : FuncData} (F : Fun K "__init__" "Machine.__init__" s_Machine___init__ fa fd)
  (h_are_steps : DefOk P w K mg base "are_steps" 4 1 p_are_steps)
  (h_are_ranks : DefOk P w K mg base "are_ranks" 2 2 p_are_ranks)
  {A_Machine : Addr} (c_Machine : ClsAt K "Machine" A_Machine)
  (na_Machine_steps : NoAttr K A_Machine (Str.ofString "steps"))
  (na_Machine_ranks : NoAttr K A_Machine (Str.ofString "ranks"))
  (na_Machine_many : NoAttr K A_Machine (Str.ofString "many"))
  (na_Machine_letters : NoAttr K A_Machine (Str.ofString "letters"))
  (b_len : mg "len" = none)
  (b_list : mg "list" = none) : FnOk P w K mg base CX0 5 fa fd ["self", "steps", "ranks"] (spM K "Machine" 2 p_Machine___init__) := by
 refine fn_init (k := 4) F sc_Machine___init__ "Machine" 2 4 b_Machine___init__ rfl rfl fun cdv A outer s H E B hr => ?_
 have nd := sc_Machine___init__.nd
 refine s_cons ?_ ?_
 ·exact s_if (t_not (i_test (i_callD h_are_steps hr (by decide) (a_cons (i_var 1) (a_nil))))) (s_one (s_never)) (s_nil)
 refine s_cons ?_ ?_
 ·exact s_if (t_not (i_test (i_callD h_are_ranks hr (by decide) (a_cons (i_var 2) (a_cons (i_len b_len (toP (i_var 1))) (a_nil)))))) (s_one (s_never)) (s_nil)
 refine s_cons ?_ ?_
 ·exact s_fldO 0 c_Machine na_Machine_steps (i_comp [3] sub_N (.of rfl) (it_e (i_var 1)) (fun _ _ _ _ _ => g_name 3 nd) (fun _ _ _ _ _ => i_list b_list (toP (i_var 3))) rfl)
 refine s_cons ?_ ?_
 ·exact s_fldO 0 c_Machine na_Machine_ranks (i_list b_list (toP (i_var 2)))
 refine s_cons ?_ ?_
 ·exact s_fldO 0 c_Machine na_Machine_many (i_len b_len (toP (i_var 1)))
 exact s_one (s_fldO 0 c_Machine na_Machine_letters (i_len b_len (toP (i_ix hr.units (toP (i_var 1)) (toP (i_int))))))
theorem d_law {fa : Addr} {fd : FuncData} {dV : Value} (F : FunD K "law" "law" s_law dV fa fd)
  (h__law_machine : DefOk P w K mg base "_law_machine" 2 3 p__law_machine)
  (h__law_mix : DefOk P w K mg base "_law_mix" 1 3 p__law_mix)
  (h__law_cell : DefOk P w K mg base "_law_cell" 1 2 p__law_cell)
  (h_bits_of : DefOk P w K mg base "bits_of" 1 1 p_bits_of)
  (h__law_whole : DefOk P w K mg base "_law_whole" 1 1 p__law_whole)
  (h__law_sum : DefOk P w K mg base "_law_sum" 1 1 p__law_sum)
  (h_rooms_of : DefOk P w K mg base "rooms_of" 2 1 p_rooms_of)
  (h__law_led : DefOk P w K mg base "_law_led" 1 1 p__law_led)
  (h_seen_from : DefOk P w K mg base "seen_from" 4 2 p_seen_from)
  (h_reaching : DefOk P w K mg base "reaching" 4 2 p_reaching)
  (k_Machine : MakeOk P w K mg base "Machine" 5 2 p_Machine___init__)
  (b_list : mg "list" = none)
  (b_isinstance : mg "isinstance" = none)
  (b_range : mg "range" = none)
  (b_len : mg "len" = none) : FnOk P w K mg base CX0 7 fa fd ["_law_script"] (spI K 1 p_law) := by
 refine fn_iD (k := 6) F sc_law 1 18 b_law rfl rfl fun cdv A outer s H E B hr => ?_
 have nd := sc_law.nd
 refine s_cons ?_ ?_
 ·exact s_tgt (i_callD h__law_machine hr (by decide) (a_cons (i_var 0) (a_cons (i_int) (a_cons (i_int) (a_nil))))) (g_tup rfl (gs_cons 11 (gs_cons 12 (gs_nil) nd) nd))
 refine s_cons ?_ ?_
 ·exact s_set 1 (i_make k_Machine hr (by decide) (a_cons (i_comp [16] sub_N (.of rfl) (it_e (i_var 11)) (fun _ _ _ _ _ => g_name 16 nd) (fun _ _ _ _ _ => i_list b_list (toP (i_var 16))) rfl) (a_cons (i_list b_list (toP (i_var 12))) (a_nil)))) nd
 refine s_cons ?_ ?_
 ·exact s_set 2 (i_add (toP (i_int)) (toP (i_callD h__law_mix hr (by decide) (a_cons (i_callD h__law_cell hr (by decide) (a_cons (i_var 0) (a_cons (i_int) (a_nil)))) (a_cons (i_int) (a_cons (i_int) (a_nil))))))) nd
 refine s_cons ?_ ?_
 ·exact s_if (i_cmpT (op_eqD hr.units) sem_eq (toP (i_callD h__law_mix hr (by decide) (a_cons (i_callD h__law_cell hr (by decide) (a_cons (i_var 0) (a_cons (i_int) (a_nil)))) (a_cons (i_int) (a_cons (i_int) (a_nil)))))) (toP (i_int)) (nomark _)) (s_one (s_set 2 (i_int) nd)) (s_nil)
 refine s_cons ?_ ?_
 ·exact s_set 3 (i_comp [15] sub_N (.of rfl) (it_e (i_sl (toP (i_var 0)) (o_some (toP (i_int))) (o_some (toP (i_int))))) (fun _ _ _ _ _ => g_name 15 nd) (fun _ _ _ _ _ => i_callD h__law_mix hr (by decide) (a_cons (i_var 15) (a_cons (i_int) (a_cons (i_var 2) (a_nil))))) rfl) nd
 refine s_cons ?_ ?_
 ·exact s_set 4 (i_list b_list (toP (i_var 3))) nd
 refine s_cons ?_ ?_
 ·exact s_set 5 (i_callD h_bits_of hr (by decide) (a_cons (i_var 4) (a_nil))) nd
 refine s_cons ?_ ?_
 ·exact s_if (PW.pt (t_or (t_not (i_test (i_callD h__law_whole hr (by decide) (a_cons (i_var 5) (a_nil))))) (t_or (i_cmpT (op_neD hr.units) sem_ne (toP (i_var 5)) (toP (i_callD h__law_sum hr (by decide) (a_cons (i_var 3) (a_nil)))) (nomark _)) (t_or1 (i_cmpT (op_neD hr.units) sem_ne (toP (i_var 4)) (toP (i_var 3)) (nomark _)))))) (s_one (s_ret (i_bl))) (s_nil)
 refine s_cons ?_ ?_
 ·exact s_set 6 (i_callD h_rooms_of hr (by decide) (a_cons (i_var 5) (a_nil))) nd
 refine s_cons ?_ ?_
 ·exact s_if (PW.pt (t_or (t_not (i_test (i_isinst ty_list b_isinstance b_list (toP (i_var 6))))) (t_or1 (i_cmpT (op_neD hr.units) sem_ne (toP (i_var 6)) (toP (i_compif [10] sub_N (.of rfl) (it_r1 b_range (toP (i_int))) (fun _ _ _ _ _ => g_name 10 nd) (fun _ _ _ _ _ => i_cmpT (op_inD hr.units) sem_in (toP (i_var 10)) (toP (i_var 3)) rfl) (fun _ _ _ _ _ => i_var 10) rfl)) (nomark _))))) (s_one (s_ret (i_bl))) (s_nil)
 refine s_cons ?_ ?_
 ·exact s_if (i_cmpT op_gt sem_gt (toP (i_len b_len (toP (i_compif [10] sub_N (.of rfl) (it_e (i_var 6)) (fun _ _ _ _ _ => g_name 10 nd) (fun _ _ _ _ _ => t_not (i_test (i_callD h__law_whole hr (by decide) (a_cons (i_var 10) (a_nil))))) (fun _ _ _ _ _ => i_var 10) rfl)))) (toP (i_int)) (nomark _)) (s_one (s_ret (i_bl))) (s_nil)
 refine s_cons ?_ ?_
 ·exact s_set 7 (i_callD h__law_led hr (by decide) (a_cons (i_var 11) (a_nil))) nd
 refine s_cons ?_ ?_
 ·exact s_set 8 (i_callD h__law_mix hr (by decide) (a_cons (i_callD h__law_cell hr (by decide) (a_cons (i_var 0) (a_cons (i_int) (a_nil)))) (a_cons (i_int) (a_cons (i_shl (toP (i_int)) (toP (i_len b_len (toP (i_var 11))))) (a_nil))))) nd
 refine s_cons ?_ ?_
 ·exact s_set 9 (i_int) nd
 refine s_cons ?_ ?_
 ·exact s_for (it_r1 b_range (toP (i_len b_len (toP (i_var 11))))) (g_name 10 nd) (s_cons (by exact s_set 13 (i_callD h_seen_from hr (by decide) (a_cons (i_var 1) (a_cons (i_var 10) (a_nil)))) nd) (by exact s_cons (by exact s_setCif 14  [17] sub_N (.of rfl) (it_r1 b_range (toP (i_len b_len (toP (i_var 11))))) (fun _ _ _ _ _ => g_name 17 nd) (fun _ _ _ _ _ => i_test (i_ix hr.units (toP (i_ix hr.units (toP (i_var 7)) (toP (i_var 10)))) (toP (i_var 17)))) (fun _ _ _ _ _ => i_var 17) rfl nd) (by exact s_cons (by exact s_if (PW.pt (t_or (t_not (i_test (i_callD h__law_whole hr (by decide) (a_cons (i_var 13) (a_nil))))) (t_or1 (i_cmpT (op_neD hr.units) sem_ne (toP (i_var 13)) (toP (i_callD h__law_sum hr (by decide) (a_cons (i_var 14) (a_nil)))) (nomark _))))) (s_one (s_ret (i_bl))) (s_nil)) (by exact s_one (s_if (i_cmpT op_gt sem_gt (toP (i_band (toP (i_var 13)) (toP (i_var 8)))) (toP (i_int)) (nomark _)) (s_one (s_set 9 (i_add (toP (i_var 9)) (toP (i_shl (toP (i_int)) (toP (i_var 10))))) nd)) (s_nil)))))) PassesOwn.never rfl
 refine s_cons ?_ ?_
 ·exact s_set 6 (i_callD h_reaching hr (by decide) (a_cons (i_var 1) (a_cons (i_var 8) (a_nil)))) nd
 exact s_one (s_ret (i_and (i_callD h__law_whole hr (by decide) (a_cons (i_var 6) (a_nil))) (i_and1 (i_cmpG (op_eqD hr.units) sem_eq (toP (i_var 6)) (toP (i_var 9)) (nomark _)))))
end
theorem all_mk {l : PySem.W.OpenLaw} {w : World} {K : PySem.W.Frag} {h : Heap} {mg : Str -> Option Value} {fa : Addr} (X : K.In h) (G : h.Ns mainGlobals mg) (hfa : mg "law" = some (.ref fa))
  {A_Machine : Addr} {f1 : Addr} {od1 an1 : Option Addr} {sl1 : Array (Option Value)} {oc1 kV1 dc1 pm1 cd1 ct1 : Value} {f2 : Addr} {od2 an2 : Option Addr} {sl2 : Array (Option Value)} {oc2 kV2 dc2 pm2 cd2 ct2 : Value} {f3 : Addr} {od3 an3 : Option Addr} {sl3 : Array (Option Value)} {oc3 kV3 dc3 pm3 cd3 ct3 : Value} {f4 : Addr} {od4 an4 : Option Addr} {sl4 : Array (Option Value)} {oc4 kV4 dc4 pm4 cd4 ct4 : Value} {f5 : Addr} {od5 an5 : Option Addr} {sl5 : Array (Option Value)} {oc5 kV5 dc5 pm5 cd5 ct5 : Value} {f6 : Addr} {od6 an6 : Option Addr} {sl6 : Array (Option Value)} {oc6 kV6 dc6 pm6 cd6 ct6 : Value} {f7 : Addr} {od7 an7 : Option Addr} {sl7 : Array (Option Value)} {oc7 kV7 dc7 pm7 cd7 ct7 : Value} {f8 : Addr} {od8 an8 : Option Addr} {sl8 : Array (Option Value)} {oc8 kV8 dc8 pm8 cd8 ct8 : Value} {f9 : Addr} {od9 an9 : Option Addr} {sl9 : Array (Option Value)} {oc9 kV9 dc9 pm9 cd9 ct9 : Value} {f10 : Addr} {od10 an10 : Option Addr} {sl10 : Array (Option Value)} {oc10 kV10 dc10 pm10 cd10 ct10 : Value} {f11 : Addr} {od11 an11 : Option Addr} {sl11 : Array (Option Value)} {oc11 kV11 dc11 pm11 cd11 ct11 : Value} {f12 : Addr} {od12 an12 : Option Addr} {sl12 : Array (Option Value)} {oc12 kV12 dc12 pm12 cd12 ct12 : Value} {f13 : Addr} {od13 an13 : Option Addr} {sl13 : Array (Option Value)} {oc13 kV13 dc13 pm13 cd13 ct13 : Value} {f14 : Addr} {od14 an14 : Option Addr} {sl14 : Array (Option Value)} {oc14 kV14 dc14 pm14 cd14 ct14 : Value} {f15 : Addr} {od15 an15 : Option Addr} {sl15 : Array (Option Value)} {oc15 kV15 dc15 pm15 cd15 ct15 : Value} {f16 : Addr} {od16 an16 : Option Addr} {sl16 : Array (Option Value)} {oc16 kV16 dc16 pm16 cd16 ct16 : Value} {f17 : Addr} {od17 an17 : Option Addr} {sl17 : Array (Option Value)} {oc17 kV17 dc17 pm17 cd17 ct17 : Value} {f18 : Addr} {od18 an18 : Option Addr} {sl18 : Array (Option Value)} {oc18 kV18 dc18 pm18 cd18 ct18 : Value} {f19 : Addr} {od19 an19 : Option Addr} {sl19 : Array (Option Value)} {oc19 kV19 dc19 pm19 cd19 ct19 : Value} {f20 : Addr} {od20 an20 : Option Addr} {sl20 : Array (Option Value)} {oc20 kV20 dc20 pm20 cd20 ct20 : Value} {f21 : Addr} {od21 an21 : Option Addr} {sl21 : Array (Option Value)} {oc21 kV21 dc21 pm21 cd21 ct21 : Value} {t_MOST_LETTERS : Tok} {t_MOST_ROOMS : Tok}
  (x_Machine : PySem.W.nsIn K mainGlobals (Str.ofString "Machine") = some (some (.ref A_Machine)))
  (x1_Machine : PySem.W.plainGet K A_Machine Str.empty = true)
  (x2_Machine : PySem.W.hasDictIn K A_Machine = true)
  (x3_Machine : PySem.W.plainOver K A_Machine = true)
  (x4_Machine : PySem.W.findIn K (.ref A_Machine) "__setattr__" = some (some (.builtin "object.__setattr__")))
  (x5_Machine : PySem.W.makesIn K A_Machine = true)
  (x6_Machine : PySem.W.keepIn K (.ref A_Machine) = true)
  (w_Machine_letters : PySem.W.findIn K (.ref A_Machine) (Str.ofString "letters") = some none)
  (w_Machine_many : PySem.W.findIn K (.ref A_Machine) (Str.ofString "many") = some none)
  (w_Machine_ranks : PySem.W.findIn K (.ref A_Machine) (Str.ofString "ranks") = some none)
  (w_Machine_steps : PySem.W.findIn K (.ref A_Machine) (Str.ofString "steps") = some none)
  (a1 : PySem.W.nsIn K mainGlobals "_law_cell" = some (some (.ref f1)))
  (l1 : K.lookup f1 = some ⟨oc1, od1, .func (PySem.W.fnOf "_law_cell" "_law_cell" (defArgs s__law_cell) (defBody s__law_cell) (defScope s__law_cell) .none kV1 dc1 pm1 an1 cd1 ct1), sl1⟩)
  (c1 : PySem.W.codeIn K cd1 "_law_cell" = true)
  (k1 : PySem.W.keepIn K (.ref f1) = true)
  (a2 : PySem.W.nsIn K mainGlobals "_law_mix" = some (some (.ref f2)))
  (l2 : K.lookup f2 = some ⟨oc2, od2, .func (PySem.W.fnOf "_law_mix" "_law_mix" (defArgs s__law_mix) (defBody s__law_mix) (defScope s__law_mix) .none kV2 dc2 pm2 an2 cd2 ct2), sl2⟩)
  (c2 : PySem.W.codeIn K cd2 "_law_mix" = true)
  (k2 : PySem.W.keepIn K (.ref f2) = true)
  (a3 : PySem.W.nsIn K mainGlobals "_law_machine" = some (some (.ref f3)))
  (l3 : K.lookup f3 = some ⟨oc3, od3, .func (PySem.W.fnOf "_law_machine" "_law_machine" (defArgs s__law_machine) (defBody s__law_machine) (defScope s__law_machine) .none kV3 dc3 pm3 an3 cd3 ct3), sl3⟩)
  (c3 : PySem.W.codeIn K cd3 "_law_machine" = true)
  (k3 : PySem.W.keepIn K (.ref f3) = true)
  (a4 : PySem.W.nsIn K mainGlobals "bits_of" = some (some (.ref f4)))
  (l4 : K.lookup f4 = some ⟨oc4, od4, .func (PySem.W.fnOf "bits_of" "bits_of" (defArgs s_bits_of) (defBody s_bits_of) (defScope s_bits_of) .none kV4 dc4 pm4 an4 cd4 ct4), sl4⟩)
  (c4 : PySem.W.codeIn K cd4 "bits_of" = true)
  (k4 : PySem.W.keepIn K (.ref f4) = true)
  (a5 : PySem.W.nsIn K mainGlobals "_law_whole" = some (some (.ref f5)))
  (l5 : K.lookup f5 = some ⟨oc5, od5, .func (PySem.W.fnOf "_law_whole" "_law_whole" (defArgs s__law_whole) (defBody s__law_whole) (defScope s__law_whole) .none kV5 dc5 pm5 an5 cd5 ct5), sl5⟩)
  (c5 : PySem.W.codeIn K cd5 "_law_whole" = true)
  (k5 : PySem.W.keepIn K (.ref f5) = true)
  (a6 : PySem.W.nsIn K mainGlobals "_law_sum" = some (some (.ref f6)))
  (l6 : K.lookup f6 = some ⟨oc6, od6, .func (PySem.W.fnOf "_law_sum" "_law_sum" (defArgs s__law_sum) (defBody s__law_sum) (defScope s__law_sum) .none kV6 dc6 pm6 an6 cd6 ct6), sl6⟩)
  (c6 : PySem.W.codeIn K cd6 "_law_sum" = true)
  (k6 : PySem.W.keepIn K (.ref f6) = true)
  (a7 : PySem.W.nsIn K mainGlobals "has_room" = some (some (.ref f7)))
  (l7 : K.lookup f7 = some ⟨oc7, od7, .func (PySem.W.fnOf "has_room" "has_room" (defArgs s_has_room) (defBody s_has_room) (defScope s_has_room) .none kV7 dc7 pm7 an7 cd7 ct7), sl7⟩)
  (c7 : PySem.W.codeIn K cd7 "has_room" = true)
  (k7 : PySem.W.keepIn K (.ref f7) = true)
  (a8 : PySem.W.nsIn K mainGlobals "rooms_of" = some (some (.ref f8)))
  (l8 : K.lookup f8 = some ⟨oc8, od8, .func (PySem.W.fnOf "rooms_of" "rooms_of" (defArgs s_rooms_of) (defBody s_rooms_of) (defScope s_rooms_of) .none kV8 dc8 pm8 an8 cd8 ct8), sl8⟩)
  (c8 : PySem.W.codeIn K cd8 "rooms_of" = true)
  (k8 : PySem.W.keepIn K (.ref f8) = true)
  (a9 : PySem.W.nsIn K mainGlobals "_law_led" = some (some (.ref f9)))
  (l9 : K.lookup f9 = some ⟨oc9, od9, .func (PySem.W.fnOf "_law_led" "_law_led" (defArgs s__law_led) (defBody s__law_led) (defScope s__law_led) .none kV9 dc9 pm9 an9 cd9 ct9), sl9⟩)
  (c9 : PySem.W.codeIn K cd9 "_law_led" = true)
  (k9 : PySem.W.keepIn K (.ref f9) = true)
  (a10 : PySem.W.nsIn K mainGlobals "seen_among" = some (some (.ref f10)))
  (l10 : K.lookup f10 = some ⟨oc10, od10, .func (PySem.W.fnOf "seen_among" "seen_among" (defArgs s_seen_among) (defBody s_seen_among) (defScope s_seen_among) .none kV10 dc10 pm10 an10 cd10 ct10), sl10⟩)
  (c10 : PySem.W.codeIn K cd10 "seen_among" = true)
  (k10 : PySem.W.keepIn K (.ref f10) = true)
  (a11 : PySem.W.nsIn K mainGlobals "all_rooms" = some (some (.ref f11)))
  (l11 : K.lookup f11 = some ⟨oc11, od11, .func (PySem.W.fnOf "all_rooms" "all_rooms" (defArgs s_all_rooms) (defBody s_all_rooms) (defScope s_all_rooms) .none kV11 dc11 pm11 an11 cd11 ct11), sl11⟩)
  (c11 : PySem.W.codeIn K cd11 "all_rooms" = true)
  (k11 : PySem.W.keepIn K (.ref f11) = true)
  (a12 : PySem.W.nsIn K mainGlobals "seen_from" = some (some (.ref f12)))
  (l12 : K.lookup f12 = some ⟨oc12, od12, .func (PySem.W.fnOf "seen_from" "seen_from" (defArgs s_seen_from) (defBody s_seen_from) (defScope s_seen_from) .none kV12 dc12 pm12 an12 cd12 ct12), sl12⟩)
  (c12 : PySem.W.codeIn K cd12 "seen_from" = true)
  (k12 : PySem.W.keepIn K (.ref f12) = true)
  (a13 : PySem.W.nsIn K mainGlobals "reaching" = some (some (.ref f13)))
  (l13 : K.lookup f13 = some ⟨oc13, od13, .func (PySem.W.fnOf "reaching" "reaching" (defArgs s_reaching) (defBody s_reaching) (defScope s_reaching) .none kV13 dc13 pm13 an13 cd13 ct13), sl13⟩)
  (c13 : PySem.W.codeIn K cd13 "reaching" = true)
  (k13 : PySem.W.keepIn K (.ref f13) = true)
  (a14 : PySem.W.nsIn K mainGlobals "is_filled_list" = some (some (.ref f14)))
  (l14 : K.lookup f14 = some ⟨oc14, od14, .func (PySem.W.fnOf "is_filled_list" "is_filled_list" (defArgs s_is_filled_list) (defBody s_is_filled_list) (defScope s_is_filled_list) .none kV14 dc14 pm14 an14 cd14 ct14), sl14⟩)
  (c14 : PySem.W.codeIn K cd14 "is_filled_list" = true)
  (k14 : PySem.W.keepIn K (.ref f14) = true)
  (a15 : PySem.W.nsIn K mainGlobals "is_whole" = some (some (.ref f15)))
  (l15 : K.lookup f15 = some ⟨oc15, od15, .func (PySem.W.fnOf "is_whole" "is_whole" (defArgs s_is_whole) (defBody s_is_whole) (defScope s_is_whole) .none kV15 dc15 pm15 an15 cd15 ct15), sl15⟩)
  (c15 : PySem.W.codeIn K cd15 "is_whole" = true)
  (k15 : PySem.W.keepIn K (.ref f15) = true)
  (a16 : PySem.W.nsIn K mainGlobals "is_below" = some (some (.ref f16)))
  (l16 : K.lookup f16 = some ⟨oc16, od16, .func (PySem.W.fnOf "is_below" "is_below" (defArgs s_is_below) (defBody s_is_below) (defScope s_is_below) .none kV16 dc16 pm16 an16 cd16 ct16), sl16⟩)
  (c16 : PySem.W.codeIn K cd16 "is_below" = true)
  (k16 : PySem.W.keepIn K (.ref f16) = true)
  (a17 : PySem.W.nsIn K mainGlobals "is_row" = some (some (.ref f17)))
  (l17 : K.lookup f17 = some ⟨oc17, od17, .func (PySem.W.fnOf "is_row" "is_row" (defArgs s_is_row) (defBody s_is_row) (defScope s_is_row) .none kV17 dc17 pm17 an17 cd17 ct17), sl17⟩)
  (c17 : PySem.W.codeIn K cd17 "is_row" = true)
  (k17 : PySem.W.keepIn K (.ref f17) = true)
  (a18 : PySem.W.nsIn K mainGlobals "are_steps" = some (some (.ref f18)))
  (l18 : K.lookup f18 = some ⟨oc18, od18, .func (PySem.W.fnOf "are_steps" "are_steps" (defArgs s_are_steps) (defBody s_are_steps) (defScope s_are_steps) .none kV18 dc18 pm18 an18 cd18 ct18), sl18⟩)
  (c18 : PySem.W.codeIn K cd18 "are_steps" = true)
  (k18 : PySem.W.keepIn K (.ref f18) = true)
  (a19 : PySem.W.nsIn K mainGlobals "are_ranks" = some (some (.ref f19)))
  (l19 : K.lookup f19 = some ⟨oc19, od19, .func (PySem.W.fnOf "are_ranks" "are_ranks" (defArgs s_are_ranks) (defBody s_are_ranks) (defScope s_are_ranks) .none kV19 dc19 pm19 an19 cd19 ct19), sl19⟩)
  (c19 : PySem.W.codeIn K cd19 "are_ranks" = true)
  (k19 : PySem.W.keepIn K (.ref f19) = true)
  (a20 : PySem.W.findIn K (.ref A_Machine) (Str.ofString "__init__") = some (some (.ref f20)))
  (e20 : PySem.W.isFn K (.ref f20) = true)
  (l20 : K.lookup f20 = some ⟨oc20, od20, .func (PySem.W.fnOf "__init__" "Machine.__init__" (defArgs s_Machine___init__) (defBody s_Machine___init__) (defScope s_Machine___init__) .none kV20 dc20 pm20 an20 cd20 ct20), sl20⟩)
  (c20 : PySem.W.codeIn K cd20 "Machine.__init__" = true)
  (k20 : PySem.W.keepIn K (.ref f20) = true)
  (a21 : PySem.W.nsIn K mainGlobals "law" = some (some (.ref f21)))
  (l21 : K.lookup f21 = some ⟨oc21, od21, .func (PySem.W.fnOf "law" "law" (defArgs s_law) (defBody s_law) (defScope s_law) .none kV21 dc21 pm21 an21 cd21 ct21), sl21⟩)
  (c21 : PySem.W.codeIn K cd21 "law" = true)
  (k21 : PySem.W.keepIn K (.ref f21) = true)
  (v_MOST_LETTERS : PySem.W.nsIn K mainGlobals "MOST_LETTERS" = some (some (.int 3 t_MOST_LETTERS)))
  (v_MOST_ROOMS : PySem.W.nsIn K mainGlobals "MOST_ROOMS" = some (some (.int 8 t_MOST_ROOMS)))
  (z_all : PySem.W.nsIn K mainGlobals "all" = some none)
  (z_bool : PySem.W.nsIn K mainGlobals "bool" = some none)
  (z_int : PySem.W.nsIn K mainGlobals "int" = some none)
  (z_isinstance : PySem.W.nsIn K mainGlobals "isinstance" = some none)
  (z_len : PySem.W.nsIn K mainGlobals "len" = some none)
  (z_list : PySem.W.nsIn K mainGlobals "list" = some none)
  (z_range : PySem.W.nsIn K mainGlobals "range" = some none)
  (z_sum : PySem.W.nsIn K mainGlobals "sum" = some none) :
  ∃ fd : FuncData, (∀ (s : Shared) (v : Value), BindsTo s fd ⟨[v], []⟩ [("_law_script", v)]) /\ ∀ base : Heap, K.In base -> base.Ns mainGlobals mg -> FnOk l.prog w K mg base CX0 7 fa fd ["_law_script"] (spI K 1 p_law) := by
 have e := hfa.symm.trans (PySem.W.mg_of X G a21)
 cases e
 have c_Machine : ClsAt K "Machine" A_Machine := ⟨x_Machine, x1_Machine, x2_Machine, x3_Machine, x4_Machine⟩
 have na_Machine_letters : NoAttr K A_Machine (Str.ofString "letters") := w_Machine_letters
 have na_Machine_many : NoAttr K A_Machine (Str.ofString "many") := w_Machine_many
 have na_Machine_ranks : NoAttr K A_Machine (Str.ofString "ranks") := w_Machine_ranks
 have na_Machine_steps : NoAttr K A_Machine (Str.ofString "steps") := w_Machine_steps
 have F1 := funD_mk (st := s__law_cell) l1 c1 k1
 have b1 := F1.binds0 (ps := ["_law_script", "_law_k"]) fun _ _ _ _ _ _ => of_len2 (fun _ _ => rfl)
 have F2 := funD_mk (st := s__law_mix) l2 c2 k2
 have b2 := F2.binds0 (ps := ["_law_cell_here", "_law_k", "_law_many"]) fun _ _ _ _ _ _ => of_len3 (fun _ _ _ => rfl)
 have F3 := funD_mk (st := s__law_machine) l3 c3 k3
 have b3 := F3.binds0 (ps := ["_law_script", "_law_at", "_law_most"]) fun _ _ _ _ _ _ => of_len3 (fun _ _ _ => rfl)
 have F4 := funD_mk (st := s_bits_of) l4 c4 k4
 have b4 := F4.binds0 (ps := ["rooms"]) fun _ _ _ _ _ _ => of_len1 (fun _ => rfl)
 have F5 := funD_mk (st := s__law_whole) l5 c5 k5
 have b5 := F5.binds0 (ps := ["_law_found"]) fun _ _ _ _ _ _ => of_len1 (fun _ => rfl)
 have F6 := funD_mk (st := s__law_sum) l6 c6 k6
 have b6 := F6.binds0 (ps := ["_law_rooms"]) fun _ _ _ _ _ _ => of_len1 (fun _ => rfl)
 have F7 := funD_mk (st := s_has_room) l7 c7 k7
 have b7 := F7.binds0 (ps := ["bits", "room"]) fun _ _ _ _ _ _ => of_len2 (fun _ _ => rfl)
 have F8 := funD_mk (st := s_rooms_of) l8 c8 k8
 have b8 := F8.binds0 (ps := ["bits"]) fun _ _ _ _ _ _ => of_len1 (fun _ => rfl)
 have F9 := funD_mk (st := s__law_led) l9 c9 k9
 have b9 := F9.binds0 (ps := ["_law_steps"]) fun _ _ _ _ _ _ => of_len1 (fun _ => rfl)
 have F10 := funD_mk (st := s_seen_among) l10 c10 k10
 have b10 := F10.binds0 (ps := ["steps", "allowed"]) fun _ _ _ _ _ _ => of_len2 (fun _ _ => rfl)
 have F11 := funD_mk (st := s_all_rooms) l11 c11 k11
 have b11 := F11.binds0 (ps := ["machine"]) fun _ _ _ _ _ _ => of_len1 (fun _ => rfl)
 have F12 := funD_mk (st := s_seen_from) l12 c12 k12
 have b12 := F12.binds0 (ps := ["machine", "room"]) fun _ _ _ _ _ _ => of_len2 (fun _ _ => rfl)
 have F13 := funD_mk (st := s_reaching) l13 c13 k13
 have b13 := F13.binds0 (ps := ["machine", "goals"]) fun _ _ _ _ _ _ => of_len2 (fun _ _ => rfl)
 have F14 := funD_mk (st := s_is_filled_list) l14 c14 k14
 have b14 := F14.binds0 (ps := ["thing", "most"]) fun _ _ _ _ _ _ => of_len2 (fun _ _ => rfl)
 have F15 := funD_mk (st := s_is_whole) l15 c15 k15
 have b15 := F15.binds0 (ps := ["thing"]) fun _ _ _ _ _ _ => of_len1 (fun _ => rfl)
 have F16 := funD_mk (st := s_is_below) l16 c16 k16
 have b16 := F16.binds0 (ps := ["thing", "limit"]) fun _ _ _ _ _ _ => of_len2 (fun _ _ => rfl)
 have F17 := funD_mk (st := s_is_row) l17 c17 k17
 have b17 := F17.binds0 (ps := ["thing", "letters", "rooms"]) fun _ _ _ _ _ _ => of_len3 (fun _ _ _ => rfl)
 have F18 := funD_mk (st := s_are_steps) l18 c18 k18
 have b18 := F18.binds0 (ps := ["thing"]) fun _ _ _ _ _ _ => of_len1 (fun _ => rfl)
 have F19 := funD_mk (st := s_are_ranks) l19 c19 k19
 have b19 := F19.binds0 (ps := ["thing", "rooms"]) fun _ _ _ _ _ _ => of_len2 (fun _ _ => rfl)
 have F20 := fun_mk (st := s_Machine___init__) l20 c20 k20
 have b20 := F20.binds (ps := ["self", "steps", "ranks"]) fun _ _ _ _ _ _ => of_len3 (fun _ _ _ => rfl)
 have F21 := funD_mk (st := s_law) l21 c21 k21
 have b21 := F21.binds0 (ps := ["_law_script"]) fun _ _ _ _ _ _ => of_len1 (fun _ => rfl)
 have b_all := PySem.W.mg_none_of X G z_all
 have b_bool := PySem.W.mg_none_of X G z_bool
 have b_int := PySem.W.mg_none_of X G z_int
 have b_isinstance := PySem.W.mg_none_of X G z_isinstance
 have b_len := PySem.W.mg_none_of X G z_len
 have b_list := PySem.W.mg_none_of X G z_list
 have b_range := PySem.W.mg_none_of X G z_range
 have b_sum := PySem.W.mg_none_of X G z_sum
 have g_MOST_LETTERS := PySem.W.mg_of X G v_MOST_LETTERS
 have g_MOST_ROOMS := PySem.W.mg_of X G v_MOST_ROOMS
 refine ⟨PySem.W.fnOf "law" "law" (defArgs s_law) (defBody s_law) (defScope s_law) .none kV21 dc21 pm21 an21 cd21 ct21, fun s v => .of_eq rfl, fun base _ _ => ?_⟩
 have f__law_cell := d__law_cell (P := l.prog) (w := w) (mg := mg) (base := base) F1 b_len
 have h__law_cell := DefOk.of f__law_cell (PySem.W.mg_of X G a1) F1.kp b1 runD_len
 have f__law_mix := d__law_mix (P := l.prog) (w := w) (mg := mg) (base := base) F2 
 have h__law_mix := DefOk.of f__law_mix (PySem.W.mg_of X G a2) F2.kp b2 runD_len
 have f__law_machine := d__law_machine (P := l.prog) (w := w) (mg := mg) (base := base) F3 h__law_cell h__law_mix b_range
 have h__law_machine := DefOk.of f__law_machine (PySem.W.mg_of X G a3) F3.kp b3 runD_len
 have f_bits_of := d_bits_of (P := l.prog) (w := w) (mg := mg) (base := base) F4 
 have h_bits_of := DefOk.of f_bits_of (PySem.W.mg_of X G a4) F4.kp b4 runD_len
 have f__law_whole := d__law_whole (P := l.prog) (w := w) (mg := mg) (base := base) F5 b_isinstance b_int b_bool
 have h__law_whole := DefOk.of f__law_whole (PySem.W.mg_of X G a5) F5.kp b5 runD_len
 have f__law_sum := d__law_sum (P := l.prog) (w := w) (mg := mg) (base := base) F6 b_sum b_range
 have h__law_sum := DefOk.of f__law_sum (PySem.W.mg_of X G a6) F6.kp b6 runD_len
 have f_has_room := d_has_room (P := l.prog) (w := w) (mg := mg) (base := base) F7 
 have h_has_room := DefOk.of f_has_room (PySem.W.mg_of X G a7) F7.kp b7 runD_len
 have f_rooms_of := d_rooms_of (P := l.prog) (w := w) (mg := mg) (base := base) F8 h_has_room b_range
 have h_rooms_of := DefOk.of f_rooms_of (PySem.W.mg_of X G a8) F8.kp b8 runD_len
 have f__law_led := d__law_led (P := l.prog) (w := w) (mg := mg) (base := base) F9 b_range b_len
 have h__law_led := DefOk.of f__law_led (PySem.W.mg_of X G a9) F9.kp b9 runD_len
 have f_seen_among := d_seen_among (P := l.prog) (w := w) (mg := mg) (base := base) F10 h_rooms_of h_bits_of h_has_room
 have h_seen_among := DefOk.of f_seen_among (PySem.W.mg_of X G a10) F10.kp b10 runD_len
 have f_all_rooms := d_all_rooms (P := l.prog) (w := w) (mg := mg) (base := base) F11 h_bits_of c_Machine na_Machine_many b_list b_range
 have h_all_rooms := DefOk.of f_all_rooms (PySem.W.mg_of X G a11) F11.kp b11 runD_len
 have f_seen_from := d_seen_from (P := l.prog) (w := w) (mg := mg) (base := base) F12 h_seen_among h_all_rooms c_Machine na_Machine_steps
 have h_seen_from := DefOk.of f_seen_from (PySem.W.mg_of X G a12) F12.kp b12 runD_len
 have f_reaching := d_reaching (P := l.prog) (w := w) (mg := mg) (base := base) F13 h_seen_among h_all_rooms h_bits_of c_Machine na_Machine_steps na_Machine_many b_range
 have h_reaching := DefOk.of f_reaching (PySem.W.mg_of X G a13) F13.kp b13 runD_len
 have f_is_filled_list := d_is_filled_list (P := l.prog) (w := w) (mg := mg) (base := base) F14 b_isinstance b_list b_len
 have h_is_filled_list := DefOk.of f_is_filled_list (PySem.W.mg_of X G a14) F14.kp b14 runD_len
 have f_is_whole := d_is_whole (P := l.prog) (w := w) (mg := mg) (base := base) F15 b_isinstance b_int b_bool
 have h_is_whole := DefOk.of f_is_whole (PySem.W.mg_of X G a15) F15.kp b15 runD_len
 have f_is_below := d_is_below (P := l.prog) (w := w) (mg := mg) (base := base) F16 h_is_whole
 have h_is_below := DefOk.of f_is_below (PySem.W.mg_of X G a16) F16.kp b16 runD_len
 have f_is_row := d_is_row (P := l.prog) (w := w) (mg := mg) (base := base) F17 h_is_below b_len b_all
 have h_is_row := DefOk.of f_is_row (PySem.W.mg_of X G a17) F17.kp b17 runD_len
 have f_are_steps := d_are_steps (P := l.prog) (w := w) (mg := mg) (base := base) F18 h_is_filled_list h_is_row b_all b_len g_MOST_ROOMS g_MOST_LETTERS
 have h_are_steps := DefOk.of f_are_steps (PySem.W.mg_of X G a18) F18.kp b18 runD_len
 have f_are_ranks := d_are_ranks (P := l.prog) (w := w) (mg := mg) (base := base) F19 h_is_whole b_isinstance b_list b_len b_all
 have h_are_ranks := DefOk.of f_are_ranks (PySem.W.mg_of X G a19) F19.kp b19 runD_len
 have f_Machine___init__ := d_Machine___init__ (P := l.prog) (w := w) (mg := mg) (base := base) F20 h_are_steps h_are_ranks c_Machine na_Machine_steps na_Machine_ranks na_Machine_many na_Machine_letters b_len b_list
 have k_Machine := MakeOk.of c_Machine ⟨x5_Machine, a20, e20, x6_Machine⟩ f_Machine___init__ b20 (PySem.W.mg_of X G x_Machine)
 have f_law := d_law (P := l.prog) (w := w) (mg := mg) (base := base) F21 h__law_machine h__law_mix h__law_cell h_bits_of h__law_whole h__law_sum h_rooms_of h__law_led h_seen_from h_reaching k_Machine b_list b_isinstance b_range b_len
 exact f_law
theorem walkX_z {q : Program} {loose : List Str} {XP : (Str -> Option Value) -> Heap -> Prop} {K : Params -> PySem.W.Frag} {as : List Addr} {n t : Nat} {r : PySem.W.RowW} {d : DefRec} {kwd : List (Str × Expr)} {run : Value -> List Value -> Sem Value} (e : ∀ P, as = (K P).map (·.1)) (h : PySem.W.WalkO q loose XP (PySem.W.InK K) r d kwd run) : PySem.W.WalkX q loose XP (PySem.W.X.obsZ as) (PySem.W.X.valZ K n t) r d kwd run :=
 fun w s₀ s₁ mg mb G y a o pm cd doc dV kV h1 h2 h3 h4 h5 h6 args vals as' L h7 h8 h9 h10 h11 => h w s₀ s₁ mg mb G (PySem.W.InK.keeps w _ _ (PySem.W.X.z_facts e y).2.1 L.keeps) a o pm cd doc dV kV h1 h2 h3 h4 h5 h6 args vals as' h7 h8 h9 h10 h11
theorem walk {l : PySem.W.OpenLaw} {q : Program} {loose : List Str} {XP : (Str -> Option Value) -> Heap -> Prop} {YP : World -> Heap -> Prop} {d : DefRec} {K : Params -> PySem.W.Frag} (hn : l.most = some 63) (hdf : d.params.defaults = [])
  (hY : ∀ (w : World) (h : Heap), YP w h -> (K w.params).In h)
  (hlaw : ∀ ns : List Int, ns.length <= 63 -> p_law [.lst (ns.map D.int)] = .ok (.bl true))
  (F : ∀ (w : World) (mg : Str -> Option Value) (fa : Addr) (h : Heap), (K w.params).In h -> h.Ns mainGlobals mg -> mg d.name = some (.ref fa) ->
   ∃ fd : FuncData, (∀ (s : Shared) (u : Value), BindsTo s fd ⟨[u], []⟩ [("_law_script", u)]) /\ ∀ base : Heap, (K w.params).In base -> base.Ns mainGlobals mg -> FnOk l.prog w (K w.params) mg base CX0 7 fa fd ["_law_script"] (spI (K w.params) 1 p_law)) :
  PySem.W.WalkO q loose XP YP l.row.toRowW d [] (fun f vs => PySem.call f vs) :=
 L2.walk_of (n := 63) (k := 7) (x := "_law_script") (CX := fun _ => CX0) (sp := fun w => spI (K w.params) 1 p_law) hn (by decide) hdf ⟨rfl, by decide, by decide⟩ hY F (fun _ _ a ns hl _ hS => law_sp hS (hlaw ns hl)) fun _ _ _ _ _ z => z
end Pu
open PySem PySem.W PyProof.Rows
set_option maxRecDepth 100000 in
set_option maxHeartbeats 0 in
theorem PySem.Challenge.cw_looprank_k21_sets_of_rooms_holds : PySem.Challenge.rw_looprank_k21_sets_of_rooms.Holds := by
 w_on; o_law; z_head; (case hw => w_witness2)
 k_fill
 refine Pu.walkX_z (fun P => by kernel_rfl) (Pu.walk (l := PySem.Challenge.rw_looprank_k21_sets_of_rooms) rfl rfl (fun w h Y => Y) Pu.law_true ?F)
 case F =>
  intro w mg fa h KX G hmg
  refine' Pu.all_mk KX G hmg ?x_Machine ?x1_Machine ?x2_Machine ?x3_Machine ?x4_Machine ?x5_Machine ?x6_Machine ?w_Machine_letters ?w_Machine_many ?w_Machine_ranks ?w_Machine_steps ?a1 ?l1 ?c1 ?k1 ?a2 ?l2 ?c2 ?k2 ?a3 ?l3 ?c3 ?k3 ?a4 ?l4 ?c4 ?k4 ?a5 ?l5 ?c5 ?k5 ?a6 ?l6 ?c6 ?k6 ?a7 ?l7 ?c7 ?k7 ?a8 ?l8 ?c8 ?k8 ?a9 ?l9 ?c9 ?k9 ?a10 ?l10 ?c10 ?k10 ?a11 ?l11 ?c11 ?k11 ?a12 ?l12 ?c12 ?k12 ?a13 ?l13 ?c13 ?k13 ?a14 ?l14 ?c14 ?k14 ?a15 ?l15 ?c15 ?k15 ?a16 ?l16 ?c16 ?k16 ?a17 ?l17 ?c17 ?k17 ?a18 ?l18 ?c18 ?k18 ?a19 ?l19 ?c19 ?k19 ?a20 ?e20 ?l20 ?c20 ?k20 ?a21 ?l21 ?c21 ?k21 ?v_MOST_LETTERS ?v_MOST_ROOMS ?z_all ?z_bool ?z_int ?z_isinstance ?z_len ?z_list ?z_range ?z_sum
  (case x_Machine => k_is)
  (case x1_Machine => k_is)
  (case x2_Machine => k_is)
  (case x3_Machine => k_is)
  (case x4_Machine => k_is)
  (case x5_Machine => k_is)
  (case x6_Machine => k_is)
  (case w_Machine_letters => k_is)
  (case w_Machine_many => k_is)
  (case w_Machine_ranks => k_is)
  (case w_Machine_steps => k_is)
  (case a1 => k_is)
  (case l1 => k_is)
  (case c1 => k_is)
  (case k1 => k_is)
  (case a2 => k_is)
  (case l2 => k_is)
  (case c2 => k_is)
  (case k2 => k_is)
  (case a3 => k_is)
  (case l3 => k_is)
  (case c3 => k_is)
  (case k3 => k_is)
  (case a4 => k_is)
  (case l4 => k_is)
  (case c4 => k_is)
  (case k4 => k_is)
  (case a5 => k_is)
  (case l5 => k_is)
  (case c5 => k_is)
  (case k5 => k_is)
  (case a6 => k_is)
  (case l6 => k_is)
  (case c6 => k_is)
  (case k6 => k_is)
  (case a7 => k_is)
  (case l7 => k_is)
  (case c7 => k_is)
  (case k7 => k_is)
  (case a8 => k_is)
  (case l8 => k_is)
  (case c8 => k_is)
  (case k8 => k_is)
  (case a9 => k_is)
  (case l9 => k_is)
  (case c9 => k_is)
  (case k9 => k_is)
  (case a10 => k_is)
  (case l10 => k_is)
  (case c10 => k_is)
  (case k10 => k_is)
  (case a11 => k_is)
  (case l11 => k_is)
  (case c11 => k_is)
  (case k11 => k_is)
  (case a12 => k_is)
  (case l12 => k_is)
  (case c12 => k_is)
  (case k12 => k_is)
  (case a13 => k_is)
  (case l13 => k_is)
  (case c13 => k_is)
  (case k13 => k_is)
  (case a14 => k_is)
  (case l14 => k_is)
  (case c14 => k_is)
  (case k14 => k_is)
  (case a15 => k_is)
  (case l15 => k_is)
  (case c15 => k_is)
  (case k15 => k_is)
  (case a16 => k_is)
  (case l16 => k_is)
  (case c16 => k_is)
  (case k16 => k_is)
  (case a17 => k_is)
  (case l17 => k_is)
  (case c17 => k_is)
  (case k17 => k_is)
  (case a18 => k_is)
  (case l18 => k_is)
  (case c18 => k_is)
  (case k18 => k_is)
  (case a19 => k_is)
  (case l19 => k_is)
  (case c19 => k_is)
  (case k19 => k_is)
  (case a20 => k_is)
  (case e20 => k_is)
  (case l20 => k_is)
  (case c20 => k_is)
  (case k20 => k_is)
  (case a21 => k_is)
  (case l21 => k_is)
  (case c21 => k_is)
  (case k21 => k_is)
  (case v_MOST_LETTERS => k_is)
  (case v_MOST_ROOMS => k_is)
  (case z_all => k_is)
  (case z_bool => k_is)
  (case z_int => k_is)
  (case z_isinstance => k_is)
  (case z_len => k_is)
  (case z_list => k_is)
  (case z_range => k_is)
  (case z_sum => k_is)
