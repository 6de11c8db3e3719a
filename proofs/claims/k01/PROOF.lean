import PyProof.Rows.All
import Wide.All
import OpenK.AllK
import Wide.FinOn
import Lean
import PyProof.EqAt
import PyProof.EqKinds
import PyProof.TupleCall
import PyProof.P3Eq
import PyProof.NeKinds
import PySem.Challenge.RW_looprank_k01_what_is_a_word
set_option Elab.async false
set_option linter.all false
set_option maxRecDepth 100000
/-! THE HAND LAYER, for ints, bools, texts, own classes, LISTS and tuples (index, slices, in, append, pop ..), calls, loops. Paste it whole ahead of your own text; what your proof does not reach may be deleted. -/
namespace L2
open PySem PySem.Spec PyProof.Rows

/-- a key: an int or a str -/
abbrev Key := Sum Int Str
def keyIs : Key → Value → Bool
  | .inl k, v => Value.isInt k v
  | .inr x, v => Value.isStrOf x v
def keyH (w : World) : Key → Int
  | .inl k => hashInt k
  | .inr x => hashStr w x
theorem keyIs_shape : ∀ {k : Key} {v : Value}, keyIs k v = true → (∃ i t, k = Sum.inl i ∧ v = Value.int i t) ∨ (∃ x t, k = Sum.inr x ∧ v = Value.str x t)
  | .inl i, v, h => by
    obtain ⟨t, e⟩ := Value.isInt_shape (k := i) (v := v) h
    exact .inl ⟨i, t, rfl, e⟩
  | .inr x, v, h => by
    obtain ⟨t, e⟩ := Value.isStrOf_shape (x := x) (v := v) h
    exact .inr ⟨x, t, rfl, e⟩
theorem keyIs_int (i : Int) (t : Tok) : keyIs (.inl i) (.int i t) = true := by simp [keyIs, Value.isInt]
theorem keyIs_str (x : Str) (t : Tok) : keyIs (.inr x) (.str x t) = true := by simp [keyIs, Value.isStrOf]
theorem key_ll (a b : Int) : decide ((Sum.inl a : Key) = Sum.inl b) = (a == b) := by
  by_cases e : a = b
  · subst e; simp
  · have h : ¬ (Sum.inl a : Key) = Sum.inl b := fun q => e (Sum.inl.inj q)
    rw [decide_eq_false h]
    exact (beq_eq_false_iff_ne.mpr e).symm
theorem key_rr (a b : Str) : decide ((Sum.inr a : Key) = Sum.inr b) = decide (a = b) := by
  by_cases e : a = b
  · subst e; simp
  · have h : ¬ (Sum.inr a : Key) = Sum.inr b := fun q => e (Sum.inr.inj q)
    rw [decide_eq_false h, decide_eq_false e]
theorem key_lr (a : Int) (b : Str) : decide ((Sum.inl a : Key) = Sum.inr b) = false := decide_eq_false (fun q => nomatch q)
theorem key_rl (a : Str) (b : Int) : decide ((Sum.inr a : Key) = Sum.inl b) = false := decide_eq_false (fun q => nomatch q)

def mixKind (prog : Program) (w : World) : PySem.KeyKind prog w Key where
  is := keyIs
  hash := keyH w
  inj := fun v a b ha hb => by
    rcases keyIs_shape ha with ⟨i, t, rfl, rfl⟩ | ⟨x, t, rfl, rfl⟩
    · rcases keyIs_shape hb with ⟨j, u, rfl, e⟩ | ⟨y, u, rfl, e⟩
      · injection e with e1 _; rw [e1]
      · exact nomatch e
    · rcases keyIs_shape hb with ⟨j, u, rfl, e⟩ | ⟨y, u, rfl, e⟩
      · exact nomatch e
      · injection e with e1 _; rw [e1]
  byValue := fun k v h => by
    rcases keyIs_shape h with ⟨i, t, rfl, rfl⟩ | ⟨x, t, rfl, rfl⟩ <;> rfl
  pyHash := fun hv h => by
    rcases keyIs_shape hv with ⟨i, t, rfl, rfl⟩ | ⟨x, t, rfl, rfl⟩
    · exact wpAny_pyHash_int h
    · exact wpAny_pyHash_str h
  eqBool := fun hu hv h => by
    rcases keyIs_shape hu with ⟨i, t, rfl, rfl⟩ | ⟨x, t, rfl, rfl⟩
    · rcases keyIs_shape hv with ⟨j, u, rfl, rfl⟩ | ⟨y, u, rfl, rfl⟩
      · rw [key_ll] at h; exact wpAny_eqBool_int h
      · rw [key_lr] at h; exact SeqAt.EqAt.int_str i t y u _ _ _ _ h
    · rcases keyIs_shape hv with ⟨j, u, rfl, rfl⟩ | ⟨y, u, rfl, rfl⟩
      · rw [key_rl] at h; exact SeqAt.EqAt.str_int x t j u _ _ _ _ h
      · rw [key_rr] at h; exact wpAny_eqBool_str h
  «strs» := fun k x t v h => by
    rcases keyIs_shape h with ⟨i, u, rfl, e⟩ | ⟨y, u, rfl, e⟩
    · exact nomatch e
    · injection e with e1 _
      subst e1
      cases v <;> rfl

theorem mixKind_is (prog : Program) (w : World) (k : Key) (v : Value) : (mixKind prog w).is k v = keyIs k v := rfl
theorem mixKind_int (prog : Program) (w : World) (i : Int) (t : Tok) : (mixKind prog w).is (.inl i) (.int i t) = true := keyIs_int i t
theorem mixKind_str (prog : Program) (w : World) (x : Str) (t : Tok) : (mixKind prog w).is (.inr x) (.str x t) = true := keyIs_str x t
end L2

namespace L2
open PySem PySem.Spec PyProof.Rows

/-- a value, without the heap -/
inductive V where
  | non | bl (b : Bool) | int (i : Int) | str (x : Str) | byt (b : Array UInt8) | flt (b : UInt64) | ref (a : Addr) | ty (n : String)
  deriving DecidableEq

def RelV : V → Value → Prop
  | .non, u => u = Value.none
  | .bl b, u => u = Value.bool b
  | .int i, u => ∃ t, u = Value.int i t
  | .str x, u => ∃ t, u = Value.str x t
  | .byt b, u => ∃ t, u = Value.bytes b t
  | .flt b, u => ∃ t, u = Value.float b t
  | .ref a, u => u = Value.ref a
  | .ty n, u => u = Value.type n

abbrev Vals : List V → List Value → Prop := Paired RelV
theorem Vals.length {xs : List V} {us : List Value} (r : Vals xs us) : xs.length = us.length := Paired.length r
theorem Vals.get : ∀ {xs : List V} {us : List Value} {i : Nat} {x : V}, Vals xs us → xs[i]? = some x → ∃ u, us[i]? = some u ∧ RelV x u
  | _, _, _, _, .nil, e => by simp at e
  | _, _, 0, _, .cons r _, e => by simp at e; subst e; exact ⟨_, rfl, r⟩
  | _, _, i + 1, x, .cons _ t, e => by
    obtain ⟨u, h1, h2⟩ := Vals.get (i := i) (x := x) t (by simpa using e)
    exact ⟨u, by simpa using h1, h2⟩
theorem Vals.set {x : V} {u : Value} (r : RelV x u) : ∀ {xs : List V} {us : List Value} (i : Nat), Vals xs us → Vals (xs.set i x) (us.set i u)
  | _, _, _, .nil => .nil
  | _, _, 0, .cons _ t => .cons r t
  | _, _, i + 1, .cons q t => .cons q (Vals.set r i t)
theorem Vals.append : ∀ {xs ys : List V} {us ws : List Value}, Vals xs us → Vals ys ws → Vals (xs ++ ys) (us ++ ws)
  | _, _, _, _, .nil, s => s
  | _, _, _, _, .cons r t, s => .cons r (Vals.append t s)
theorem Vals.take : ∀ {xs : List V} {us : List Value} (n : Nat), Vals xs us → Vals (xs.take n) (us.take n)
  | _, _, 0, _ => .nil
  | _, _, _ + 1, .nil => .nil
  | _, _, n + 1, .cons r t => .cons r (Vals.take n t)
theorem Vals.drop : ∀ {xs : List V} {us : List Value} (n : Nat), Vals xs us → Vals (xs.drop n) (us.drop n)
  | _, _, 0, r => r
  | _, _, _ + 1, .nil => .nil
  | _, _, n + 1, .cons _ t => Vals.drop n t
theorem Vals.none_of : ∀ {xs : List V} {us : List Value} {i : Nat}, Vals xs us → xs[i]? = none → us[i]? = none := fun {xs us i} r e => by
  have h1 := r.length
  have h2 : xs.length ≤ i := List.getElem?_eq_none_iff.mp e
  exact List.getElem?_eq_none_iff.mpr (by omega)

def RelO : Option V → Option Value → Prop
  | some v, some u => RelV v u
  | none, none => True
  | _, _ => False
def KV {κ : Type} : List (κ × V) → List (κ × Value) → Prop := Paired fun (p : κ × V) (q : κ × Value) => p.1 = q.1 ∧ RelV p.2 q.2

/-- a key of a dict (00_mix): an int or a text -/
def kV : Key → V
  | .inl i => .int i
  | .inr x => .str x

/-- what stands at a tracked address -/
inductive HO where
  /-- a list -/
  | lst (xs : List V)
  /-- a tuple (never changes) -/
  | tup (xs : List V)
  /-- a dict whose keys are ints and texts; one whose keys are tuples of ints and texts (the empty one is both) -/
  | dK (kvs : List (Key × V)) | dT (kvs : List (List Key × V))
  /-- a set of ints: its members, its size -/
  | set (S : Int → Bool) (n : Nat)
  /-- an instance of the class at C, its dict at dx, its attributes -/
  | ins (C dx : Addr) (fs : List (Str × V))
  /-- the dict of the instance at x -/
  | own (x : Addr)
  /-- the dict of an exception -/
  | xd (fs : List (Str × V))
  /-- a bound method, f of x -/
  | met (f x : Addr)
  /-- a range object lo, lo + 1, .. below hi -/
  | rng (lo hi : Int)
  /-- a thing that is known to the object (the script; a dict while a loop walks it): read, never written while it is so -/
  | frz (o : Obj) (u : HO)
  /-- a code object's table -/
  | tbl (ps : Array Value)
  /-- any other thing, by what is true of its one object (a def of one's own: SetO a S n := HO.ext fun h => ..) -/
  | ext (φ : Heap → Prop)

abbrev Hp := Addr → Option HO
def upd (H : Hp) (a : Addr) (o : HO) : Hp := fun b => if b = a then some o else H b
theorem upd_same {H : Hp} {a : Addr} {o : HO} : upd H a o a = some o := by unfold upd; rw [if_pos rfl]
theorem upd_ne {H : Hp} {a b : Addr} {o : HO} (h : b ≠ a) : upd H a o b = H b := by unfold upd; rw [if_neg h]
theorem upd_upd {H : Hp} {a : Addr} {o u : HO} : upd (upd H a o) a u = upd H a u := by
  funext b; unfold upd; split <;> rfl
/-- two objects of different content stand apart -/
theorem ne_of {H : Hp} {a b : Addr} {o u : HO} (h : H a = some o) (h' : H b = some u) (d : o ≠ u) : a ≠ b := by
  intro e; subst e; rw [h] at h'; exact d (Option.some.inj h')
theorem ne_of_none {H : Hp} {a b : Addr} {o : HO} (h : H a = some o) (h' : H b = none) : a ≠ b := by
  intro e; subst e; rw [h] at h'; cases h'

section
variable (P : Program) (w : World)
def ObjOk (H : Hp) (h : Heap) (a : Addr) : HO → Prop
  | .lst xs => xs.length ≤ sizeLine ∧ ∃ (its : List Value) (n : Nat), Vals xs its ∧ h.get? a = some { cls := .type "list", data := .seq its.toArray n }
  | .tup xs => xs.length ≤ sizeLine ∧ ∃ its : List Value, Vals xs its ∧ IsTup h a its.toArray
  | .dK kvs => kvs.length ≤ sizeLine ∧ (a == sysModules) = false ∧ ∃ vs, KV kvs vs ∧ h.DictOf (mixKind P w) a vs
  | .dT kvs => kvs.length ≤ sizeLine ∧ (a == sysModules) = false ∧ ∃ xs : List (List Key × Addr × Value),
      Paired (fun (p : List Key × V) (q : List Key × Addr × Value) => p.1 = q.1 ∧ H q.2.1 = some (.tup (p.1.map kV)) ∧ RelV p.2 q.2.2) kvs xs ∧
      ∃ o es ep, h.get? a = some o ∧ o.ExactDict ∧ o.data = .dict es ep ∧ es.toList = xs.map (entryOfKey (tupleKind (mixKind P w))) ∧ (xs.map (·.1)).Nodup
  | .set S n => h.SetOf (intKind P w) a S n
  | .ins C dx fs => H dx = some (.own a) ∧ fs.length ≤ 1000 ∧ dx ≠ a ∧ h.get? a = some (PySem.W.instObj C dx) ∧
      ∃ mA, h.Ns1 dx mA ∧ (∀ f, RelO (fs.lookup f) (mA f)) ∧ PySem.Within mA (fs.map (·.1))
  | .own _ => ∃ o, h.get? a = some o
  | .xd fs => ∃ mA, h.Ns1 a mA ∧ ∀ f, RelO (fs.lookup f) (mA f)
  | .rng lo hi => ∃ t u v, h.get? a = some { cls := .type "range", data := .fields #[.int lo t, .int hi u, .int 1 v] }
  | .frz o u => h.get? a = some o ∧ ObjOk H h a u
  | .tbl ps => h.get? a = some { cls := .none, data := .fields ps }
  | .met f x => h.get? a = some (PySem.W.methodObj (.ref f) (.ref x))
  | .ext φ => φ h ∧ (∃ o, h.get? a = some o) ∧ ∀ h1 h2 : Heap, φ h1 → (∀ o, h1.get? a = some o → h2.get? a = some o) → φ h2
/-- the abstract heap is held -/
def HOk (H : Hp) (h : Heap) : Prop := ∀ a o, H a = some o → ObjOk P w H h a o
end

section
variable {P : Program} {w : World} {H H' : Hp} {h h' : Heap} {a : Addr} {o : HO}
theorem ObjOk.lt (x : ObjOk P w H h a o) : a < h.objs.size := by
  cases o with
  | lst xs => obtain ⟨_, _, _, _, e⟩ := x; exact Heap.lt_size e
  | tup xs => obtain ⟨_, _, _, p⟩ := x; exact p.lt
  | dK kvs => obtain ⟨_, _, _, _, o, _, _, e, _⟩ := x; exact Heap.lt_size e
  | dT kvs => obtain ⟨_, _, _, _, o, _, _, e, _⟩ := x; exact Heap.lt_size e
  | set S n => obtain ⟨o, _, _, _, e, _⟩ := x; exact Heap.lt_size e
  | ins C dx fs => obtain ⟨_, _, _, e, _⟩ := x; exact Heap.lt_size e
  | own y => obtain ⟨_, e⟩ := x; exact Heap.lt_size e
  | xd fs => obtain ⟨_, ⟨_, _, _, e, _⟩, _⟩ := x; exact Heap.lt_size e
  | rng lo hi => obtain ⟨_, _, _, e⟩ := x; exact Heap.lt_size e
  | frz ob u => obtain ⟨e, _⟩ := x; exact Heap.lt_size e
  | tbl ps => exact Heap.lt_size (show h.get? a = some _ from x)
  | met f y => exact Heap.lt_size (show h.get? a = some _ from x)
  | ext φ => obtain ⟨_, ⟨_, e⟩, _⟩ := x; exact Heap.lt_size e
theorem Paired.mapP {α β : Type} {F G : α → β → Prop} : ∀ {l₁ : List α} {l₂ : List β}, Paired F l₁ l₂ → (∀ a b, F a b → G a b) → Paired G l₁ l₂
  | _, _, .nil, _ => .nil
  | _, _, .cons r t, f => .cons (f _ _ r) (Paired.mapP t f)
theorem Paired.imp' {α β : Type} {F G : α → β → Prop} (f : ∀ a b, F a b → G a b) {l₁ : List α} {l₂ : List β} (r : Paired F l₁ l₂) : Paired G l₁ l₂ := Paired.mapP r f
/-- what an object's description leans on: its own object, its own dict, the tuples -/
theorem ObjOk.stay (x : ObjOk P w H h a o) (k : ∀ b u, (b = a ∨ H b = some (.own a)) → h.get? b = some u → h'.get? b = some u)
    (ho : ∀ b, H b = some (.own a) → H' b = some (.own a)) (ht : ∀ b xs, H b = some (.tup xs) → H' b = some (.tup xs)) : ObjOk P w H' h' a o := by
  induction o with
  | lst xs => obtain ⟨z, its, n, r, e⟩ := x; exact ⟨z, its, n, r, k _ _ (.inl rfl) e⟩
  | tup xs => obtain ⟨z, its, r, ob, e, c⟩ := x; exact ⟨z, its, r, ob, k _ _ (.inl rfl) e, c⟩
  | dK kvs => obtain ⟨z, y, vs, r, ob, es, ep, e, c⟩ := x; exact ⟨z, y, vs, r, ob, es, ep, k _ _ (.inl rfl) e, c⟩
  | dT kvs =>
    obtain ⟨z, y, xs, r, ob, es, ep, e, c⟩ := x
    exact ⟨z, y, xs, Paired.mapP r fun p q z => ⟨z.1, ht _ _ z.2.1, z.2.2⟩, ob, es, ep, k _ _ (.inl rfl) e, c⟩
  | set S n => obtain ⟨ob, es, ep, t, e, c⟩ := x; exact ⟨ob, es, ep, t, k _ _ (.inl rfl) e, c⟩
  | ins C dx fs =>
    obtain ⟨d, z, ne, e, mA, ⟨od, es, ep, e2, c⟩, r⟩ := x
    exact ⟨ho _ d, z, ne, k _ _ (.inl rfl) e, mA, ⟨od, es, ep, k _ _ (.inr d) e2, c⟩, r⟩
  | own y => obtain ⟨ob, e⟩ := x; exact ⟨ob, k _ _ (.inl rfl) e⟩
  | xd fs => obtain ⟨mA, ⟨od, es, ep, e, c⟩, r⟩ := x; exact ⟨mA, ⟨od, es, ep, k _ _ (.inl rfl) e, c⟩, r⟩
  | rng lo hi => obtain ⟨t, u, v, e⟩ := x; exact ⟨t, u, v, k _ _ (.inl rfl) e⟩
  | frz ob u ih => obtain ⟨e, q⟩ := x; exact ⟨k _ _ (.inl rfl) e, ih q⟩
  | tbl ps =>
    have e : h.get? a = some { cls := .none, data := .fields ps } := x
    show h'.get? a = some { cls := .none, data := .fields ps }
    exact k a _ (.inl rfl) e
  | met f y =>
    have e : h.get? a = some (PySem.W.methodObj (.ref f) (.ref y)) := x
    show h'.get? a = some (PySem.W.methodObj (.ref f) (.ref y))
    exact k a _ (.inl rfl) e
  | ext φ => obtain ⟨p, ⟨o, e⟩, st⟩ := x; exact ⟨st _ _ p fun o q => k _ _ (.inl rfl) q, ⟨o, k _ _ (.inl rfl) e⟩, st⟩
theorem HOk.lt (x : HOk P w H h) (e : H a = some o) : a < h.objs.size := (x a o e).lt
theorem HOk.fresh (x : HOk P w H h) (e : h.objs.size ≤ a) : H a = none := by
  cases q : H a with
  | none => rfl
  | some u => exact absurd (Nat.lt_of_lt_of_le (x.lt q) e) (Nat.lt_irrefl _)
/-- every object of the heap is kept -/
theorem HOk.kept (x : HOk P w H h) (k : ∀ b u, h.get? b = some u → h'.get? b = some u) : HOk P w H h' := fun a o e =>
  (x a o e).stay (fun b u _ q => k b u q) (fun _ q => q) fun _ _ q => q
/-- a new object is laid and tracked -/
theorem HOk.laid (x : HOk P w H h) (k : ∀ b u, h.get? b = some u → h'.get? b = some u) (hp : h.objs.size ≤ a) (new : ObjOk P w (upd H a o) h' a o) : HOk P w (upd H a o) h' := fun b u e => by
  have hn := x.fresh hp
  by_cases hb : b = a
  · subst hb; rw [upd_same] at e; cases e; exact new
  · rw [upd_ne hb] at e
    exact (x b u e).stay (fun c v _ q => k c v q) (fun c q => by rw [upd_ne (ne_of_none q hn)]; exact q) fun c xs q => by rw [upd_ne (ne_of_none q hn)]; exact q
end

/-- what may be read as u: it is u, or a known u -/
def Rd (H : Hp) (a : Addr) (u : HO) : Prop := H a = some u ∨ ∃ o, H a = some (.frz o u)
theorem Rd.of {H : Hp} {a : Addr} {u : HO} (h : H a = some u) : Rd H a u := .inl h
theorem Rd.ok {P : Program} {w : World} {H : Hp} {h : Heap} {a : Addr} {u : HO} (r : Rd H a u) (x : HOk P w H h) : ObjOk P w H h a u := by
  rcases r with r | ⟨o, r⟩
  · exact x a u r
  · obtain ⟨_, q⟩ := x a _ r
    exact q
/-- what may be written -/
def Mut : Option HO → Prop
  | some (.lst _) => True
  | some (.dK _) => True
  | some (.dT _) => True
  | some (.set _ _) => True
  | some (.ins _ _ _) => True
  | some (.ext _) => True
  | _ => False
section
variable {P : Program} {w : World} {H : Hp} {h h' : Heap} {x e : Addr} {o' : HO}
/-- the object at e is changed: x itself, or the dict of the instance x -/
theorem HOk.write (ok : HOk P w H h) (mu : Mut (H x)) (he : e = x ∨ H e = some (.own x)) (k : ∀ b u, b ≠ e → h.get? b = some u → h'.get? b = some u) (heo : ∃ u, h'.get? e = some u)
    (new : ObjOk P w (upd H x o') h' x o') : HOk P w (upd H x o') h' := fun b u q => by
  have nown : ∀ c y, H c = some (.own y) → c ≠ x := fun c y r z => by subst z; rw [r] at mu; exact mu
  have ntup : ∀ c xs, H c = some (.tup xs) → c ≠ x := fun c xs r z => by subst z; rw [r] at mu; exact mu
  by_cases hb : b = x
  · subst hb; rw [upd_same] at q; cases q; exact new
  · rw [upd_ne hb] at q
    by_cases hbe : b = e
    · have q' : H b = some (.own x) := by
        rcases he with z | z
        · exact absurd (hbe.trans z) hb
        · rw [hbe]; exact z
      rw [q] at q'; cases q'
      obtain ⟨v, hv⟩ := heo
      exact ⟨v, by rw [hbe]; exact hv⟩
    · refine (ok b u q).stay (fun c v hc r => k c v ?_ r) (fun c r => by rw [upd_ne (nown c b r)]; exact r) fun c xs r => by rw [upd_ne (ntup c xs r)]; exact r
      rcases hc with rfl | hc
      · exact hbe
      · rintro rfl
        rcases he with z | z
        · exact nown c b hc z
        · rw [hc] at z; cases z; exact hb rfl
end

/-! ### kept unless tracked; of the frames at fs (the callers') the slots may change (an exception that passes writes there); of the records at ex (iterators) nothing is said -/
structure Un (fs ex : List Addr) (H H' : Hp) (h h' : Heap) : Prop where
  keep : ∀ b o, h.get? b = some o → H b = none → b ∉ fs → b ∉ ex → h'.get? b = some o
  slot : ∀ b o, h.get? b = some o → H b = none → b ∈ fs → b ∉ ex → ∃ sl, h'.get? b = some { o with slots := sl }
  free : ∀ b o, h.get? b = some o → H b = none → b ∉ ex → H' b = none
  there : ∀ b o, h.get? b = some o → b ∉ ex → ∃ o', h'.get? b = some o'
  tups : ∀ b xs, H b = some (.tup xs) → H' b = some (.tup xs)
  frzs : ∀ b o u, H b = some (.frz o u) → H' b = some (.frz o u)
  tbls : ∀ b ps, H b = some (.tbl ps) → ∃ more, H' b = some (.tbl (ps ++ more))
section
variable {fs fs' ex ex' : List Addr} {H H1 H2 : Hp} {h h1 h2 h' : Heap} {a x e : Addr} {o : HO}
theorem Un.any (u : Un fs ex H H1 h h1) {b : Addr} {ob : Obj} (q : h.get? b = some ob) (n : H b = none) (hx : b ∉ ex) : ∃ sl, h1.get? b = some { ob with slots := sl } := by
  by_cases hb : b ∈ fs
  · exact u.slot b ob q n hb hx
  · exact ⟨ob.slots, u.keep b ob q n hb hx⟩
theorem Un.trans (a : Un fs ex H H1 h h1) (b : Un fs ex H1 H2 h1 h2) : Un fs ex H H2 h h2 where
  keep := fun c ob q n hc hx => b.keep c ob (a.keep c ob q n hc hx) (a.free c ob q n hx) hc hx
  slot := fun c ob q n hc hx => by
    obtain ⟨sl, e1⟩ := a.slot c ob q n hc hx
    obtain ⟨sl', e2⟩ := b.slot c _ e1 (a.free c ob q n hx) hc hx
    exact ⟨sl', e2⟩
  free := fun c ob q n hx => by
    obtain ⟨o', e1⟩ := a.there c ob q hx
    exact b.free c o' e1 (a.free c ob q n hx) hx
  there := fun c ob q hx => by
    obtain ⟨o', e1⟩ := a.there c ob q hx
    exact b.there c o' e1 hx
  tups := fun c xs q => b.tups c xs (a.tups c xs q)
  frzs := fun c ob xs q => b.frzs c ob xs (a.frzs c ob xs q)
  tbls := fun c ps q => by
    obtain ⟨m1, e1⟩ := a.tbls c ps q
    obtain ⟨m2, e2⟩ := b.tbls c _ e1
    exact ⟨m1 ++ m2, by rw [e2, Array.append_assoc]⟩
theorem Un.kept (k : ∀ b u, h.get? b = some u → h'.get? b = some u) : Un fs ex H H h h' :=
  ⟨fun b ob q _ _ _ => k b ob q, fun b ob q _ _ _ => ⟨ob.slots, k b ob q⟩, fun _ _ _ n _ => n, fun b ob q _ => ⟨ob, k b ob q⟩, fun _ _ q => q, fun _ _ _ q => q, fun _ ps q => ⟨#[], by rw [q]; simp⟩⟩
theorem Un.refl : Un fs ex H H h h := Un.kept fun _ _ q => q
theorem Un.laid (k : ∀ b u, h.get? b = some u → h'.get? b = some u) (hp : h.objs.size ≤ a) (hn : H a = none) : Un fs ex H (upd H a o) h h' where
  keep := fun b u q _ _ _ => k b u q
  slot := fun b u q _ _ _ => ⟨u.slots, k b u q⟩
  free := fun b u q n _ => by rw [upd_ne (Nat.ne_of_lt (Nat.lt_of_lt_of_le (Heap.lt_size q) hp))]; exact n
  there := fun b u q _ => ⟨u, k b u q⟩
  tups := fun b xs q => by rw [upd_ne (ne_of_none q hn)]; exact q
  frzs := fun b u xs q => by rw [upd_ne (ne_of_none q hn)]; exact q
  tbls := fun b ps q => ⟨#[], by rw [upd_ne (ne_of_none q hn), q]; simp⟩
theorem Un.write (mu : Mut (H x)) (he : e = x ∨ H e = some (.own x)) (k : ∀ b u, b ≠ e → h.get? b = some u → h'.get? b = some u) (heo : ∃ u, h'.get? e = some u) : Un fs ex H (upd H x o) h h' := by
  have hx : ∀ b, H b = none → b ≠ x := fun b n z => by subst z; rw [n] at mu; exact mu
  have hb : ∀ b, H b = none → b ≠ e := fun b n z => by
    subst z
    rcases he with r | r
    · exact hx b n r
    · rw [n] at r; cases r
  have hm : ∀ b u, H b = some u → ¬ Mut (some u) → b ≠ x := fun b u q nm z => by subst z; rw [q] at mu; exact nm mu
  refine ⟨fun b u q n _ _ => k b u (hb b n) q, fun b u q n _ _ => ⟨u.slots, k b u (hb b n) q⟩, fun b u q n _ => by rw [upd_ne (hx b n)]; exact n, fun b u q _ => ?_,
    fun b xs q => by rw [upd_ne (hm b _ q fun z => z)]; exact q, fun b u xs q => by rw [upd_ne (hm b _ q fun z => z)]; exact q, fun b ps q => ⟨#[], by rw [upd_ne (hm b _ q fun z => z), q]; simp⟩⟩
  by_cases hbe : b = e
  · subst hbe; exact heo
  · exact ⟨u, k b u hbe q⟩
theorem Un.mono (u : Un fs ex H H1 h h1) (hs : ∀ b ∈ fs, b ∈ fs') (hx : ∀ b ∈ ex, b ∈ ex') : Un fs' ex' H H1 h h1 :=
  ⟨fun b ob q n hb he => u.keep b ob q n (fun z => hb (hs b z)) fun z => he (hx b z), fun _ _ q n _ he => u.any q n fun z => he (hx _ z), fun b ob q n he => u.free b ob q n fun z => he (hx b z), fun b ob q he => u.there b ob q fun z => he (hx b z), u.tups, u.frzs, u.tbls⟩
end

/-! ### the heap without what is tracked -/
def trk (h : Heap) (H : Hp) : List Addr := (List.range h.objs.size).filter fun a => (H a).isSome
def hidT (h : Heap) (H : Hp) : Heap := PySem.W.hideAll h (trk h H)
theorem hidT_size (h : Heap) (H : Hp) : (hidT h H).objs.size = h.objs.size := PySem.W.hideAll_size _ _
theorem hidT_get {h : Heap} {H : Hp} {b : Addr} {o : Obj} (e : h.get? b = some o) (n : H b = none) : (hidT h H).get? b = some o :=
  PySem.W.hideAll_get _ e fun hm => by
    have q : (H b).isSome = true := (List.mem_filter.mp hm).2
    rw [n] at q; simp at q
theorem of_hidT {h : Heap} {H : Hp} {b : Addr} {o : Obj} (e : (hidT h H).get? b = some o) : h.get? b = some o ∧ H b = none := by
  have e' : h.get? b = some o := PySem.W.of_hideAll (trk h H) e
  refine ⟨e', ?_⟩
  cases q : H b with
  | none => rfl
  | some x =>
    have hm : b ∈ trk h H := List.mem_filter.mpr ⟨List.mem_range.mpr (Heap.lt_size e'), by simp [q]⟩
    have z : (hidT h H).get? b = none := PySem.W.hideAll_none (trk h H) hm
    rw [z] at e; cases e

/-! ### OpenK's ledger, filled with every new object but one -/
def allNews (g h : Heap) (L : Addr) : List (Addr × Obj) := (List.range h.objs.size).filterMap fun a => if a = L ∨ (g.get? a).isSome = true then none else (h.get? a).map fun o => (a, o)
theorem mem_allNews {g h : Heap} {L a : Addr} {o : Obj} (h1 : a ≠ L) (h2 : g.get? a = none) (h3 : h.get? a = some o) : (a, o) ∈ allNews g h L :=
  List.mem_filterMap.mpr ⟨a, List.mem_range.mpr (Heap.lt_size h3), by simp [h1, h2, h3]⟩
theorem of_mem_allNews {g h : Heap} {L : Addr} {p : Addr × Obj} (hp : p ∈ allNews g h L) : p.1 ≠ L ∧ g.get? p.1 = none ∧ h.get? p.1 = some p.2 := by
  obtain ⟨b, _, e⟩ := List.mem_filterMap.mp hp
  split at e
  · cases e
  · rename_i hn
    cases q : h.get? b with
    | none => rw [q] at e; simp at e
    | some u =>
      rw [q] at e
      simp only [Option.map_some, Option.some.injEq] at e
      subst e
      refine ⟨fun z => hn (.inl z), ?_, q⟩
      show g.get? b = none
      cases r : g.get? b with
      | none => rfl
      | some v => exact (hn (.inr (by simp [r]))).elim
def rest (g h : Heap) (L d : Addr) : List (Addr × Obj) := (allNews g h L).filter fun p => decide (p.1 ≠ d)
theorem rest_ne {g h : Heap} {L d : Addr} : ∀ p ∈ rest g h L d, p.1 ≠ d := fun p hp => of_decide_eq_true (List.mem_filter.mp hp).2
theorem mem_rest {g h : Heap} {L d a : Addr} {o : Obj} (h1 : a ≠ L) (h2 : g.get? a = none) (h3 : h.get? a = some o) (h4 : a ≠ d) : (a, o) ∈ rest g h L d :=
  List.mem_filter.mpr ⟨mem_allNews h1 h2 h3, decide_eq_true h4⟩
theorem news_all {g h : Heap} {L : Addr} : News g L h (allNews g h L) := fun p hp => let ⟨a, b, c⟩ := of_mem_allNews hp; ⟨c, a, b⟩
theorem news_at {g h : Heap} {L d : Addr} {o : Obj} (h1 : d ≠ L) (h2 : g.get? d = none) (h3 : h.get? d = some o) : News g L h ((d, o) :: rest g h L d) := fun p hp => by
  rcases List.mem_cons.mp hp with rfl | hp
  · exact ⟨h3, h1, h2⟩
  · exact news_all p (List.mem_filter.mp hp).1
/-- behind a rule that changed d alone: all else but the frame is kept -/
theorem kept_of_news {g h h' : Heap} {L d : Addr} {m : Str → Option Value} (k : ∀ b o, g.get? b = some o → h.get? b = some o) (F : Fr g L h' m) (N : News g L h' (rest g h L d)) :
    ∀ b o, b ≠ L → b ≠ d → h.get? b = some o → h'.get? b = some o := fun b o h1 h2 e => by
  cases q : g.get? b with
  | some u =>
    have := k b u q
    rw [e] at this; cases this
    exact F.keep b _ q
  | none => exact (N (b, o) (mem_rest h1 q e h2)).1
end L2

namespace L2
open PySem PySem.Spec PyProof.Rows

/-- the module's facts, over the base: the heap at the law's entry without what is tracked there -/
structure Mod (K : PySem.W.Frag) (mg : Str → Option Value) (base : Heap) : Prop where
  kin : K.In base
  glob : base.Ns mainGlobals mg
  blt : ∃ mb, base.Ns builtinsNs mb ∧ ∀ x : Str, x ≠ "__name__" → mb x = bootBuiltins x
  nolimit : base.NoLimit

/-- the context: a def's body (or a comprehension's block) running. base: fixed through the whole law; s₀, H₀: the entry; outer: the frames whose slots others may change (a def's callers); stack: all frames that run;
   ex: iterators that were made ahead of the entry and are walked here (a comprehension's); fn: the names whose cells were made at the entry (a def: all; a comprehension's block: its own); calm: not within an except suite; pn: pins that every state bears; xe: what is wanted of an exception that leaves the code -/
structure Cx where
  prog : Program
  w : World
  K : PySem.W.Frag
  mg : Str → Option Value
  base : Heap
  A : Around
  N : List Str
  s₀ : Shared
  H₀ : Hp
  env : Env
  outer : List Env
  stack : List Env
  ex : List Addr
  fn : Str → Bool
  calm : Bool
  pn : List (Addr × Obj)
  xe : Value → Shared → Prop
/-- the callers' frames -/
def frs (l : List Env) : List Addr := l.filterMap (·.frame)
abbrev Cx.fs (X : Cx) : List Addr := frs X.outer

def Vis (sc : Scope) (x : Str) : Prop := sc.names.lookup x = some .local ∨ sc.names.lookup x = some .cell ∨ sc.names.lookup x = some .free
def Loc (sc : Scope) (x : Str) : Prop := sc.names.lookup x = some .local ∨ sc.names.lookup x = some .cell
def Look (env : Env) (h : Heap) (m : Str → Option Value) (x : Str) (u : Value) : Prop :=
  (env.kindOf x = some .local ∧ m x = some u) ∨ ((env.kindOf x = some .cell ∨ env.kindOf x = some .free) ∧ ∃ c, env.cells.lookup x = some c ∧ h.IsCell c (some u))

structure Cx.Ok (X : Cx) : Prop where
  mod : Mod X.K X.mg X.base
  kind : X.env.scope.kind = .function
  glob : X.env.globals = mainGlobals
  blt : X.env.builtins = builtinsNs
  above : X.s₀.heap.objs.size ≤ X.env.locals
  inj : ∀ x y c, X.env.cells.lookup x = some c → X.env.cells.lookup y = some c → x = y
  has : ∀ x, (X.env.kindOf x = some .cell ∨ X.env.kindOf x = some .free) → ∃ c, X.env.cells.lookup x = some c
  cab : ∀ x c, X.fn x = true → X.env.cells.lookup x = some c → X.s₀.heap.objs.size ≤ c
  hd : X.calm = true → X.A.handled = none
  frames : X.A.frames = some X.stack
  stk : X.stack = X.outer ∨ (X.stack = X.env :: X.outer ∧ X.env.frame = some X.env.locals)
  exf : ∀ b ∈ X.ex, b ≠ X.env.locals ∧ ∀ x c, X.env.cells.lookup x = some c → c ≠ b
  bs : ∀ b o, X.base.get? b = some o → X.s₀.heap.get? b = some o ∧ X.H₀ b = none
  bsz : X.base.objs.size ≤ X.s₀.heap.objs.size
  noex : ∀ b o, X.base.get? b = some o → b ∉ X.ex
  exfs : ∀ b ∈ X.ex, b ∉ X.fs
  funs : X.s₀.heap.FunFrames X.base X.outer
  frf : ∀ b ∈ X.fs, X.H₀ b = none

structure Inv (X : Cx) (pins : List (Addr × Obj)) (σ : List (Option V)) (H : Hp) (s : Shared) : Prop where
  ok : X.Ok
  os : s.os = X.s₀.os
  bare : AllBare s.gens
  base : Un X.fs X.ex X.H₀ H X.s₀.heap s.heap
  loc : ∃ m, s.heap.Ns X.env.locals m ∧ ∀ (i : Nat) (x : Str) (v : V), X.N[i]? = some x → σ[i]? = some (some v) → Vis X.env.scope x → ∃ u, RelV v u ∧ Look X.env s.heap m x u
  cell : ∀ x c, X.env.cells.lookup x = some c → ∃ v, s.heap.IsCell c v
  free : H X.env.locals = none
  freeC : ∀ x c, X.env.cells.lookup x = some c → H c = none
  pin : ∀ p ∈ X.pn ++ pins, s.heap.get? p.1 = some p.2 ∧ H p.1 = none ∧ p.1 ≠ X.env.locals ∧ p.1 ∉ X.fs ∧ ∀ v, p.2.data ≠ .cell v
  hok : HOk X.prog X.w H s.heap
  len : σ.length = X.N.length

section
variable {X : Cx} {pins : List (Addr × Obj)} {σ : List (Option V)} {H H' : Hp} {s : Shared} {h' : Heap}

theorem Cx.Ok.nofr (ok : X.Ok) {b : Addr} {o : Obj} (e : X.base.get? b = some o) : b ∉ X.fs := fun hb => by
  have := (ok.funs.mem hb).1
  rw [e] at this; cases this
theorem Inv.bs (I : Inv X pins σ H s) : ∀ b o, X.base.get? b = some o → s.heap.get? b = some o ∧ H b = none := fun b o e =>
  ⟨I.base.keep b o (I.ok.bs b o e).1 (I.ok.bs b o e).2 (I.ok.nofr e) (I.ok.noex b o e), I.base.free b o (I.ok.bs b o e).1 (I.ok.bs b o e).2 (I.ok.noex b o e)⟩
theorem Inv.bk (I : Inv X pins σ H s) : ∀ b o, X.base.get? b = some o → s.heap.get? b = some o := fun b o e => (I.bs b o e).1
theorem Inv.mod (I : Inv X pins σ H s) : Mod X.K X.mg X.base := I.ok.mod
theorem Inv.kIn (I : Inv X pins σ H s) : X.K.In s.heap := I.ok.mod.kin.keeps I.bk
theorem Inv.nolimit (I : Inv X pins σ H s) : s.heap.NoLimit := I.ok.mod.nolimit.keeps I.bk
/-- the frame over the base: for OpenK's rules (K.In X.base is I.mod.kin) -/
theorem Inv.fr (I : Inv X pins σ H s) : ∃ m, Fr X.base X.env.locals s.heap m :=
  let ⟨m, hn, _⟩ := I.loc
  ⟨m, hn, I.bk, Nat.le_trans I.ok.bsz I.ok.above⟩
theorem Inv.lt (I : Inv X pins σ H s) : X.env.locals < s.heap.objs.size := let ⟨_, hn, _⟩ := I.loc; hn.lt
theorem Inv.sz (I : Inv X pins σ H s) : X.s₀.heap.objs.size ≤ s.heap.objs.size := Nat.le_trans I.ok.above (Nat.le_of_lt I.lt)
theorem Inv.nofs (I : Inv X pins σ H s) {a : Addr} (h : s.heap.objs.size ≤ a) : a ∉ X.fs := fun hb => by
  obtain ⟨_, o, ho, _⟩ := I.ok.funs.mem hb
  exact absurd (Nat.lt_of_lt_of_le (Heap.lt_size ho) (Nat.le_trans I.sz h)) (Nat.lt_irrefl _)
theorem Inv.cne (I : Inv X pins σ H s) : ∀ x c, X.env.cells.lookup x = some c → c ≠ X.env.locals := fun x c e z => by
  obtain ⟨v, o, ho, hd⟩ := I.cell x c e
  obtain ⟨m, ⟨o', es, ep, ho', hd', _⟩, _⟩ := I.loc
  rw [z, ho'] at ho; cases ho; rw [hd'] at hd; cases hd
theorem Inv.funs (I : Inv X pins σ H s) : s.heap.FunFrames X.base X.outer := by
  have all : ∀ (l : List Env), (∀ b ∈ frs l, b ∈ X.fs) → X.s₀.heap.FunFrames X.base l → s.heap.FunFrames X.base l := by
    intro l
    induction l with
    | nil => intro _ _; trivial
    | cons env r ih =>
      intro hs hl
      obtain ⟨hk, ⟨L, o, hf, hn, ho, hd⟩, hr⟩ := hl
      have hL : L ∈ X.fs := hs L (by unfold frs; rw [List.filterMap_cons, hf]; exact List.mem_cons_self)
      obtain ⟨sl, e⟩ := I.base.slot L o ho (I.ok.frf L hL) hL fun z => I.ok.exfs L z hL
      exact ⟨hk, ⟨L, _, hf, hn, e, hd⟩, ih (fun b hb => hs b (by unfold frs; rw [List.filterMap_cons, hf]; exact List.mem_cons_of_mem _ hb)) hr⟩
  exact all X.outer (fun _ hb => hb) I.ok.funs

/-- the frames that run, for a call -/
theorem Inv.stack (I : Inv X pins σ H s) : s.heap.FunFrames X.base X.stack := by
  rcases I.ok.stk with e | ⟨e, hf⟩
  · rw [e]; exact I.funs
  · rw [e]
    obtain ⟨m, hn, _⟩ := I.loc
    refine .cons (by rw [I.ok.kind]; decide) hf hn ?_ I.funs
    exact Heap.get?_none_of_le (Nat.le_trans I.ok.bsz I.ok.above)
theorem Inv.stkSub (I : Inv X pins σ H s) : ∀ b ∈ frs X.stack, b ∈ X.env.locals :: X.fs := fun b hb => by
  rcases I.ok.stk with e | ⟨e, hf⟩
  · rw [e] at hb; exact List.mem_cons_of_mem _ hb
  · rw [e] at hb
    unfold frs at hb
    rw [List.filterMap_cons, hf] at hb
    exact hb
theorem Inv.stkFree (I : Inv X pins σ H s) : ∀ b ∈ frs X.stack, H b = none := fun b hb => by
  rcases List.mem_cons.mp (I.stkSub b hb) with e | hb
  · rw [e]; exact I.free
  · obtain ⟨_, o, ho, _⟩ := I.ok.funs.mem hb
    exact I.base.free b o ho (I.ok.frf b hb) fun z => I.ok.exfs b z hb

/-- THE STEP: the untracked objects but the frame and the records at ch are kept (the callers' frames up to slots), the frame's map is kept, the new abstract heap is held -/
theorem Inv.step {g' : Array GenState} {t' : Nat} {d' : Drawn} {ch : List Addr} (I : Inv X pins σ H s)
    (hch : ∀ b ∈ ch, (b ∈ X.ex ∨ X.s₀.heap.objs.size ≤ b) ∧ b ≠ X.env.locals ∧ (∀ x c, X.env.cells.lookup x = some c → c ≠ b) ∧ ∀ p ∈ X.pn ++ pins, p.1 ≠ b)
    (keep : ∀ b o, b ≠ X.env.locals → b ∉ X.fs → b ∉ ch → s.heap.get? b = some o → H b = none → h'.get? b = some o)
    (slot : ∀ b o, b ≠ X.env.locals → b ∈ X.fs → b ∉ ch → s.heap.get? b = some o → H b = none → ∃ sl, h'.get? b = some { o with slots := sl }) (free : ∀ b o, b ∉ ch → s.heap.get? b = some o → H b = none → H' b = none)
    (there : ∀ b o, b ∉ ch → s.heap.get? b = some o → ∃ o', h'.get? b = some o')
    (tups : ∀ b xs, H b = some (.tup xs) → H' b = some (.tup xs)) (frzs : ∀ b o u, H b = some (.frz o u) → H' b = some (.frz o u)) (tbls : ∀ b ps, H b = some (.tbl ps) → ∃ more, H' b = some (.tbl (ps ++ more)))
    (ns : ∀ m, s.heap.Ns X.env.locals m → h'.Ns X.env.locals m) (hok : HOk X.prog X.w H' h') (hg : AllBare g') :
    Inv X pins σ H' { s with heap := h', gens := g', drawn := d', toks := t' } := by
  have neL : ∀ b o, X.s₀.heap.get? b = some o → b ≠ X.env.locals := fun b o e => Nat.ne_of_lt (Nat.lt_of_lt_of_le (Heap.lt_size e) I.ok.above)
  have neC : ∀ b o, X.s₀.heap.get? b = some o → b ∉ X.ex → b ∉ ch := fun b o e hx hb => by
    rcases (hch b hb).1 with z | z
    · exact hx z
    · exact absurd (Nat.lt_of_lt_of_le (Heap.lt_size e) z) (Nat.lt_irrefl _)
  have cellK : ∀ x c, X.env.cells.lookup x = some c → ∀ v, s.heap.IsCell c v → h'.IsCell c v := fun x c e v ⟨o, ho, hd⟩ => by
    have nch : c ∉ ch := fun z => (hch c z).2.2.1 x c e rfl
    by_cases hc : c ∈ X.fs
    · obtain ⟨sl, q⟩ := slot c o (I.cne x c e) hc nch ho (I.freeC x c e)
      exact ⟨_, q, hd⟩
    · exact ⟨o, keep c o (I.cne x c e) hc nch ho (I.freeC x c e), hd⟩
  refine ⟨I.ok, I.os, hg, ⟨fun b o e n hb hx => ?_, fun b o e n hb hx => ?_, fun b o e n hx => ?_, fun b o e hx => ?_, fun b xs e => tups b xs (I.base.tups b xs e), fun b o xs e => frzs b o xs (I.base.frzs b o xs e), fun b ps e => ?_⟩, ?_, fun x c e => ?_, ?_, fun x c e => ?_, fun p hp => ?_, hok, I.len⟩
  · exact keep b o (neL b o e) hb (neC b o e hx) (I.base.keep b o e n hb hx) (I.base.free b o e n hx)
  · obtain ⟨sl, e1⟩ := I.base.slot b o e n hb hx
    obtain ⟨sl', e2⟩ := slot b _ (neL b o e) hb (neC b o e hx) e1 (I.base.free b o e n hx)
    exact ⟨sl', e2⟩
  · obtain ⟨o', e1⟩ := I.base.there b o e hx
    exact free b o' (neC b o e hx) e1 (I.base.free b o e n hx)
  · obtain ⟨o', e1⟩ := I.base.there b o e hx
    exact there b o' (neC b o e hx) e1
  · obtain ⟨m1, e1⟩ := I.base.tbls b ps e
    obtain ⟨m2, e2⟩ := tbls b _ e1
    exact ⟨m1 ++ m2, by rw [e2, Array.append_assoc]⟩
  · obtain ⟨m, hn, hl⟩ := I.loc
    refine ⟨m, ns m hn, fun i x v e1 e2 e3 => ?_⟩
    obtain ⟨u, r, l⟩ := hl i x v e1 e2 e3
    refine ⟨u, r, ?_⟩
    rcases l with l | ⟨k, c, e, z⟩
    · exact .inl l
    · exact .inr ⟨k, c, e, cellK x c e _ z⟩
  · obtain ⟨v, z⟩ := I.cell x c e
    exact ⟨v, cellK x c e v z⟩
  · obtain ⟨m, ⟨o, _, _, ho, _⟩, _⟩ := I.loc
    exact free _ o (fun z => (hch _ z).2.1 rfl) ho I.free
  · obtain ⟨v, o, ho, hd⟩ := I.cell x c e
    exact free c o (fun z => (hch c z).2.2.1 x c e rfl) ho (I.freeC x c e)
  · obtain ⟨e, n, ne, nf, d⟩ := I.pin p hp
    have nch : p.1 ∉ ch := fun z => (hch p.1 z).2.2.2 p hp rfl
    exact ⟨keep p.1 p.2 ne nf nch e n, free p.1 p.2 nch e n, ne, nf, d⟩
/-- .. where the frame's own object is kept too -/
theorem Inv.un {t' : Nat} (I : Inv X pins σ H s) (u : Un X.fs [] H H' s.heap h') (hok : HOk X.prog X.w H' h') : Inv X pins σ H' { s with heap := h', toks := t' } := by
  obtain ⟨m, ⟨o, es, ep, ho, r⟩, _⟩ := id I.loc
  obtain ⟨sl, hL⟩ := u.any ho I.free (by simp)
  exact I.step (g' := s.gens) (d' := s.drawn) (ch := []) (fun _ z => nomatch z) (fun b o _ hb _ e n => u.keep b o e n hb (by simp)) (fun b o _ hb _ e n => u.slot b o e n hb (by simp)) (fun b o _ e n => u.free b o e n (by simp)) (fun b o _ e => u.there b o e (by simp)) u.tups u.frzs u.tbls (fun m' hm => by
    obtain ⟨o', es', ep', ho', r'⟩ := hm
    rw [ho] at ho'; cases ho'
    exact ⟨_, es', ep', hL, r'⟩) hok I.bare
/-- behind a call (or a comprehension's block): the slots of this frame may have changed too, the records at ch may have turned -/
theorem Inv.call {g' : Array GenState} {t' : Nat} {d' : Drawn} {ch : List Addr} (I : Inv X pins σ H s) (u : Un (frs X.stack) ch H H' s.heap h') (hok : HOk X.prog X.w H' h') (hg : AllBare g')
    (hch : ∀ b ∈ ch, (b ∈ X.ex ∨ X.s₀.heap.objs.size ≤ b) ∧ b ≠ X.env.locals ∧ (∀ x c, X.env.cells.lookup x = some c → c ≠ b) ∧ ∀ p ∈ X.pn ++ pins, p.1 ≠ b) :
    Inv X pins σ H' { s with heap := h', gens := g', drawn := d', toks := t' } := by
  obtain ⟨m, ⟨o, es, ep, ho, r⟩, _⟩ := id I.loc
  obtain ⟨sl, hL⟩ := u.any ho I.free fun z => (hch _ z).2.1 rfl
  exact I.step (ch := ch) hch (fun b o hL hb hc e n => u.keep b o e n (fun z => (List.mem_cons.mp (I.stkSub b z)).elim hL hb) hc) (fun b o _ _ hc e n => u.any e n hc) (fun b o hc e n => u.free b o e n hc) (fun b o hc e => u.there b o e hc) u.tups u.frzs u.tbls (fun m' hm => by
    obtain ⟨o', es', ep', ho', r'⟩ := hm
    rw [ho] at ho'; cases ho'
    exact ⟨_, es', ep', hL, r'⟩) hok hg
/-- an untracked record of ours (an iterator) has turned -/
theorem Inv.turned {t' : Nat} {it : Addr} (I : Inv X pins σ H s) (k : ∀ b o, b ≠ it → s.heap.get? b = some o → h'.get? b = some o) (hn : H it = none) (hL : it ≠ X.env.locals)
    (h1 : it ∈ X.ex ∨ X.s₀.heap.objs.size ≤ it) (h2 : ∀ x c, X.env.cells.lookup x = some c → c ≠ it) (h3 : ∀ p ∈ X.pn ++ pins, p.1 ≠ it) : Inv X pins σ H { s with heap := h', toks := t' } := by
  have nit : ∀ b u, H b = some u → b ≠ it := fun b u e z => by rw [z, hn] at e; cases e
  refine I.step (g' := s.gens) (d' := s.drawn) (ch := [it]) (fun b hb => ?_) (fun b o _ _ hc e _ => k b o (fun z => hc (by simp [z])) e) (fun b o _ _ hc e _ => ⟨o.slots, k b o (fun z => hc (by simp [z])) e⟩) (fun _ _ _ _ n => n)
    (fun b o hc e => ⟨o, k b o (fun z => hc (by simp [z])) e⟩) (fun _ _ e => e) (fun _ _ _ e => e) (fun b ps e => ⟨#[], by rw [e]; simp⟩) (fun m hm => ?_) (fun b u e => ?_) I.bare
  · have e : b = it := by simpa using hb
    subst e
    exact ⟨h1, hL, h2, h3⟩
  · obtain ⟨o, es, ep, ho, r⟩ := hm
    exact ⟨o, es, ep, k _ o (Ne.symm hL) ho, r⟩
  · refine (I.hok b u e).stay (fun c v hc q => k c v ?_ q) (fun _ q => q) fun _ _ q => q
    rcases hc with z | z
    · rw [z]; exact nit b u e
    · exact nit c _ z
theorem Inv.tok (I : Inv X pins σ H s) (t : Nat) : Inv X pins σ H { s with toks := t } := I.un (h' := s.heap) (t' := t) Un.refl I.hok
/-- all objects kept -/
theorem Inv.kept {t' : Nat} (I : Inv X pins σ H s) (k : ∀ b u, s.heap.get? b = some u → h'.get? b = some u) : Inv X pins σ H { s with heap := h', toks := t' } := I.un (Un.kept k) (I.hok.kept k)
/-- a new object laid and tracked -/
theorem Inv.laid {a : Addr} {o : HO} {t' : Nat} (I : Inv X pins σ H s) (k : ∀ b u, s.heap.get? b = some u → h'.get? b = some u) (hp : s.heap.objs.size ≤ a) (new : ObjOk X.prog X.w (upd H a o) h' a o) :
    Inv X pins σ (upd H a o) { s with heap := h', toks := t' } := I.un (Un.laid k hp (I.hok.fresh hp)) (I.hok.laid k hp new)
/-- an object written -/
theorem Inv.write {x e : Addr} {o : HO} {t' : Nat} (I : Inv X pins σ H s) (mu : Mut (H x)) (he : e = x ∨ H e = some (.own x)) (k : ∀ b u, b ≠ e → s.heap.get? b = some u → h'.get? b = some u) (heo : ∃ u, h'.get? e = some u)
    (new : ObjOk X.prog X.w (upd H x o) h' x o) : Inv X pins σ (upd H x o) { s with heap := h', toks := t' } := I.un (Un.write mu he k heo) (I.hok.write mu he k heo new)
/-- forgetting slots, pins -/
theorem Inv.weak {σ' : List (Option V)} (I : Inv X pins σ H s) (hl : σ'.length = σ.length) (w : ∀ (i : Nat) v, σ'[i]? = some (some v) → σ[i]? = some (some v)) : Inv X pins σ' H s :=
  ⟨I.ok, I.os, I.bare, I.base, let ⟨m, hn, hl'⟩ := I.loc; ⟨m, hn, fun i x v e1 e2 e3 => hl' i x v e1 (w i v e2) e3⟩, I.cell, I.free, I.freeC, I.pin, I.hok, hl.trans I.len⟩
theorem Inv.pins_of {pins' : List (Addr × Obj)} (I : Inv X pins σ H s) (h : ∀ p ∈ pins', s.heap.get? p.1 = some p.2 ∧ H p.1 = none ∧ p.1 ≠ X.env.locals ∧ p.1 ∉ X.fs ∧ ∀ v, p.2.data ≠ .cell v) : Inv X pins' σ H s :=
  ⟨I.ok, I.os, I.bare, I.base, I.loc, I.cell, I.free, I.freeC, fun p hp => (List.mem_append.mp hp).elim (fun z => I.pin p (List.mem_append_left _ z)) (h p), I.hok, I.len⟩

theorem nodup_ix {N : List Str} (hN : N.Nodup) {i j : Nat} {x : Str} (a : N[i]? = some x) (b : N[j]? = some x) : i = j := by
  obtain ⟨h1, e1⟩ := List.getElem?_eq_some_iff.mp a
  obtain ⟨h2, e2⟩ := List.getElem?_eq_some_iff.mp b
  exact (List.getElem_inj hN).mp (e1.trans e2.symm)

/-- a name is stored; what changed -/
theorem store_ok2 {M : Model} {A : Around} {E : Value → Shared → Prop} {i : Nat} {x : Str} {v : V} {u : Value} {Q : Unit → Shared → Prop} (I : Inv X pins σ H s) (hN : X.N.Nodup) (hi : X.N[i]? = some x) (hx : Loc X.env.scope x) (r : RelV v u)
    (h : ∀ s', Inv X pins (σ.set i (some v)) H s' → (∃ a, Heap.SameBut a s.heap s'.heap ∧ (a = X.env.locals ∨ X.env.cells.lookup x = some a)) → Q () s') (hf : X.fn x = true ∨ X.env.scope.names.lookup x = some .local := by first | exact .inl rfl | exact .inr rfl | assumption) : wpAny M A (storeName X.env x u) Q E s := by
  obtain ⟨m, hn, hl⟩ := id I.loc
  have hcls : (X.env.scope.kind == .class || (X.env.scope.kind == .module && X.env.locals != X.env.globals)) = false := by rw [I.ok.kind]; rfl
  have hiσ : i < σ.length := by rw [I.len]; exact (List.getElem?_eq_some_iff.mp hi).1
  have cne := I.cne
  have tracked : ∀ {a : Addr} {h' : Heap}, (∃ o, s.heap.get? a = some o ∧ H a = none) → Heap.SameBut a s.heap h' → HOk X.prog X.w H h' := fun {a h'} ha hs b ob e => by
    obtain ⟨_, _, hfree⟩ := ha
    refine (I.hok b ob e).stay (fun c w' hc q => (hs.2 c ?_).trans q) (fun _ q => q) fun _ _ q => q
    rintro rfl
    rcases hc with rfl | hc
    · rw [hfree] at e; cases e
    · rw [hfree] at hc; cases hc
  rcases hx with hk | hk
  · refine wpAny_storeName_local hk hn (fun h' hn' hs => ?_) hcls
    obtain ⟨oL, _, _, hoL, _⟩ := id hn
    refine h _ ⟨I.ok, I.os, I.bare, ⟨fun b o e n hb hx => ?_, fun b o e n hb hx => ?_, I.base.free, fun b o e hx => ?_, I.base.tups, I.base.frzs, I.base.tbls⟩, ⟨_, hn', fun j y v' e1 e2 e3 => ?_⟩, fun y c e => ?_, I.free, I.freeC, fun p hp => ?_, tracked ⟨oL, hoL, I.free⟩ hs, by simpa using I.len⟩ ⟨_, hs, .inl rfl⟩
    · exact (hs.2 b (Nat.ne_of_lt (Nat.lt_of_lt_of_le (Heap.lt_size e) I.ok.above))).trans (I.base.keep b o e n hb hx)
    · obtain ⟨sl, e1⟩ := I.base.slot b o e n hb hx
      exact ⟨sl, (hs.2 b (Nat.ne_of_lt (Nat.lt_of_lt_of_le (Heap.lt_size e) I.ok.above))).trans e1⟩
    · obtain ⟨o', e1⟩ := I.base.there b o e hx
      exact ⟨o', (hs.2 b (Nat.ne_of_lt (Nat.lt_of_lt_of_le (Heap.lt_size e) I.ok.above))).trans e1⟩
    · by_cases hj : j = i
      · subst hj
        rw [hi] at e1; cases e1
        rw [List.getElem?_set_self hiσ] at e2
        cases e2
        exact ⟨u, r, .inl ⟨hk, by simp⟩⟩
      · rw [List.getElem?_set_ne (Ne.symm hj)] at e2
        obtain ⟨u', r', q⟩ := hl j y v' e1 e2 e3
        refine ⟨u', r', ?_⟩
        rcases q with ⟨k, e⟩ | ⟨k, c, e, z⟩
        · refine .inl ⟨k, ?_⟩
          have : y ≠ x := fun e => hj (nodup_ix hN e1 (e ▸ hi))
          simp [this, e]
        · exact .inr ⟨k, c, e, z.sameBut hs (cne y c e)⟩
    · obtain ⟨w', z⟩ := I.cell y c e
      exact ⟨w', z.sameBut hs (cne y c e)⟩
    · obtain ⟨e, n, ne, nf, d⟩ := I.pin p hp
      exact ⟨(hs.2 p.1 ne).trans e, n, ne, nf, d⟩
  · have hfn : X.fn x = true := by
      rcases hf with z | z
      · exact z
      · rw [z] at hk; cases hk
    obtain ⟨c, hc⟩ := I.ok.has x (.inl hk)
    obtain ⟨w', z⟩ := I.cell x c hc
    refine wpAny_storeName_cell I.ok.kind hk hc z (fun h' hc' hs => ?_)
    obtain ⟨oc, hoc, hocd⟩ := id z
    refine h { s with heap := h' } ⟨I.ok, I.os, I.bare, ⟨fun b o e n hb hx => ?_, fun b o e n hb hx => ?_, I.base.free, fun b o e hx => ?_, I.base.tups, I.base.frzs, I.base.tbls⟩, ⟨m, hn.sameBut hs (Ne.symm (cne x c hc)), fun j y v' e1 e2 e3 => ?_⟩, fun y c' e => ?_, I.free, I.freeC, fun p hp => ?_, tracked ⟨oc, hoc, I.freeC x c hc⟩ hs, by simpa using I.len⟩ ⟨c, hs, .inr hc⟩
    · exact (hs.2 b (Nat.ne_of_lt (Nat.lt_of_lt_of_le (Heap.lt_size e) (I.ok.cab x c hfn hc)))).trans (I.base.keep b o e n hb hx)
    · obtain ⟨sl, e1⟩ := I.base.slot b o e n hb hx
      exact ⟨sl, (hs.2 b (Nat.ne_of_lt (Nat.lt_of_lt_of_le (Heap.lt_size e) (I.ok.cab x c hfn hc)))).trans e1⟩
    · obtain ⟨o', e1⟩ := I.base.there b o e hx
      exact ⟨o', (hs.2 b (Nat.ne_of_lt (Nat.lt_of_lt_of_le (Heap.lt_size e) (I.ok.cab x c hfn hc)))).trans e1⟩
    · by_cases hj : j = i
      · subst hj
        rw [hi] at e1; cases e1
        rw [List.getElem?_set_self hiσ] at e2
        cases e2
        exact ⟨u, r, .inr ⟨.inl hk, c, hc, hc'⟩⟩
      · rw [List.getElem?_set_ne (Ne.symm hj)] at e2
        obtain ⟨u', r', q⟩ := hl j y v' e1 e2 e3
        refine ⟨u', r', ?_⟩
        rcases q with q | ⟨k, c', e, z'⟩
        · exact .inl q
        · refine .inr ⟨k, c', e, z'.sameBut hs ?_⟩
          rintro rfl
          exact hj (nodup_ix hN e1 (I.ok.inj _ _ _ e hc ▸ hi))
    · by_cases hcc : c' = c
      · subst hcc; exact ⟨_, hc'⟩
      · obtain ⟨w2, z2⟩ := I.cell y c' e
        exact ⟨w2, z2.sameBut hs hcc⟩
    · obtain ⟨e, n, ne, nf, d⟩ := I.pin p hp
      refine ⟨(hs.2 p.1 ?_).trans e, n, ne, nf, d⟩
      intro q
      rw [q, hoc] at e
      have q' : oc = p.2 := Option.some.inj e
      exact d w' (by rw [← q']; exact hocd)
theorem store_ok {M : Model} {A : Around} {E : Value → Shared → Prop} {i : Nat} {x : Str} {v : V} {u : Value} {Q : Unit → Shared → Prop} (I : Inv X pins σ H s) (hN : X.N.Nodup) (hi : X.N[i]? = some x) (hx : Loc X.env.scope x) (r : RelV v u)
    (h : ∀ s', Inv X pins (σ.set i (some v)) H s' → Q () s') (hf : X.fn x = true ∨ X.env.scope.names.lookup x = some .local := by first | exact .inl rfl | exact .inr rfl | assumption) : wpAny M A (storeName X.env x u) Q E s :=
  store_ok2 I hN hi hx r (fun s' I' _ => h s' I') hf
/-- behind a call or a block, the state as it is -/
theorem Inv.call' {s' : Shared} {ch : List Addr} (I : Inv X pins σ H s) (ho : s'.os = s.os) (u : Un (frs X.stack) ch H H' s.heap s'.heap) (hok : HOk X.prog X.w H' s'.heap) (hg : AllBare s'.gens)
    (hch : ∀ b ∈ ch, (b ∈ X.ex ∨ X.s₀.heap.objs.size ≤ b) ∧ b ≠ X.env.locals ∧ (∀ x c, X.env.cells.lookup x = some c → c ≠ b) ∧ ∀ p ∈ X.pn ++ pins, p.1 ≠ b) : Inv X pins σ H' s' := by
  obtain ⟨h', g', d', t', o'⟩ := s'
  have e : o' = s.os := ho
  subst e
  exact I.call (g' := g') (t' := t') (d' := d') u hok hg hch
end

/-! ### the judgements -/
/-- an exception: its class, its own dict's address (where it has one), the abstract heap behind it -/
abbrev XK := Value → Option Addr → Hp → Prop
abbrev St := List (Option V)
abbrev VK := V → Hp → Prop
/-- an expression's reading; a test's; an argument list's -/
abbrev TE := St → Hp → VK → Prop
abbrev TT := St → Hp → (Bool → Hp → Prop) → Prop
abbrev TA := St → Hp → (List V → Hp → Prop) → Prop
/-- what is wanted behind a statement -/
structure Ends where
  nx : St → Hp → Prop
  rt : VK
  bk : St → Hp → Prop := fun _ _ => False
  ct : St → Hp → Prop := fun _ _ => False
abbrev TS := Ends → St → Hp → Prop

def EP (X : Cx) (pins : List (Addr × Obj)) (σ : St) (Q : VK) (u : Value) (s' : Shared) : Prop := ∃ v H', Inv X pins σ H' s' ∧ RelV v u ∧ Q v H'
def TP (X : Cx) (pins : List (Addr × Obj)) (σ : St) (Q : Bool → Hp → Prop) (b : Bool) (s' : Shared) : Prop := ∃ H', Inv X pins σ H' s' ∧ Q b H'
def AP (X : Cx) (pins : List (Addr × Obj)) (σ : St) (Q : List V → Hp → Prop) (us : List Value) (s' : Shared) : Prop := ∃ vs H', Inv X pins σ H' s' ∧ Vals vs us ∧ Q vs H'
def SP (X : Cx) (pins : List (Addr × Obj)) (D : Ends) (f : Flow) (s' : Shared) : Prop :=
  match f with
  | .next => ∃ σ' H', Inv X pins σ' H' s' ∧ D.nx σ' H'
  | .brk => ∃ σ' H', Inv X pins σ' H' s' ∧ D.bk σ' H'
  | .cont => ∃ σ' H', Inv X pins σ' H' s' ∧ D.ct σ' H'
  | .ret u => ∃ v σ' H', Inv X pins σ' H' s' ∧ RelV v u ∧ D.rt v H'

def PE (X : Cx) (e : Expr) (t : TE) : Prop :=
  ∀ (pins : List (Addr × Obj)) (s : Shared) (σ : St) (H : Hp) (Q : VK), Inv X pins σ H s → t σ H Q → wpAny (model X.prog X.w) X.A (eval e X.env) (EP X pins σ Q) X.xe s
def PT (X : Cx) (e : Expr) (t : TT) : Prop :=
  ∀ (pins : List (Addr × Obj)) (s : Shared) (σ : St) (H : Hp) (Q : Bool → Hp → Prop), Inv X pins σ H s → t σ H Q → wpAny (model X.prog X.w) X.A (isTrue e X.env (eval e X.env)) (TP X pins σ Q) X.xe s
/-- a test whatever its 'whole' is (and, or) -/
def PW (X : Cx) (e : Expr) (t : TT) : Prop :=
  ∀ (whole : Sem Value) (pins : List (Addr × Obj)) (s : Shared) (σ : St) (H : Hp) (Q : Bool → Hp → Prop), Inv X pins σ H s → t σ H Q → wpAny (model X.prog X.w) X.A (isTrue e X.env whole) (TP X pins σ Q) X.xe s
theorem PW.pt {X : Cx} {e : Expr} {t : TT} (h : PW X e t) : PT X e t := h _
/-- an argument list (no star), from the left -/
def PA (X : Cx) (es : List Expr) (t : TA) : Prop :=
  ∀ (pos : Pos) (pins : List (Addr × Obj)) (s : Shared) (σ : St) (H : Hp) (Q : List V → Hp → Prop), Inv X pins σ H s → t σ H Q → wpAny (model X.prog X.w) X.A (spliced (backTo pos (starEach es X.env))) (AP X pins σ Q) X.xe s
def PS (X : Cx) (st : Stmt) (t : TS) : Prop :=
  ∀ (pins : List (Addr × Obj)) (s : Shared) (σ : St) (H : Hp) (D : Ends), Inv X pins σ H s → t D σ H → wpAny (model X.prog X.w) X.A (exec st X.env) (SP X pins D) X.xe s
def PSs (X : Cx) (st : List Stmt) (t : TS) : Prop :=
  ∀ (pins : List (Addr × Obj)) (s : Shared) (σ : St) (H : Hp) (D : Ends), Inv X pins σ H s → t D σ H → wpAny (model X.prog X.w) X.A (execs st X.env) (SP X pins D) X.xe s
/-- weaken the end -/
theorem thn {α : Type} {t : Sem α} {Q Q' : α → Shared → Prop} {M : Model} {A : Around} {E : Value → Shared → Prop} {s : Shared} (h : wpAny M A t Q E s) (hQ : ∀ a s, Q a s → Q' a s) : wpAny M A t Q' E s := wpAny_mono h hQ fun _ _ x => x
end L2

namespace L2
open PySem PySem.Spec PyProof.Rows
section
variable {X : Cx}

/-- two expressions in a row -/
theorem bin {a b : Expr} {ta tb : TE} (ha : PE X a ta) (hb : PE X b tb) {pins : List (Addr × Obj)} {s : Shared} {σ : St} {H : Hp} {R : V → V → Hp → Prop} (I : Inv X pins σ H s) (h : ta σ H fun x H1 => tb σ H1 fun y H2 => R x y H2)
    {α : Type} {Q : α → Shared → Prop} {f : Value → Value → Sem α}
    (hf : ∀ v u s2 x y H2, Inv X pins σ H2 s2 → RelV x v → RelV y u → R x y H2 → wpAny (model X.prog X.w) X.A (f v u) Q X.xe s2) :
    wpAny (model X.prog X.w) X.A (eval a X.env) (fun v s₁ => wpAny (model X.prog X.w) X.A (eval b X.env) (fun u s₂ => wpAny (model X.prog X.w) X.A (f v u) Q X.xe s₂) X.xe s₁) X.xe s := by
  refine thn (ha pins s σ H _ I h) fun v s1 ⟨x, H1, I1, r1, q1⟩ => ?_
  refine thn (hb pins s1 σ H1 _ I1 q1) fun u s2 ⟨y, H2, I2, r2, q2⟩ => ?_
  exact hf v u s2 x y H2 I2 r1 r2 q2

/-! ### names and constants -/
def tVar (i : Nat) : TE := fun σ H Q => ∃ v, σ[i]? = some (some v) ∧ Q v H
def tC (v : V) : TE := fun _ H Q => Q v H
theorem pe_var {i : Nat} {x : Str} {pos : Pos} (hN : X.N[i]? = some x) (hv : Vis X.env.scope x) (hd : (x == ("__debug__" : Str)) = false := by decide) (hcd : (x == ("__classdict__" : Str)) = false := by decide) : PE X (.Name x pos) (tVar i) := by
  intro pins s σ H Q I h
  obtain ⟨v, e, h⟩ := h
  obtain ⟨m, hn, hl⟩ := I.loc
  obtain ⟨u, r, l⟩ := hl i x v hN e hv
  have fin : EP X pins σ Q u s := ⟨v, H, I, r, h⟩
  rcases l with ⟨hk, hm⟩ | ⟨hk, c, hc, hcell⟩
  · exact wpAny_Name (wpAny_loadName_local I.ok.kind hk hn hm fin) hd
  · rcases hk with hk | hk
    · exact wpAny_Name (wpAny_loadName_cell I.ok.kind hk hc hcell fin) hd
    · exact wpAny_Name (wpAny_loadName_free I.ok.kind hk hc hcell fin hcd) hd
theorem pe_int {i j pos} : PE X (.Constant (.int i) j pos) (tC (.int i)) := fun _ _ _ H _ I h => wpAny_Constant_int ⟨.int i, H, I.tok _, ⟨_, rfl⟩, h⟩
theorem pe_bl {b j pos} : PE X (.Constant (.bool b) j pos) (tC (.bl b)) := fun _ _ _ H _ I h => Constant_bool ⟨.bl b, H, I, rfl, h⟩
theorem pe_non {j pos} : PE X (.Constant .none j pos) (tC .non) := fun _ _ _ H _ I h => Constant_none ⟨.non, H, I, rfl, h⟩
theorem pe_str {x j pos} : PE X (.Constant (.str x) j pos) (tC (.str x)) := fun _ _ _ H _ I h => Calls.Constant_str ⟨.str x, H, I.tok _, ⟨_, rfl⟩, h⟩

/-- a global name of the def -/
def Gl (X : Cx) (x : Str) : Prop := X.env.kindOf x = some .globalImplicit
theorem ld_glob {E : Value → Shared → Prop} {pins : List (Addr × Obj)} {s : Shared} {σ : St} {H : Hp} {x : Str} {u : Value} {pos : Pos} {Q : Value → Shared → Prop} (I : Inv X pins σ H s) (hg : Gl X x) (hm : X.mg x = some u) (h : Q u s)
    (hd : (x == ("__debug__" : Str)) = false := by decide) : wpAny (model X.prog X.w) X.A (eval (.Name x pos) X.env) Q E s :=
  Calls.Name_function_global I.ok.kind hg (Calls.loadGlobal_global (by rw [I.ok.glob]; exact I.mod.glob.keeps I.bk) hm h) hd
theorem ld_blt {E : Value → Shared → Prop} {pins : List (Addr × Obj)} {s : Shared} {σ : St} {H : Hp} {x : Str} {u : Value} {pos : Pos} {Q : Value → Shared → Prop} (I : Inv X pins σ H s) (hg : Gl X x) (hm : X.mg x = none) (hv : bootBuiltins x = some u) (h : Q u s)
    (hn : x ≠ "__name__" := by decide) (hd : (x == ("__debug__" : Str)) = false := by decide) : wpAny (model X.prog X.w) X.A (eval (.Name x pos) X.env) Q E s := by
  obtain ⟨mb, h1, h2⟩ := I.mod.blt
  exact Calls.Name_function_global I.ok.kind hg (Calls.loadGlobal_builtin (by rw [I.ok.glob]; exact I.mod.glob.keeps I.bk) hm (by rw [I.ok.blt]; exact h1.keeps I.bk) ((h2 x hn).trans hv) h) hd
/-- a module's constant, a class, a function, as a value -/
theorem pe_glob {x : Str} {v : V} {u : Value} {pos : Pos} (hg : Gl X x) (hm : X.mg x = some u) (r : RelV v u) (hd : (x == ("__debug__" : Str)) = false := by decide) : PE X (.Name x pos) (tC v) :=
  fun _ _ _ H _ I h => ld_glob I hg hm ⟨v, H, I, r, h⟩ hd
theorem pe_bltn {x : Str} {v : V} {u : Value} {pos : Pos} (hg : Gl X x) (hm : X.mg x = none) (hv : bootBuiltins x = some u) (r : RelV v u) (hn : x ≠ "__name__" := by decide) (hd : (x == ("__debug__" : Str)) = false := by decide) : PE X (.Name x pos) (tC v) :=
  fun _ _ _ H _ I h => ld_blt I hg hm hv ⟨v, H, I, r, h⟩ hn hd

/-! ### arithmetic -/
/-- two ints -/
def t2I (ta tb : TE) (k : Int → Int → Hp → Prop) : St → Hp → Prop := fun σ H => ta σ H fun x H1 => tb σ H1 fun y H2 => ∃ i j, x = .int i ∧ y = .int j ∧ k i j H2
def tAdd (ta tb : TE) : TE := fun σ H Q => t2I ta tb (fun i j H2 => Q (.int (i + j)) H2) σ H
def tSub (ta tb : TE) : TE := fun σ H Q => t2I ta tb (fun i j H2 => Q (.int (i - j)) H2) σ H
/-- the left factor below 2^64 -/
def tMul (ta tb : TE) : TE := fun σ H Q => t2I ta tb (fun i j H2 => (-(2 ^ 64) < i ∧ i < 2 ^ 64) ∧ Q (.int (i * j)) H2) σ H
variable {a b : Expr} {ta tb : TE} {pos : Pos}
theorem pe_add (ha : PE X a ta) (hb : PE X b tb) : PE X (.BinOp a .Add b pos) (tAdd ta tb) := by
  intro pins s σ H Q I h
  refine wpAny_BinOp (bin ha hb I h fun v u s2 x y H2 I2 rx ry q => ?_)
  obtain ⟨i, j, rfl, rfl, q⟩ := q
  obtain ⟨t, rfl⟩ := rx
  obtain ⟨t', rfl⟩ := ry
  exact add_int ⟨.int _, H2, I2.tok _, ⟨_, rfl⟩, q⟩
theorem pe_sub (ha : PE X a ta) (hb : PE X b tb) : PE X (.BinOp a .Sub b pos) (tSub ta tb) := by
  intro pins s σ H Q I h
  refine wpAny_BinOp (bin ha hb I h fun v u s2 x y H2 I2 rx ry q => ?_)
  obtain ⟨i, j, rfl, rfl, q⟩ := q
  obtain ⟨t, rfl⟩ := rx
  obtain ⟨t', rfl⟩ := ry
  exact sub_int ⟨.int _, H2, I2.tok _, ⟨_, rfl⟩, q⟩
theorem pe_mul (ha : PE X a ta) (hb : PE X b tb) : PE X (.BinOp a .Mult b pos) (tMul ta tb) := by
  intro pins s σ H Q I h
  refine wpAny_BinOp (bin ha hb I h fun v u s2 x y H2 I2 rx ry q => ?_)
  obtain ⟨i, j, rfl, rfl, ⟨q1, q2⟩, q⟩ := q
  obtain ⟨t, rfl⟩ := rx
  obtain ⟨t', rfl⟩ := ry
  exact mul_int ⟨.int _, H2, I2.tok _, ⟨_, rfl⟩, q⟩ (.of_left (intBits_le_64 q1 q2))

/-! ### comparisons -/
def PC (X : Cx) (op : CmpOp) (a b : Expr) (t : TE) : Prop :=
  ∀ (pins : List (Addr × Obj)) (s : Shared) (σ : St) (H : Hp) (Q : VK), Inv X pins σ H s → t σ H Q →
    wpAny (model X.prog X.w) X.A (eval a X.env) (fun v s₁ => wpAny (model X.prog X.w) X.A (eval b X.env) (fun u s₂ => wpAny (model X.prog X.w) X.A (compareOp op v u) (EP X pins σ Q) X.xe s₂) X.xe s₁) X.xe s
theorem nobehind (b : Expr) {op : CmpOp} (h : op ≠ .In) (h2 : op ≠ .NotIn) : behindInMarks op b = false := by
  have e1 : (op == CmpOp.In) = false := by cases op <;> first | rfl | exact absurd rfl h
  have e2 : (op == CmpOp.NotIn) = false := by cases op <;> first | rfl | exact absurd rfl h2
  cases b <;> simp [behindInMarks, e1, e2]
def tCmp (p : Int → Int → Bool) (ta tb : TE) : TE := fun σ H Q => t2I ta tb (fun i j H2 => Q (.bl (p i j)) H2) σ H
abbrev tLt : TE → TE → TE := tCmp fun i j => decide (i < j)
abbrev tLe : TE → TE → TE := tCmp fun i j => decide (i ≤ j)
abbrev tGt : TE → TE → TE := tCmp fun i j => decide (j < i)
abbrev tGe : TE → TE → TE := tCmp fun i j => decide (j ≤ i)
abbrev tEqI : TE → TE → TE := tCmp fun i j => decide (i = j)
abbrev tNeI : TE → TE → TE := tCmp fun i j => !decide (i = j)
/-- a comparison of two ints, by its rule -/
theorem pc_int {op : CmpOp} {p : Int → Int → Bool} (ha : PE X a ta) (hb : PE X b tb)
    (rule : ∀ (i j : Int) (t u : Tok) (Q : Value → Shared → Prop) (s : Shared), Q (.bool (p i j)) s → wpAny (model X.prog X.w) X.A (compareOp op (.int i t) (.int j u)) Q X.xe s) : PC X op a b (tCmp p ta tb) := by
  intro pins s σ H Q I h
  refine bin ha hb I h fun v u s2 x y H2 I2 rx ry q => ?_
  obtain ⟨i, j, rfl, rfl, q⟩ := q
  obtain ⟨t, rfl⟩ := rx
  obtain ⟨t', rfl⟩ := ry
  exact rule i j t t' _ s2 ⟨.bl _, H2, I2, rfl, q⟩
theorem pc_lt (ha : PE X a ta) (hb : PE X b tb) : PC X .Lt a b (tLt ta tb) := pc_int ha hb fun _ _ _ _ _ _ h => lt_int h
theorem pc_le (ha : PE X a ta) (hb : PE X b tb) : PC X .LtE a b (tLe ta tb) := pc_int ha hb fun _ _ _ _ _ _ h => le_int h
theorem pc_gt (ha : PE X a ta) (hb : PE X b tb) : PC X .Gt a b (tGt ta tb) := pc_int ha hb fun _ _ _ _ _ _ h => gt_int h
theorem pc_ge (ha : PE X a ta) (hb : PE X b tb) : PC X .GtE a b (tGe ta tb) := pc_int ha hb fun _ _ _ _ _ _ h => ge_int h
theorem pc_eqI (ha : PE X a ta) (hb : PE X b tb) : PC X .Eq a b (tEqI ta tb) := pc_int ha hb fun _ _ _ _ _ _ h => eq_int (by rw [Bool.beq_eq_decide_eq]; exact h)
theorem pc_neI (ha : PE X a ta) (hb : PE X b tb) : PC X .NotEq a b (tNeI ta tb) := pc_int ha hb fun _ _ _ _ _ _ h => ne_int (by rw [bne, Bool.beq_eq_decide_eq]; exact h)
/-- is None -/
def tIsN (ta : TE) : TE := fun σ H Q => ta σ H fun x H1 => Q (.bl (decide (x = .non))) H1
def tNotN (ta : TE) : TE := fun σ H Q => ta σ H fun x H1 => Q (.bl (!decide (x = .non))) H1
theorem RelV.none_iff {x : V} {v : Value} (r : RelV x v) : (v == Value.none) = decide (x = .non) := by
  cases x with
  | non => cases r; rfl
  | bl _ => cases r; rfl
  | int _ => obtain ⟨t, rfl⟩ := r; rfl
  | str _ => obtain ⟨t, rfl⟩ := r; rfl
  | byt _ => obtain ⟨t, rfl⟩ := r; rfl
  | flt _ => obtain ⟨t, rfl⟩ := r; rfl
  | ref _ => cases r; rfl
  | ty _ => cases r; rfl
theorem pc_isN {j pos'} (ha : PE X a ta) : PC X .Is a (.Constant .none j pos') (tIsN ta) := by
  intro pins s σ H Q I h
  refine thn (ha pins s σ H _ I h) fun v s1 ⟨x, H1, I1, r1, q1⟩ => ?_
  exact Constant_none (is_none_gen ⟨.bl _, H1, I1, by rw [r1.none_iff]; rfl, q1⟩)
theorem pc_notN {j pos'} (ha : PE X a ta) : PC X .IsNot a (.Constant .none j pos') (tNotN ta) := by
  intro pins s σ H Q I h
  refine thn (ha pins s σ H _ I h) fun v s1 ⟨x, H1, I1, r1, q1⟩ => ?_
  exact Constant_none (isnot_none_gen ⟨.bl _, H1, I1, by rw [r1.none_iff]; rfl, q1⟩)
/-- a comparison as a value, as a test -/
def tB (t : TE) : TT := fun σ H Q => t σ H fun x H1 => ∃ c, x = .bl c ∧ Q c H1
theorem pe_cmp {op : CmpOp} {t : TE} (h : PC X op a b t) (h1 : behindInMarks op b = false := by first | exact nobehind _ (by decide) (by decide) | rfl) : PE X (.Compare a [op] [b] pos) t := fun pins s σ H Q I hw => wpAny_Compare1 (h pins s σ H Q I hw) h1
theorem pt_cmp {op : CmpOp} {t : TE} (h : PC X op a b t) (h1 : behindInMarks op b = false := by first | exact nobehind _ (by decide) (by decide) | rfl) : PT X (.Compare a [op] [b] pos) (tB t) := by
  intro pins s σ H Q I hw
  refine wpAny_isTrue_Compare1 (thn (h pins s σ H _ I hw) fun v s1 h1 => thn h1 fun u s2 h2 => thn h2 fun c s3 ⟨x, H1, I1, r1, q1⟩ => ?_) h1
  obtain ⟨d, rfl, q⟩ := q1
  cases r1
  exact wpAny_truthy_bool ⟨H1, I1, q⟩
/-- an expression whose value is a bool, as a test -/
theorem pt_val {e : Expr} {t : TE} (h : PE X e t) (he : ∀ whole, isTrue e X.env whole = (do let v ← whole; standAt e.pos; holding [v] (truthy v)) := by intro _; rfl) : PT X e (tB t) := by
  intro pins s σ H Q I hw
  refine isTrue_plain (thn (h pins s σ H _ I hw) fun v s1 ⟨x, H1, I1, r1, q1⟩ => ?_) (he _)
  obtain ⟨d, rfl, q⟩ := q1
  cases r1
  exact wpAny_truthy_bool ⟨H1, I1, q⟩

/-! ### and, or, not -/
variable {tA tB' : TT} {rest : List Expr}
def tAnd (t u : TT) : TT := fun σ H Q => t σ H fun c H1 => if c = true then u σ H1 Q else Q false H1
def tOr (t u : TT) : TT := fun σ H Q => t σ H fun c H1 => if c = true then Q true H1 else u σ H1 Q
def tNot (t : TT) : TT := fun σ H Q => t σ H fun c H1 => Q (!c) H1
theorem pw_and1 (ha : PT X a tA) : PW X (.BoolOp .And [a] pos) tA := by
  intro wh pins s σ H Q I h
  refine isTrue_and (thn (ha pins s σ H Q I h) fun c s1 e => ?_)
  cases c with
  | true => exact isTrue_and_nil e
  | false => exact e
theorem pw_or1 (ha : PT X a tA) : PW X (.BoolOp .Or [a] pos) tA := by
  intro wh pins s σ H Q I h
  refine isTrue_or (thn (ha pins s σ H Q I h) fun c s1 e => ?_)
  cases c with
  | false => exact isTrue_or_nil e
  | true => exact e
theorem pw_and (ha : PT X a tA) (hb : PW X (.BoolOp .And (b :: rest) pos) tB') : PW X (.BoolOp .And (a :: b :: rest) pos) (tAnd tA tB') := by
  intro wh pins s σ H Q I h
  refine isTrue_and (thn (ha pins s σ H _ I h) fun c s1 ⟨H1, I1, q1⟩ => ?_)
  cases c with
  | true => exact hb wh pins s1 σ H1 Q I1 q1
  | false => exact ⟨H1, I1, q1⟩
theorem pw_or (ha : PT X a tA) (hb : PW X (.BoolOp .Or (b :: rest) pos) tB') : PW X (.BoolOp .Or (a :: b :: rest) pos) (tOr tA tB') := by
  intro wh pins s σ H Q I h
  refine isTrue_or (thn (ha pins s σ H _ I h) fun c s1 ⟨H1, I1, q1⟩ => ?_)
  cases c with
  | true => exact ⟨H1, I1, q1⟩
  | false => exact hb wh pins s1 σ H1 Q I1 q1
theorem pt_not (ha : PT X a tA) : PT X (.UnaryOp .Not a pos) (tNot tA) := by
  intro pins s σ H Q I h
  exact isTrue_not (ha pins s σ H (fun c H1 => Q (!c) H1) I h)
/-- .. as values (bools) -/
def tAndV (ta tb : TE) : TE := fun σ H Q => ta σ H fun x H1 => ∃ c, x = .bl c ∧ if c = true then tb σ H1 Q else Q (.bl false) H1
def tOrV (ta tb : TE) : TE := fun σ H Q => ta σ H fun x H1 => ∃ c, x = .bl c ∧ if c = true then Q (.bl true) H1 else tb σ H1 Q
def tNotV (ta : TE) : TE := fun σ H Q => ta σ H fun x H1 => ∃ c, x = .bl c ∧ Q (.bl (!c)) H1
theorem pe_one {op} {t : TE} (h : PE X a t) : PE X (.BoolOp op [a] pos) t := fun pins s σ H Q I hw => BoolOp_one (h pins s σ H Q I hw)
theorem pe_and (ha : PE X a ta) (hb : PE X (.BoolOp .And (b :: rest) pos) tb) : PE X (.BoolOp .And (a :: b :: rest) pos) (tAndV ta tb) := by
  intro pins s σ H Q I h
  refine BoolOp_and (thn (ha pins s σ H _ I h) fun v s1 ⟨x, H1, I1, r1, q1⟩ => ?_)
  obtain ⟨c, rfl, q1⟩ := q1
  cases r1
  refine wpAny_truthy_bool ?_
  cases c with
  | true => exact hb pins s1 σ H1 Q I1 q1
  | false => exact ⟨.bl false, H1, I1, rfl, q1⟩
theorem pe_or (ha : PE X a ta) (hb : PE X (.BoolOp .Or (b :: rest) pos) tb) : PE X (.BoolOp .Or (a :: b :: rest) pos) (tOrV ta tb) := by
  intro pins s σ H Q I h
  refine BoolOp_or (thn (ha pins s σ H _ I h) fun v s1 ⟨x, H1, I1, r1, q1⟩ => ?_)
  obtain ⟨c, rfl, q1⟩ := q1
  cases r1
  refine wpAny_truthy_bool ?_
  cases c with
  | false => exact hb pins s1 σ H1 Q I1 q1
  | true => exact ⟨.bl true, H1, I1, rfl, q1⟩
theorem pe_not (ha : PE X a ta) : PE X (.UnaryOp .Not a pos) (tNotV ta) := by
  intro pins s σ H Q I h
  refine UnaryOp_ (thn (ha pins s σ H _ I h) fun v s1 ⟨x, H1, I1, r1, q1⟩ => ?_)
  obtain ⟨c, rfl, q1⟩ := q1
  cases r1
  exact not_of (wpAny_truthy_bool ⟨.bl (!c), H1, I1, rfl, q1⟩)
/-- a if t else b -/
def tIf (t : TT) (ta tb : TE) : TE := fun σ H Q => t σ H fun c H1 => if c = true then ta σ H1 Q else tb σ H1 Q
theorem pe_ifExp {c : Expr} (hc : PT X c tA) (ha : PE X a ta) (hb : PE X b tb) : PE X (.IfExp c a b pos) (tIf tA ta tb) := by
  intro pins s σ H Q I h
  refine wpAny_IfExp (thn (hc pins s σ H _ I h) fun d s1 ⟨H1, I1, q1⟩ => ?_)
  cases d with
  | true => exact ha pins s1 σ H1 Q I1 q1
  | false => exact hb pins s1 σ H1 Q I1 q1
end
end L2

namespace L2
open PySem PySem.Spec PyProof.Rows

/-! ### a list, a tuple that is read: tracked, frozen, or an object of the module -/
def SqL (K : PySem.W.Frag) (H : Hp) (a : Addr) (xs : List V) : Prop :=
  Rd H a (.lst xs) ∨
    ∃ (o : Obj) (its : Array Value) (n : Nat), K.lookup a = some o ∧ o.cls = .type "list" ∧ o.dict = none ∧ o.data = .seq its n ∧ its.size ≤ sizeLine ∧ Vals xs its.toList
def SqT (K : PySem.W.Frag) (H : Hp) (a : Addr) (xs : List V) : Prop :=
  Rd H a (.tup xs) ∨
    ∃ (o : Obj) (its : Array Value) (n : Nat), K.lookup a = some o ∧ o.cls = .type "tuple" ∧ o.data = .seq its n ∧ its.size ≤ sizeLine ∧ Vals xs its.toList
def absV : Value → Option V
  | .none => some .non
  | .bool b => some (.bl b)
  | .int i _ => some (.int i)
  | .str x _ => some (.str x)
  | .bytes b _ => some (.byt b)
  | .float b _ => some (.flt b)
  | .ref a => some (.ref a)
  | .type n => some (.ty n)
  | _ => none
theorem RelV.abs {x : V} {u : Value} (r : RelV x u) : absV u = some x := by
  cases x with
  | non => cases r; rfl
  | bl _ => cases r; rfl
  | int _ => obtain ⟨t, rfl⟩ := r; rfl
  | str _ => obtain ⟨t, rfl⟩ := r; rfl
  | byt _ => obtain ⟨t, rfl⟩ := r; rfl
  | flt _ => obtain ⟨t, rfl⟩ := r; rfl
  | ref _ => cases r; rfl
  | ty _ => cases r; rfl
theorem RelV.inj {x y : V} {u : Value} (r : RelV x u) (q : RelV y u) : x = y := Option.some.inj (r.abs.symm.trans q.abs)
theorem Vals.inj : ∀ {xs ys : List V} {us : List Value}, Vals xs us → Vals ys us → xs = ys
  | _, _, _, .nil, .nil => rfl
  | _, _, _, .cons r t, .cons r' t' => by rw [r.inj r', Vals.inj t t']
section
variable {X : Cx} {pins : List (Addr × Obj)} {σ : St} {H : Hp} {s : Shared} {a : Addr} {xs ys : List V}
theorem SqL.of {K : PySem.W.Frag} (h : H a = some (.lst xs)) : SqL K H a xs := .inl (.inl h)
theorem SqT.of {K : PySem.W.Frag} (h : H a = some (.tup xs)) : SqT K H a xs := .inl (.inl h)
theorem Inv.list (I : Inv X pins σ H s) (h : SqL X.K H a xs) : ∃ its : List Value, Vals xs its ∧ PlainL s.heap a its.toArray ∧ xs.length ≤ sizeLine := by
  rcases h with h | ⟨o, its, n, hk, hc, hd, hs, hz, r⟩
  · obtain ⟨z, its, n, r, e⟩ := h.ok I.hok
    exact ⟨its, r, ⟨_, n, e, rfl, rfl, rfl⟩, z⟩
  · refine ⟨its.toList, r, ⟨o, n, I.kIn a o hk, hc, hd, by simpa using hs⟩, ?_⟩
    have e := r.length
    simp only [Array.length_toList] at e
    omega
theorem Inv.tuple (I : Inv X pins σ H s) (h : SqT X.K H a xs) : ∃ its : List Value, Vals xs its ∧ IsTup s.heap a its.toArray ∧ xs.length ≤ sizeLine := by
  rcases h with h | ⟨o, its, n, hk, hc, hs, hz, r⟩
  · obtain ⟨z, its, r, p⟩ := h.ok I.hok
    exact ⟨its, r, p, z⟩
  · refine ⟨its.toList, r, ⟨o, I.kIn a o hk, hc, n, by simpa using hs⟩, ?_⟩
    have e := r.length
    simp only [Array.length_toList] at e
    omega
theorem Inv.list_inj (I : Inv X pins σ H s) (h : SqL X.K H a xs) (h' : SqL X.K H a ys) : xs = ys := by
  obtain ⟨its, r, ⟨o, n, e, _, _, d⟩, _⟩ := I.list h
  obtain ⟨its', r', ⟨o', n', e', _, _, d'⟩, _⟩ := I.list h'
  rw [e] at e'; cases e'
  rw [d] at d'
  injection d' with d1 _
  have : its = its' := by simpa using congrArg Array.toList d1
  subst this
  exact r.inj r'
theorem Inv.tuple_inj (I : Inv X pins σ H s) (h : SqT X.K H a xs) (h' : SqT X.K H a ys) : xs = ys := by
  obtain ⟨its, r, ⟨o, e, _, n, d⟩, _⟩ := I.tuple h
  obtain ⟨its', r', ⟨o', e', _, n', d'⟩, _⟩ := I.tuple h'
  rw [e] at e'; cases e'
  rw [d] at d'
  injection d' with d1 _
  have : its = its' := by simpa using congrArg Array.toList d1
  subst this
  exact r.inj r'
end

/-! ### another wish about exceptions -/
abbrev Cx.wish (X : Cx) (E : Value → Shared → Prop) : Cx := { X with xe := E }
/-- no exception leaves -/
abbrev Cx.nox (X : Cx) : Cx := X.wish fun _ _ => False
theorem Cx.Ok.wish {X : Cx} (ok : X.Ok) (E : Value → Shared → Prop) : (X.wish E).Ok :=
  ⟨ok.mod, ok.kind, ok.glob, ok.blt, ok.above, ok.inj, ok.has, ok.cab, ok.hd, ok.frames, ok.stk, ok.exf, ok.bs, ok.bsz, ok.noex, ok.exfs, ok.funs, ok.frf⟩
theorem Cx.Ok.unwish {X : Cx} {E : Value → Shared → Prop} (ok : (X.wish E).Ok) : X.Ok :=
  ⟨ok.mod, ok.kind, ok.glob, ok.blt, ok.above, ok.inj, ok.has, ok.cab, ok.hd, ok.frames, ok.stk, ok.exf, ok.bs, ok.bsz, ok.noex, ok.exfs, ok.funs, ok.frf⟩
section
variable {X : Cx} {pins : List (Addr × Obj)} {σ : St} {H : Hp} {s : Shared} {E : Value → Shared → Prop}
theorem Inv.wish (I : Inv X pins σ H s) (E : Value → Shared → Prop) : Inv (X.wish E) pins σ H s := ⟨I.ok.wish E, I.os, I.bare, I.base, I.loc, I.cell, I.free, I.freeC, I.pin, I.hok, I.len⟩
theorem Inv.unwish (I : Inv (X.wish E) pins σ H s) : Inv X pins σ H s := ⟨I.ok.unwish, I.os, I.bare, I.base, I.loc, I.cell, I.free, I.freeC, I.pin, I.hok, I.len⟩
theorem SP.unwish {D : Ends} {f : Flow} {s' : Shared} (h : SP (X.wish E) pins D f s') : SP X pins D f s' := by
  cases f with
  | next => obtain ⟨σ', H', I, q⟩ := h; exact ⟨σ', H', I.unwish, q⟩
  | brk => obtain ⟨σ', H', I, q⟩ := h; exact ⟨σ', H', I.unwish, q⟩
  | cont => obtain ⟨σ', H', I, q⟩ := h; exact ⟨σ', H', I.unwish, q⟩
  | ret u => obtain ⟨v, σ', H', I, r, q⟩ := h; exact ⟨v, σ', H', I.unwish, r, q⟩
theorem PE.nox {e : Expr} {t : TE} (h : PE X.nox e t) : PE X e t := fun pins s σ H Q I hw =>
  wpAny_mono (h pins s σ H Q (I.wish _) hw) (fun _ _ ⟨v, H', I', r, q⟩ => ⟨v, H', I'.unwish, r, q⟩) fun _ _ z => False.elim z
theorem PT.nox {e : Expr} {t : TT} (h : PT X.nox e t) : PT X e t := fun pins s σ H Q I hw =>
  wpAny_mono (h pins s σ H Q (I.wish _) hw) (fun _ _ ⟨H', I', q⟩ => ⟨H', I'.unwish, q⟩) fun _ _ z => False.elim z
theorem PSs.nox {st : List Stmt} {t : TS} (h : PSs X.nox st t) : PSs X st t := fun pins s σ H D I hw =>
  wpAny_mono (h pins s σ H D (I.wish _) hw) (fun _ _ q => q.unwish) fun _ _ z => False.elim z
end

/-! ### blocks and small statements -/
section
variable {X : Cx} {st : Stmt} {rest : List Stmt} {t u : TS} {e : Expr} {te : TE} {pos : Pos}
def tNext : TS := fun D σ H => D.nx σ H
def tSeq (t u : TS) : TS := fun D σ H => t { D with nx := u D } σ H
theorem pss_nil : PSs X [] tNext := fun _ _ σ H _ I h => wpAny_execs_nil ⟨σ, H, I, h⟩
theorem pss_cons (h1 : PS X st t) (h2 : PSs X rest u) : PSs X (st :: rest) (tSeq t u) := by
  intro pins s σ H D I h
  refine wpAny_execs_cons (thn (h1 pins s σ H { D with nx := u D } I h) fun f s1 q => ?_)
  cases f with
  | next =>
    obtain ⟨σ', H', I', q⟩ := q
    exact h2 pins s1 σ' H' D I' q
  | ret v => exact q
  | brk => exact q
  | cont => exact q
theorem pss_one (h1 : PS X st t) : PSs X [st] t := by
  intro pins s σ H D I h
  refine wpAny_execs_cons (thn (h1 pins s σ H D I h) fun f s1 q => ?_)
  cases f with
  | next => exact wpAny_execs_nil q
  | ret v => exact q
  | brk => exact q
  | cont => exact q
def tBreak : TS := fun D σ H => D.bk σ H
def tCont : TS := fun D σ H => D.ct σ H
theorem ps_pass : PS X (.Pass pos) tNext := fun _ _ σ H _ I h => wpAny_Pass ⟨σ, H, I, h⟩
theorem ps_break : PS X (.Break pos) tBreak := fun _ _ σ H _ I h => wpAny_Break ⟨σ, H, I, h⟩
theorem ps_continue : PS X (.Continue pos) tCont := fun _ _ σ H _ I h => wpAny_Continue ⟨σ, H, I, h⟩
/-- in a def's body nothing is shown -/
theorem Inv.quiet {pins : List (Addr × Obj)} {σ : St} {H : Hp} {s : Shared} (I : Inv X pins σ H s) : interactive X.env = false := by simp [interactive, I.ok.kind]
/-- a docstring -/
theorem ps_doc {x j pos pos'} : PS X (.Expr (.Constant (.str x) j pos) pos') tNext := fun _ s σ H _ I h => wpAny_Expr (Calls.Constant_str (show SP X _ _ .next { s with toks := s.toks + 1 } from ⟨σ, H, I.tok _, h⟩)) I.quiet
/-- an expression whose value is dropped -/
def tDrop (te : TE) : TS := fun D σ H => te σ H fun _ H1 => D.nx σ H1
theorem ps_expr (he : PE X e te) (hs : swapsWith e none pos.line X.env = pure false := by rfl) : PS X (.Expr e pos) (tDrop te) := by
  intro pins s σ H D I h
  exact wpAny_Expr_any (thn (he pins s σ H _ I h) fun v s1 ⟨x, H1, I1, r1, q1⟩ => ⟨σ, H1, I1, q1⟩) I.quiet hs
def tRet (te : TE) : TS := fun D σ H => te σ H D.rt
theorem ps_ret (he : PE X e te) : PS X (.Return (some e) pos) (tRet te) := by
  intro pins s σ H D I h
  exact wpAny_Return_some (thn (he pins s σ H _ I h) fun v s1 ⟨x, H1, I1, r1, q1⟩ => ⟨x, σ, H1, I1, r1, q1⟩)
def tRetN : TS := fun D _ H => D.rt .non H
theorem ps_retN : PS X (.Return none pos) tRetN := fun _ _ σ H _ I h => wpAny_Return_none ⟨.non, σ, H, I, rfl, h⟩
def tIfS (c : TT) (t u : TS) : TS := fun D σ H => c σ H fun b H1 => if b = true then t D σ H1 else u D σ H1
theorem ps_if {c : Expr} {a b : List Stmt} {tc : TT} (hc : PT X c tc) (ha : PSs X a t) (hb : PSs X b u) : PS X (.If c a b pos) (tIfS tc t u) := by
  intro pins s σ H D I h
  refine wpAny_If (thn (hc pins s σ H _ I h) fun d s1 ⟨H1, I1, q1⟩ => ?_)
  cases d with
  | true => exact ha pins s1 σ H1 D I1 q1
  | false => exact hb pins s1 σ H1 D I1 q1
/-- code that the proof never comes to -/
def tNever : TS := fun _ _ _ => False
theorem ps_never : PS X st tNever := fun _ _ _ _ _ _ h => h.elim
theorem pss_never {sts : List Stmt} : PSs X sts tNever := fun _ _ _ _ _ _ h => h.elim
end

/-! ### targets -/
abbrev TG := V → St → Hp → (St → Hp → Prop) → Prop
abbrev TGs := List V → St → Hp → (St → Hp → Prop) → Prop
def PG (X : Cx) (target : Expr) (t : TG) : Prop :=
  ∀ (pins : List (Addr × Obj)) (s : Shared) (σ : St) (H : Hp) (v : V) (u : Value) (Q : St → Hp → Prop), Inv X pins σ H s → RelV v u → t v σ H Q →
    wpAny (model X.prog X.w) X.A (assign target X.env u) (fun _ s' => ∃ σ' H', Inv X pins σ' H' s' ∧ Q σ' H') X.xe s
/-- several targets, one after another -/
def PGs (X : Cx) (ts : List Expr) (t : TGs) : Prop :=
  ∀ (pins : List (Addr × Obj)) (s : Shared) (σ : St) (H : Hp) (vs : List V) (us : List Value) (Q : St → Hp → Prop), Inv X pins σ H s → Vals vs us → t vs σ H Q →
    wpAny (model X.prog X.w) X.A (assignInOrder ((assignEach ts X.env).map (·.2)) us) (fun _ s' => ∃ σ' H', Inv X pins σ' H' s' ∧ Q σ' H') X.xe s
/-- o[i] = v, by values -/
abbrev TSet := V → V → V → Hp → (Hp → Prop) → Prop
def PSet (X : Cx) (t : TSet) : Prop :=
  ∀ (pins : List (Addr × Obj)) (s : Shared) (σ : St) (H : Hp) (o i v : V) (ov iv u : Value) (Q : Hp → Prop), Inv X pins σ H s → RelV o ov → RelV i iv → RelV v u → t o i v H Q →
    wpAny (model X.prog X.w) X.A (setItem ov iv u) (fun _ s' => ∃ H', Inv X pins σ H' s' ∧ Q H') X.xe s
/-- a op= b, by values -/
abbrev TIp := V → V → Hp → VK → Prop
def PIp (X : Cx) (op : Operator) (t : TIp) : Prop :=
  ∀ (pins : List (Addr × Obj)) (s : Shared) (σ : St) (H : Hp) (x y : V) (v u : Value) (Q : VK), Inv X pins σ H s → RelV x v → RelV y u → t x y H Q →
    wpAny (model X.prog X.w) X.A (inplaceOp op v u) (EP X pins σ Q) X.xe s
section
variable {X : Cx} {pos : Pos}
def gName (i : Nat) : TG := fun v σ H Q => Q (σ.set i (some v)) H
theorem pg_name {i : Nat} {x : Str} (hN : X.N.Nodup) (hi : X.N[i]? = some x) (hx : Loc X.env.scope x) (hf : X.fn x = true ∨ X.env.scope.names.lookup x = some .local := by first | exact .inl rfl | exact .inr rfl | assumption) : PG X (.Name x pos) (gName i) := by
  intro pins s σ H v u Q I r h
  exact wpAny_assign_Name (store_ok I hN hi hx r (fun s' I' => ⟨_, H, I', h⟩) hf)
def gNil : TGs := fun vs σ H Q => vs = [] ∧ Q σ H
def gCons (t : TG) (u : TGs) : TGs := fun vs σ H Q => ∃ v r, vs = v :: r ∧ t v σ H fun σ' H' => u r σ' H' Q
theorem pgs_nil : PGs X [] gNil := by
  intro pins s σ H vs us Q I r h
  obtain ⟨e, h⟩ := h
  subst e
  cases r
  exact assignInOrder_nil ⟨σ, H, I, h⟩
theorem pgs_cons {e : Expr} {es : List Expr} {t : TG} {u : TGs} (h1 : PG X e t) (h2 : PGs X es u)
    (hs : (assignEach (e :: es) X.env).map (·.2) = assign e X.env :: (assignEach es X.env).map (·.2) := by rfl) : PGs X (e :: es) (gCons t u) := by
  intro pins s σ H vs us Q I r h
  obtain ⟨v, vr, e1, h⟩ := h
  subst e1
  cases r with
  | cons r rr =>
    rw [hs]
    refine assignInOrder_cons (thn (h1 pins s σ H _ _ _ I r h) fun _ s1 ⟨σ1, H1, I1, q1⟩ => ?_)
    exact h2 pins s1 σ1 H1 _ _ Q I1 rr q1
/-- (a, b, ..) = a tuple of that length -/
def gTup (K : PySem.W.Frag) (n : Nat) (t : TGs) : TG := fun v σ H Q => ∃ a xs, v = .ref a ∧ SqT K H a xs ∧ xs.length = n ∧ t xs σ H Q
theorem pg_tup {es : List Expr} {k : Nat} {t : TGs} {n : Nat} (hc : X.calm = true) (h : PGs X es t)
    (hn : (assignEach es X.env).length = n := by rfl) (hst : (assignEach es X.env).findIdx? (·.1) = none := by rfl) : PG X (.Tuple es k pos) (gTup X.K n t) := by
  intro pins s σ H v u Q I r hw
  obtain ⟨a, xs, e1, hq, hl, hw⟩ := hw
  subst e1
  cases r
  obtain ⟨its, rv, ht, hz⟩ := I.tuple hq
  refine assign_Tuple_tuple (I.ok.hd hc) ht (by simp [hn, ← hl, rv.length]) hst fun h' hx => ?_
  have I1 : Inv X pins σ H { s with heap := h' } := I.kept (t' := s.toks) fun b o e => hx b o (Nat.ne_of_lt (Heap.lt_size e)) e
  exact h pins _ σ H xs _ Q I1 (by simpa using rv) hw
/-- o[i] = .. -/
def gSub (to ti : TE) (t : TSet) : TG := fun v σ H Q => to σ H fun o H1 => ti σ H1 fun i H2 => t o i v H2 fun H3 => Q σ H3
theorem pg_sub {o i : Expr} {to ti : TE} {t : TSet} (ho : PE X o to) (hi : PE X i ti) (hs : PSet X t)
    (ha : ∀ v, assign (.Subscript o i pos) X.env v = (do
      let ov ← holding [v] (eval o X.env)
      let iv ← holding [v, ov] (eval i X.env)
      standAt pos
      holding [v, ov, iv] (setItem ov iv v)
      release [v, ov, iv] []) := by intro _; rfl) : PG X (.Subscript o i pos) (gSub to ti t) := by
  intro pins s σ H v u Q I r h
  rw [ha]
  refine wpAny_bind (wpAny_holding (thn (ho pins s σ H _ I h) fun ov s1 ⟨x, H1, I1, r1, q1⟩ => ?_))
  refine wpAny_bind (wpAny_holding (thn (hi pins s1 σ H1 _ I1 q1) fun iv s2 ⟨y, H2, I2, r2, q2⟩ => ?_))
  refine wpAny_bind (wpAny_standAt (wpAny_bind (wpAny_holding (thn (hs pins s2 σ H2 x y v ov iv u _ I2 r1 r2 r q2) fun _ s3 ⟨H3, I3, q3⟩ => ?_))))
  exact wpAny_release ⟨σ, H3, I3, q3⟩
/-- target = value -/
def tAsg (te : TE) (g : TG) : TS := fun D σ H => te σ H fun x H1 => g x σ H1 D.nx
theorem ps_asg {tg e : Expr} {te : TE} {g : TG} (he : PE X e te) (hg : PG X tg g) (hs : swapsWithSole [tg] e pos.line X.env = pure false := by rfl) (hw : swappedStores [tg] e X.env = pure none := by rfl)
    (h1 : (assignEach [tg] X.env).map (·.2) = [assign tg X.env] := by rfl) : PS X (.Assign [tg] e pos) (tAsg te g) := by
  intro pins s σ H D I h
  refine wpAny_Assign_stores (thn (he pins s σ H _ I h) fun v s1 ⟨x, H1, I1, r1, q1⟩ => ?_) hs hw
  rw [h1]
  exact thn (hg pins s1 σ H1 x v _ I1 r1 q1) fun _ s2 q => q
/-- name = value -/
theorem ps_set {i : Nat} {x : Str} {e : Expr} {te : TE} {pos' : Pos} (hN : X.N.Nodup) (hi : X.N[i]? = some x) (hx : Loc X.env.scope x) (he : PE X e te) (hs : swapsWith e (some (.Name x pos')) pos.line X.env = pure false := by rfl) (hf : X.fn x = true ∨ X.env.scope.names.lookup x = some .local := by first | exact .inl rfl | exact .inr rfl | assumption) :
    PS X (.Assign [.Name x pos'] e pos) (tAsg te (gName i)) := by
  intro pins s σ H D I h
  refine wpAny_Assign_Name (thn (he pins s σ H _ I h) fun v s1 ⟨y, H1, I1, r1, q1⟩ => ?_) hs
  exact store_ok I1 hN hi hx r1 (fun s2 I2 => ⟨_, H1, I2, q1⟩) hf
/-- a, b = x, y with plain local names: stored from the right; the pair itself is not tracked (the opening rows as in PyProof/Rows/TupAssign.lean:23) -/
def tPar (i j : Nat) (ta : TA) : TS := fun D σ H => ta σ H fun vs H1 => ∃ v w, vs = [v, w] ∧ D.nx ((σ.set i (some v)).set j (some w)) H1
theorem ps_par {i j : Nat} {x y : Str} {a b : Expr} {ta : TA} {px py pt : Pos} {kt k2 pt2} (hc : X.calm = true) (hN : X.N.Nodup) (hi : X.N[i]? = some x) (hj : X.N[j]? = some y) (hij : i ≠ j)
    (hx : X.env.scope.names.lookup x = some .local) (hy : X.env.scope.names.lookup y = some .local) (ha : PA X [a, b] ta)
    (hw : swappedStores [.Tuple [.Name x px, .Name y py] kt pt] (.Tuple [a, b] k2 pt2) X.env = pure (some [x, y]))
    (hs : swapsWithSole [.Tuple [.Name x px, .Name y py] kt pt] (.Tuple [a, b] k2 pt2) pos.line X.env = pure false := by rfl) :
    PS X (.Assign [.Tuple [.Name x px, .Name y py] kt pt] (.Tuple [a, b] k2 pt2) pos) (tPar i j ta) := by
  intro pins s σ H D I h
  rw [exec_Assign_arm]
  refine wpAny_bind (wpAny_standAt ?_)
  rw [hs]
  refine wpAny_bind (wpAny_pure ?_)
  rw [if_neg (by decide)]
  refine wpAny_bind (Tuple_ (thn (ha _ pins s σ H _ I h) fun us s1 ⟨vs, H1, I1, r1, q1⟩ => ?_))
  obtain ⟨v, w, e1, q1⟩ := q1
  subst e1
  obtain ⟨u1, u2, rfl, rv, rw'⟩ : ∃ u1 u2, us = [u1, u2] ∧ RelV v u1 ∧ RelV w u2 := by
    cases r1 with
    | cons p q =>
      cases q with
      | cons p' q' =>
        cases q'
        exact ⟨_, _, rfl, p, p'⟩
  refine wpAny_newObj_type ?_ (by show 2 ≤ sizeLine; decide)
  have I2 : Inv X pins σ H1 { s1 with heap := s1.heap.push { cls := .type "tuple", data := .seq [u1, u2].toArray } } := I1.kept (t' := s1.toks) fun b o e => Heap.get?_push_of_some _ e
  rw [hw]
  refine wpAny_bind (wpAny_pure ?_)
  show wpAny (model X.prog X.w) X.A (do rule "assign.swapped-stores"; let items ← unpackItems (.ref s1.heap.objs.size) 2 none; assignInOrder [fun v => bindName X.env y v, fun v => bindName X.env x v] items.reverse; pure Flow.next) _ _ _
  refine wpAny_bind (wpAny_rule (wpAny_bind (unpackItems_tuple (items := #[u1, u2]) (I.ok.hd hc) (IsTup.new s1.heap _) fun h' hx' => ?_)))
  have I3 := I2.kept (h' := h') (t' := s1.toks) fun b o e => hx' b o (Nat.ne_of_lt (Heap.lt_size e)) e
  show wpAny _ _ (assignInOrder [fun v => bindName X.env y v, fun v => bindName X.env x v] [u2, u1] >>= fun _ => pure Flow.next) _ _ _
  refine wpAny_bind (assignInOrder_cons (wpAny_bindName (store_ok I3 hN hj (.inl hy) rw' (fun s2 I4 => ?_) (.inr hy))))
  refine assignInOrder_cons (wpAny_bindName (store_ok I4 hN hi (.inl hx) rv (fun s3 I5 => assignInOrder_nil (wpAny_pure ?_)) (.inr hx)))
  rw [List.set_comm _ _ (Ne.symm hij)] at I5
  exact ⟨_, H1, I5, q1⟩
/-- name op= e -/
def tAug (i : Nat) (te : TE) (ti : TIp) : TS := fun D σ H => ∃ x, σ[i]? = some (some x) ∧ te σ H fun y H1 => ti x y H1 fun z H2 => D.nx (σ.set i (some z)) H2
theorem ps_aug {i : Nat} {x : Str} {e : Expr} {te : TE} {op : Operator} {ti : TIp} {pos' : Pos} (hN : X.N.Nodup) (hi : X.N[i]? = some x) (hx : Loc X.env.scope x) (he : PE X e te) (ho : PIp X op ti) (hf : X.fn x = true ∨ X.env.scope.names.lookup x = some .local := by first | exact .inl rfl | exact .inr rfl | assumption) :
    PS X (.AugAssign (.Name x pos') op e pos) (tAug i te ti) := by
  intro pins s σ H D I h
  obtain ⟨v, e1, h⟩ := h
  obtain ⟨m, hn, hl⟩ := I.loc
  have vis : Vis X.env.scope x := by rcases hx with k | k; exact .inl k; exact .inr (.inl k)
  obtain ⟨u, r, l⟩ := hl i x v hi e1 vis
  refine wpAny_AugAssign_Name ?_
  have go : wpAny (model X.prog X.w) X.A (eval e X.env) (fun w s₂ => wpAny (model X.prog X.w) X.A (inplaceOp op u w) (fun r s₃ => wpAny (model X.prog X.w) X.A (storeName X.env x r) (fun _ => SP X pins D .next) X.xe s₃) X.xe s₂) X.xe s := by
    refine thn (he pins s σ H _ I h) fun w s1 ⟨y, H1, I1, r1, q1⟩ => ?_
    refine thn (ho pins s1 σ H1 v y u w _ I1 r r1 q1) fun z s2 ⟨zv, H2, I2, r2, q2⟩ => ?_
    exact store_ok I2 hN hi hx r2 (fun s3 I3 => ⟨_, H2, I3, q2⟩) hf
  rcases l with ⟨hk, hm⟩ | ⟨hk, c, hc, hcell⟩
  · exact wpAny_loadName_local I.ok.kind hk hn hm go
  · rcases hk with hk | hk
    · exact wpAny_loadName_cell I.ok.kind hk hc hcell go
    · rcases hx with k | k
      · have : X.env.scope.names.lookup x = some .free := hk
        rw [k] at this; cases this
      · have : X.env.scope.names.lookup x = some .free := hk
        rw [k] at this; cases this
/-- o[i] op= e -/
def tAugS (to ti te : TE) (tget : V → V → Hp → VK → Prop) (tip : TIp) (tset : TSet) : TS := fun D σ H => to σ H fun o H1 => ti σ H1 fun i H2 => tget o i H2 fun x H3 => te σ H3 fun y H4 => tip x y H4 fun z H5 => tset o i z H5 fun H6 => D.nx σ H6
/-- o[i], by values -/
def PGet (X : Cx) (t : V → V → Hp → VK → Prop) : Prop :=
  ∀ (pins : List (Addr × Obj)) (s : Shared) (σ : St) (H : Hp) (o i : V) (ov iv : Value) (Q : VK), Inv X pins σ H s → RelV o ov → RelV i iv → t o i H Q →
    wpAny (model X.prog X.w) X.A (getItem ov iv) (EP X pins σ Q) X.xe s
theorem ps_augS {o i e : Expr} {to ti te : TE} {tget : V → V → Hp → VK → Prop} {tip : TIp} {tset : TSet} {op : Operator} {tpos : Pos} (ho : PE X o to) (hi : PE X i ti) (hg : PGet X tget) (he : PE X e te) (hp : PIp X op tip) (hs : PSet X tset)
    (ha : ∀ ov iv new, augStore i ov iv new = (do holding [new, ov, iv] (setItem ov iv new); release [new, ov, iv] []; pure .next) := by intros; rfl) : PS X (.AugAssign (.Subscript o i tpos) op e pos) (tAugS to ti te tget tip tset) := by
  intro pins s σ H D I h
  refine wpAny_AugAssign_SubscriptAny (thn (ho pins s σ H _ I h) fun ov s1 ⟨x1, H1, I1, r1, q1⟩ => ?_) ha
  refine thn (hi pins s1 σ H1 _ I1 q1) fun iv s2 ⟨x2, H2, I2, r2, q2⟩ => ?_
  refine thn (hg pins s2 σ H2 x1 x2 ov iv _ I2 r1 r2 q2) fun old s3 ⟨x3, H3, I3, r3, q3⟩ => ?_
  refine thn (he pins s3 σ H3 _ I3 q3) fun v s4 ⟨x4, H4, I4, r4, q4⟩ => ?_
  refine thn (hp pins s4 σ H4 x3 x4 old v _ I4 r3 r4 q4) fun new s5 ⟨x5, H5, I5, r5, q5⟩ => ?_
  exact thn (hs pins s5 σ H5 x1 x2 x5 ov iv new _ I5 r1 r2 r5 q5) fun _ s6 ⟨H6, I6, q6⟩ => ⟨σ, H6, I6, q6⟩
/-- ints -/
def ipI (f : Int → Int → Int) : TIp := fun x y H Q => ∃ i j, x = .int i ∧ y = .int j ∧ Q (.int (f i j)) H
theorem ip_add : PIp X .Add (ipI fun i j => i + j) := by
  intro pins s σ H x y v u Q I r1 r2 h
  obtain ⟨i, j, e1, e2, q⟩ := h
  subst e1; subst e2
  obtain ⟨t, rfl⟩ := r1
  obtain ⟨t', rfl⟩ := r2
  exact iadd_int ⟨.int _, H, I.tok _, ⟨_, rfl⟩, q⟩
theorem ip_sub : PIp X .Sub (ipI fun i j => i - j) := by
  intro pins s σ H x y v u Q I r1 r2 h
  obtain ⟨i, j, e1, e2, q⟩ := h
  subst e1; subst e2
  obtain ⟨t, rfl⟩ := r1
  obtain ⟨t', rfl⟩ := r2
  exact isub_int ⟨.int _, H, I.tok _, ⟨_, rfl⟩, q⟩
end

/-! ### while -/
section
variable {X : Cx} {pos : Pos}
/-- the invariant W with its measure -/
def tWhile (c : TT) (tb : TS) : TS := fun D σ H => ∃ W : Nat → St → Hp → Prop, (∃ m, W m σ H) ∧ ∀ m σ H, W m σ H →
  c σ H fun b H1 => if b = true then ∃ N : St → Hp → Prop, (∀ σ' H', N σ' H' → ∃ m', m' < m ∧ W m' σ' H') ∧ tb { D with nx := N, ct := N, bk := D.nx } σ H1 else D.nx σ H1
theorem ps_while {c : Expr} {body : List Stmt} {tc : TT} {tb : TS} (hp : PassesOwn (model X.prog X.w) X.A X.env X.xe) (hc : PT X c tc) (hb : PSs X body tb) : PS X (.While c body [] pos) (tWhile tc tb) := by
  intro pins s σ H D I h
  obtain ⟨W, ⟨m0, w0⟩, turn⟩ := h
  refine wpAny_While (codeAny_whileLoop (fun n s' => ∃ σ' H', Inv X pins σ' H' s' ∧ W n σ' H') ?_ m0 ⟨σ, H, I, w0⟩)
  rintro n s1 ⟨σ1, H1, I1, w1⟩
  refine wpAny_passesOwn hp (thn (hc pins s1 σ1 H1 _ I1 (turn n σ1 H1 w1)) fun b s2 ⟨H2, I2, q2⟩ => ?_)
  cases b with
  | true =>
    obtain ⟨N, hN, q2⟩ := q2
    rw [if_pos rfl]
    refine wpAny_passesOwn hp (thn (hb pins s2 σ1 H2 _ I2 q2) fun f s3 q3 => ?_)
    cases f with
    | next =>
      obtain ⟨σ3, H3, I3, n3⟩ := q3
      obtain ⟨m', hm, w3⟩ := hN σ3 H3 n3
      exact ⟨m', hm, σ3, H3, I3, w3⟩
    | cont =>
      obtain ⟨σ3, H3, I3, n3⟩ := q3
      obtain ⟨m', hm, w3⟩ := hN σ3 H3 n3
      exact ⟨m', hm, σ3, H3, I3, w3⟩
    | brk => exact q3
    | ret v => exact q3
  | false =>
    rw [if_neg Bool.false_ne_true]
    exact wpAny_execs_nil ⟨σ1, H2, I2, q2⟩
end

/-! ### what a loop or a comprehension walks -/
/-- at turn i: it yields x (the heap may grow), or it stops -/
structure It where
  go : Nat → Hp → Prop
  yld : Nat → Hp → V → Hp → Prop
  stop : Nat → Hp → Prop
/-- the iterator's own objects may turn: they are not the frame's, not pinned, younger than the entry (or a comprehension's own) -/
def FpOk (X : Cx) (pins : List (Addr × Obj)) (H : Hp) (b : Addr) : Prop :=
  H b = none ∧ b ≠ X.env.locals ∧ b ∉ X.fs ∧ (b ∈ X.ex ∨ X.s₀.heap.objs.size ≤ b) ∧ (∀ x c, X.env.cells.lookup x = some c → c ≠ b) ∧ ∀ p ∈ X.pn ++ pins, p.1 ≠ b
theorem Inv.fpOk {X : Cx} {pins : List (Addr × Obj)} {σ : St} {H H' : Hp} {s : Shared} {b : Addr} (I : Inv X pins σ H s) (hb : s.heap.objs.size ≤ b) (hn : H' b = none) : FpOk X pins H' b := by
  refine ⟨hn, Nat.ne_of_gt (Nat.lt_of_lt_of_le I.lt hb), I.nofs hb, .inr (Nat.le_trans I.sz hb), fun x c e z => ?_, fun p hp z => ?_⟩
  · obtain ⟨v, q⟩ := I.cell x c e
    exact absurd (Nat.lt_of_lt_of_le q.lt (by rw [z]; exact hb)) (Nat.lt_irrefl _)
  · exact absurd (Nat.lt_of_lt_of_le (Heap.lt_size (I.pin p hp).1) (by rw [z]; exact hb)) (Nat.lt_irrefl _)
structure Turn (P : Program) (w : World) (K : PySem.W.Frag) (tg : Expr) (J : It) (fp : List Addr) (it : Addr) (tn : Nat → Heap → Prop) : Prop where
  mem : it ∈ fp
  obj : ∀ i h, tn i h → ∀ b ∈ fp, ∃ o, h.get? b = some o ∧ ∀ v, o.data ≠ .cell v
  keep : ∀ i h h', tn i h → (∀ b ∈ fp, ∀ o, h.get? b = some o → h'.get? b = some o) → tn i h'
  item : ∀ (X : Cx), X.prog = P → X.w = w → X.K = K → X.calm = true → ∀ (i : Nat) (pins : List (Addr × Obj)) (s : Shared) (σ : St) (H : Hp) (E : Value → Shared → Prop), Inv X pins σ H s → (∀ b ∈ fp, FpOk X pins H b) → tn i s.heap → J.go i H →
    wpAny (model P w) X.A (pyNext (.ref it)) (fun r s1 => ∃ u, r = some u ∧
      wpAny (model P w) X.A (letOwnedTupleGo tg (.ref it) u) (fun _ s2 => ∃ x H', Inv X pins σ H' s2 ∧ RelV x u ∧ J.yld i H x H' ∧ tn (i + 1) s2.heap ∧ ∀ b ∈ fp, H' b = none) E s1) E s
  done : ∀ (X : Cx), X.prog = P → X.w = w → X.K = K → X.calm = true → ∀ (i : Nat) (pins : List (Addr × Obj)) (s : Shared) (σ : St) (H : Hp) (E : Value → Shared → Prop), Inv X pins σ H s → (∀ b ∈ fp, FpOk X pins H b) → tn i s.heap → J.stop i H →
    wpAny (model P w) X.A (pyNext (.ref it)) (fun r s1 => r = none ∧ Inv X pins σ H s1) E s
  self : ∀ (A : Around) (i : Nat) (s : Shared) (Q : Value → Shared → Prop) (E : Value → Shared → Prop), tn i s.heap → Q (.ref it) s → wpAny (model P w) A (pyIter (.ref it)) Q E s
abbrev TI := St → Hp → (It → Hp → Prop) → Prop
/-- an iterator has come -/
def PIE (X : Cx) (pins : List (Addr × Obj)) (σ : St) (tg : Expr) (R : It → Hp → Prop) (itv : Value) (s2 : Shared) : Prop :=
  ∃ (it : Addr) (fp : List Addr) (tn : Nat → Heap → Prop) (J : It) (H' : Hp), itv = .ref it ∧ Inv X pins σ H' s2 ∧ Turn X.prog X.w X.K tg J fp it tn ∧ tn 0 s2.heap ∧ (∀ b ∈ fp, FpOk X pins H' b) ∧ R J H'
def PI (X : Cx) (tg iter : Expr) (wi : TI) : Prop :=
  ∀ (pins : List (Addr × Obj)) (s : Shared) (σ : St) (H : Hp) (R : It → Hp → Prop), Inv X pins σ H s → wi σ H R →
    wpAny (model X.prog X.w) X.A (eval iter X.env) (fun v s1 => wpAny (model X.prog X.w) X.A (pyIter v) (PIE X pins σ tg R) X.xe s1) X.xe s

/-- the step ahead of the store is nothing for an iterator that keeps no tuple -/
theorem go_of {M : Model} {A : Around} {E : Value → Shared → Prop} {s : Shared} {tg : Expr} {it : Addr} {u : Value} {o : Obj} {n : String} {vs : Array Value} {Q : Unit → Shared → Prop} (ho : s.heap.get? it = some o) (hc : o.cls = .type n) (hd : o.data = .fields vs)
    (hn : ["enumerate", "zip", "dict_itemiterator", "dict_reverseitemiterator", "odict_iterator", "itertools.zip_longest", "itertools.pairwise"].contains n = false) (hQ : Q () s) : wpAny M A (letOwnedTupleGo tg (.ref it) u) Q E s := by
  unfold letOwnedTupleGo
  cases tg <;> first
    | exact wpAny_pure hQ
    | (cases u <;> first
        | exact wpAny_pure hQ
        | (refine wpAny_bind (wpAny_load ho ?_)
           rw [hc, hd]
           show wpAny M A (if (["enumerate", "zip", "dict_itemiterator", "dict_reverseitemiterator", "odict_iterator", "itertools.zip_longest", "itertools.pairwise"].contains n && vs[0]? == some (rawInt _)) = true then _ else _) Q E s
           rw [if_neg (by intro h; rw [hn, Bool.false_and] at h; cases h)]
           exact wpAny_pure hQ))

/-- the list at a, as it stands at each turn (a loop may append to it) -/
def Itl (K : PySem.W.Frag) (a : Addr) : It :=
  ⟨fun i H => ∃ xs x, SqL K H a xs ∧ xs[i]? = some x, fun i H x H' => H' = H ∧ ∀ xs, SqL K H a xs → xs[i]? = some x, fun i H => ∃ xs, SqL K H a xs ∧ xs.length ≤ i⟩
def Itt (K : PySem.W.Frag) (a : Addr) : It :=
  ⟨fun i H => ∃ xs x, SqT K H a xs ∧ xs[i]? = some x, fun i H x H' => H' = H ∧ ∀ xs, SqT K H a xs → xs[i]? = some x, fun i H => ∃ xs, SqT K H a xs ∧ xs.length ≤ i⟩
/-- lo, lo + 1, .. (n of them) -/
def Itr (lo : Int) (n : Nat) : It := ⟨fun i _ => i < n, fun i H x H' => H' = H ∧ x = .int (lo + i), fun i _ => n ≤ i⟩
theorem turn_list {P : Program} {w : World} {K : PySem.W.Frag} {tg : Expr} (a it : Addr) : Turn P w K tg (Itl K a) [it] it (fun i h => h.IsListIter it a i) where
  mem := by simp
  obj := fun i h st b hb => by
    have e : b = it := by simpa using hb
    subst e
    obtain ⟨o, e, c, d⟩ := st
    exact ⟨o, e, fun v z => by rw [d] at z; cases z⟩
  keep := fun i h h' st k => st.at fun o e => k it (by simp) o e
  item := by
    intro X hP hw hK hc i pins s σ H E I hf st hg
    subst hP hw hK
    obtain ⟨xs, x, hq, hx⟩ := hg
    obtain ⟨its, rv, p, hz⟩ := I.list hq
    obtain ⟨u, hu, ru⟩ := rv.get hx
    obtain ⟨f0, f1, f2, f3, f4, f5⟩ := hf it (by simp)
    refine wpAny_pyNext_list_item st p.isList (x := u) (by simpa using hu) fun h' st' sb => ?_
    have I1 : Inv X pins σ H { s with heap := h' } := I.turned (t' := s.toks) (fun b o hb e => (sb.2 b hb).trans e) f0 f1 f3 f4 f5
    obtain ⟨o, e, c, d⟩ := id st'
    exact ⟨u, rfl, go_of (s := { s with heap := h' }) e c d (by decide) ⟨x, H, I1, ru, ⟨rfl, fun ys hy => by rw [I.list_inj hy hq]; exact hx⟩, st', fun b hb => (hf b hb).1⟩⟩
  done := by
    intro X hP hw hK hc i pins s σ H E I hf st hg
    subst hP hw hK
    obtain ⟨xs, hq, hx⟩ := hg
    obtain ⟨its, rv, p, hz⟩ := I.list hq
    obtain ⟨f0, f1, f2, f3, f4, f5⟩ := hf it (by simp)
    have hl := rv.length
    exact wpAny_pyNext_list_end (I.ok.hd hc) st p.isList (by simp; omega) fun h' eb => ⟨rfl, I.turned (t' := s.toks) (fun b o hb e => eb b o hb e) f0 f1 f3 f4 f5⟩
  self := fun _ _ _ _ _ st h => wpAny_pyIter_listiter st h
theorem turn_tuple {P : Program} {w : World} {K : PySem.W.Frag} {tg : Expr} (a it : Addr) : Turn P w K tg (Itt K a) [it] it (fun i h => h.IsTupleIter it a i) where
  mem := by simp
  obj := fun i h st b hb => by
    have e : b = it := by simpa using hb
    subst e
    obtain ⟨o, e, c, d⟩ := st
    exact ⟨o, e, fun v z => by rw [d] at z; cases z⟩
  keep := fun i h h' st k => st.at fun o e => k it (by simp) o e
  item := by
    intro X hP hw hK hc i pins s σ H E I hf st hg
    subst hP hw hK
    obtain ⟨xs, x, hq, hx⟩ := hg
    obtain ⟨its, rv, p, hz⟩ := I.tuple hq
    obtain ⟨u, hu, ru⟩ := rv.get hx
    obtain ⟨f0, f1, f2, f3, f4, f5⟩ := hf it (by simp)
    refine wpAny_pyNext_tuple_item st (show s.heap.IsTuple a its.toArray from p) (x := u) (by simpa using hu) fun h' st' sb => ?_
    have I1 : Inv X pins σ H { s with heap := h' } := I.turned (t' := s.toks) (fun b o hb e => (sb.2 b hb).trans e) f0 f1 f3 f4 f5
    obtain ⟨o, e, c, d⟩ := id st'
    exact ⟨u, rfl, go_of (s := { s with heap := h' }) e c d (by decide) ⟨x, H, I1, ru, ⟨rfl, fun ys hy => by rw [I.tuple_inj hy hq]; exact hx⟩, st', fun b hb => (hf b hb).1⟩⟩
  done := by
    intro X hP hw hK hc i pins s σ H E I hf st hg
    subst hP hw hK
    obtain ⟨xs, hq, hx⟩ := hg
    obtain ⟨its, rv, p, hz⟩ := I.tuple hq
    obtain ⟨f0, f1, f2, f3, f4, f5⟩ := hf it (by simp)
    have hl := rv.length
    exact wpAny_pyNext_tuple_end (I.ok.hd hc) st (show s.heap.IsTuple a its.toArray from p) (by simp; omega) fun h' eb => ⟨rfl, I.turned (t' := s.toks) (fun b o hb e => eb b o hb e) f0 f1 f3 f4 f5⟩
  self := fun _ _ _ _ _ st h => wpAny_pyIter_tupleiter st h
theorem turn_range {P : Program} {w : World} {K : PySem.W.Frag} {tg : Expr} (it : Addr) (lo : Int) (n : Nat) : Turn P w K tg (Itr lo n) [it] it (fun i h => IsRangeIter h it (lo + (i : Nat) * 1) ((n : Int) - (i : Nat)) 1) where
  mem := by simp
  obj := fun i h st b hb => by
    have e : b = it := by simpa using hb
    subst e
    exact ⟨_, st, fun v z => by
      have z' : Data.fields _ = Data.cell v := z
      cases z'⟩
  keep := fun i h h' st k => k it (by simp) _ st
  item := by
    intro X hP hw hK hc i pins s σ H E I hf st hg
    subst hP hw hK
    obtain ⟨f0, f1, f2, f3, f4, f5⟩ := hf it (by simp)
    have W := Walks.range (prog := X.prog) (w := X.w) (I.ok.hd hc) it lo 1 n
    refine W.item i s _ _ hg st fun v h' tk hv st' kk => ?_
    obtain ⟨t, rfl⟩ := hv
    have I1 : Inv X pins σ H { s with heap := h', toks := tk } := I.turned (fun b o hb e => kk b o (by simpa using hb) e) f0 f1 f3 f4 f5
    refine ⟨_, rfl, go_of (s := { s with heap := h', toks := tk }) (n := "range_iterator") st' rfl rfl (by decide) ⟨.int (lo + i), H, I1, ⟨t, ?_⟩, ⟨rfl, rfl⟩, st', fun b hb => (hf b hb).1⟩⟩
    rw [Int.mul_one]
  done := by
    intro X hP hw hK hc i pins s σ H E I hf st hg
    subst hP hw hK
    obtain ⟨f0, f1, f2, f3, f4, f5⟩ := hf it (by simp)
    exact wpAny_pyNext_range_end (I.ok.hd hc) st (by have : n ≤ i := hg; omega) fun h' eb => ⟨rfl, I.turned (t' := s.toks) (fun b o hb e => eb b o hb e) f0 f1 f3 f4 f5⟩
  self := fun _ _ _ _ _ st h => wpAny_pyIter_rangeiter st h
end L2

namespace L2
open PySem PySem.Spec PyProof.Rows
section
variable {X : Cx} {tg : Expr}
def iList (K : PySem.W.Frag) (tl : TE) : TI := fun σ H R => tl σ H fun x H1 => ∃ a, x = .ref a ∧ (∃ xs, SqL K H1 a xs) ∧ R (Itl K a) H1
def iTup (K : PySem.W.Frag) (tl : TE) : TI := fun σ H R => tl σ H fun x H1 => ∃ a, x = .ref a ∧ (∃ xs, SqT K H1 a xs) ∧ R (Itt K a) H1
theorem pi_list {l : Expr} {tl : TE} (hl : PE X l tl) : PI X tg l (iList X.K tl) := by
  intro pins s σ H R I h
  refine thn (hl pins s σ H _ I h) fun v s1 ⟨x, H1, I1, r1, q1⟩ => ?_
  obtain ⟨a, e, ⟨xs, hq⟩, q⟩ := q1
  subst e
  cases r1
  obtain ⟨its, rv, p, hz⟩ := I1.list hq
  refine wpAny_pyIter_list p.isList ?_
  refine ⟨s1.heap.objs.size, [s1.heap.objs.size], _, _, H1, rfl, I1.kept (t' := s1.toks) fun b o e => Heap.get?_push_of_some _ e, turn_list a _, ⟨_, Heap.get?_push_size _ rfl, rfl, rfl⟩, fun b hb => ?_, q⟩
  have e : b = s1.heap.objs.size := by simpa using hb
  subst e
  exact I1.fpOk (Nat.le_refl _) (I1.hok.fresh (Nat.le_refl _))
theorem pi_tup {l : Expr} {tl : TE} (hl : PE X l tl) : PI X tg l (iTup X.K tl) := by
  intro pins s σ H R I h
  refine thn (hl pins s σ H _ I h) fun v s1 ⟨x, H1, I1, r1, q1⟩ => ?_
  obtain ⟨a, e, ⟨xs, hq⟩, q⟩ := q1
  subst e
  cases r1
  obtain ⟨its, rv, p, hz⟩ := I1.tuple hq
  refine wpAny_pyIter_tuple (show s1.heap.IsTuple a its.toArray from p) ?_
  refine ⟨s1.heap.objs.size, [s1.heap.objs.size], _, _, H1, rfl, I1.kept (t' := s1.toks) fun b o e => Heap.get?_push_of_some _ e, turn_tuple a _, ⟨_, Heap.get?_push_size _ rfl, rfl, rfl⟩, fun b hb => ?_, q⟩
  have e : b = s1.heap.objs.size := by simpa using hb
  subst e
  exact I1.fpOk (Nat.le_refl _) (I1.hok.fresh (Nat.le_refl _))
/-- a range object just made, walked -/
theorem range_it {pins : List (Addr × Obj)} {σ : St} {H : Hp} {s : Shared} {R : It → Hp → Prop} {E : Value → Shared → Prop} {lo hi : Int} {t u v : Tok} {tk : Nat} (I : Inv X pins σ H s) (h1 : -(2 ^ 62) ≤ lo) (h2 : lo < 2 ^ 62) (h3 : -(2 ^ 62) ≤ hi) (h4 : hi < 2 ^ 62)
    (q : R (Itr lo (hi - lo).toNat) H) : wpAny (model X.prog X.w) X.A (pyIter (.ref s.heap.objs.size)) (PIE X pins σ tg R) E { s with heap := s.heap.push { cls := .type "range", data := .fields #[.int lo t, .int hi u, .int 1 v] }, toks := tk } := by
  refine wpAny_pyIter_range (IsRange.new ..) (small_one h1 h2 h3 h4) ?_
  have I1 : Inv X pins σ H { s with heap := s.heap.push { cls := .type "range", data := .fields #[.int lo t, .int hi u, .int 1 v] }, toks := tk } := I.kept fun b o e => Heap.get?_push_of_some _ e
  refine ⟨(s.heap.push { cls := .type "range", data := .fields #[.int lo t, .int hi u, .int 1 v] }).objs.size, [(s.heap.push { cls := .type "range", data := .fields #[.int lo t, .int hi u, .int 1 v] }).objs.size], _, _, H, rfl,
    I1.kept (t' := tk) fun b o e => Heap.get?_push_of_some _ e, turn_range _ lo (hi - lo).toNat, ?_, fun b hb => ?_, q⟩
  · have e1 : lo + ((0 : Nat) : Int) * 1 = lo := by simp
    have e2 : (((hi - lo).toNat : Nat) : Int) - ((0 : Nat) : Int) = Builtin.Range.rangeSize lo hi 1 := by rw [rangeSize_one]; split <;> omega
    show IsRangeIter _ _ (lo + ((0 : Nat) : Int) * 1) ((((hi - lo).toNat : Nat) : Int) - ((0 : Nat) : Int)) 1
    rw [e1, e2]
    exact Heap.get?_push_size _ rfl
  · have e : b = (s.heap.push { cls := .type "range", data := .fields #[.int lo t, .int hi u, .int 1 v] }).objs.size := by simpa using hb
    subst e
    exact I1.fpOk (Nat.le_refl _) (I1.hok.fresh (Nat.le_refl _))
def iRng1 (ta : TA) : TI := fun σ H R => ta σ H fun vs H1 => ∃ j : Int, vs = [.int j] ∧ -(2 ^ 62) ≤ j ∧ j < 2 ^ 62 ∧ R (Itr 0 j.toNat) H1
def iRng2 (ta : TA) : TI := fun σ H R => ta σ H fun vs H1 => ∃ i j : Int, vs = [.int i, .int j] ∧ (-(2 ^ 62) ≤ i ∧ i < 2 ^ 62 ∧ -(2 ^ 62) ≤ j ∧ j < 2 ^ 62) ∧ R (Itr i (j - i).toNat) H1
theorem pi_range1 {a : Expr} {ta : TA} {p pos : Pos} (hg : Gl X "range") (hm : X.mg "range" = none) (ha : PA X [a] ta) (hs : starEach [a] X.env = [(false, eval a X.env)] := by rfl) : PI X tg (.Call (.Name "range" p) [a] [] pos) (iRng1 ta) := by
  intro pins s σ H R I h
  refine Call_ (ld_blt I hg hm boot_range (PyProof.Rows.callWith_type1 (thn (ha pos pins s σ H _ I h) fun us s1 ⟨vs, H1, I1, r1, q1⟩ => ?_) hs rfl))
  obtain ⟨j, e, q1, q2, q⟩ := q1
  subst e
  cases r1 with
  | cons r rr =>
    cases rr
    obtain ⟨t, rfl⟩ := r
    exact call_range_1 (range_it I1 (by omega) (by omega) q1 q2 (by simpa using q))
theorem pi_range2 {a b : Expr} {ta : TA} {p pos : Pos} (hg : Gl X "range") (hm : X.mg "range" = none) (ha : PA X [a, b] ta) (hs : starEach [a, b] X.env = [(false, eval a X.env), (false, eval b X.env)] := by rfl) (hs2 : starEach [b] X.env = [(false, eval b X.env)] := by rfl) :
    PI X tg (.Call (.Name "range" p) [a, b] [] pos) (iRng2 ta) := by
  intro pins s σ H R I h
  refine Call_ (ld_blt I hg hm boot_range (PyProof.Rows.callWith_type1 (thn (ha pos pins s σ H _ I h) fun us s1 ⟨vs, H1, I1, r1, q1⟩ => ?_) (by rw [hs, hs2]) (by rw [hs2]; rfl)))
  obtain ⟨i, j, e, ⟨q1, q2, q3, q4⟩, q⟩ := q1
  subst e
  cases r1 with
  | cons r rr =>
    cases rr with
    | cons r' rr =>
      cases rr
      obtain ⟨t, rfl⟩ := r
      obtain ⟨t', rfl⟩ := r'
      exact call_range_2 (range_it I1 q1 q2 q3 q4 q)

/-! ### for -/
/-- W: the invariant by the turn and a measure; N: what the body is to reach -/
def tFor (wi : TI) (g : TG) (tb : TS) : TS := fun D σ H => wi σ H fun J H1 => ∃ W : Nat → Nat → St → Hp → Prop, (∃ m, W 0 m σ H1) ∧ ∀ i m σ H, W i m σ H →
  (J.stop i H ∧ D.nx σ H) ∨ (J.go i H ∧ ∃ N : St → Hp → Prop, (∀ σ' H', N σ' H' → ∃ m', m' < m ∧ W (i + 1) m' σ' H') ∧ ∀ x H', J.yld i H x H' → g x σ H' fun σ2 H2 => tb { D with nx := N, ct := N, bk := D.nx } σ2 H2)
/-- the records at fp as they stand -/
def pinsAt (fp : List Addr) (h : Heap) : List (Addr × Obj) := fp.filterMap fun b => (h.get? b).map fun o => (b, o)
theorem mem_pinsAt {fp : List Addr} {h : Heap} {b : Addr} {o : Obj} (hb : b ∈ fp) (e : h.get? b = some o) : (b, o) ∈ pinsAt fp h := List.mem_filterMap.mpr ⟨b, hb, by rw [e]; rfl⟩
theorem of_pinsAt {fp : List Addr} {h : Heap} {p : Addr × Obj} (hp : p ∈ pinsAt fp h) : p.1 ∈ fp ∧ h.get? p.1 = some p.2 := by
  obtain ⟨b, hb, e⟩ := List.mem_filterMap.mp hp
  cases q : h.get? b with
  | none => rw [q] at e; cases e
  | some o =>
    rw [q] at e
    have e' : (b, o) = p := Option.some.inj e
    subst e'
    exact ⟨hb, q⟩
theorem Inv.pinned {pins : List (Addr × Obj)} {σ : St} {H : Hp} {s : Shared} {fp : List Addr} (I : Inv X pins σ H s) (hf : ∀ b ∈ fp, FpOk X pins H b) (ho : ∀ b ∈ fp, ∃ o, s.heap.get? b = some o ∧ ∀ v, o.data ≠ .cell v) : Inv X (pins ++ pinsAt fp s.heap) σ H s :=
  I.pins_of fun p hp => (List.mem_append.mp hp).elim (fun z => I.pin p (List.mem_append_right _ z)) fun z => by
    obtain ⟨hb, e⟩ := of_pinsAt z
    obtain ⟨f0, f1, f2, _⟩ := hf p.1 hb
    obtain ⟨o, e', d⟩ := ho p.1 hb
    rw [e] at e'; cases e'
    exact ⟨e, f0, f1, f2, d⟩
theorem Inv.unpinned {pins pl : List (Addr × Obj)} {σ : St} {H : Hp} {s : Shared} (I : Inv X (pins ++ pl) σ H s) : Inv X pins σ H s := I.pins_of fun p hp => I.pin p (List.mem_append_right _ (List.mem_append_left _ hp))
theorem ps_for {iter : Expr} {body : List Stmt} {wi : TI} {g : TG} {tb : TS} {pos : Pos} (hp : PassesOwn (model X.prog X.w) X.A X.env X.xe) (hc : X.calm = true) (hi : PI X tg iter wi) (hg : PG X tg g) (hb : PSs X body tb)
    (hs : ∀ x, foldedSetIterable iter X.env x = pure x := by intro _; rfl) : PS X (.For tg iter body [] pos) (tFor wi g tb) := by
  intro pins s σ H D I h
  refine wpAny_For (thn (hi pins s σ H _ I h) fun v s1 h1 => thn h1 fun itv s2 h2 => ?_) hs
  obtain ⟨it, fp, tn, J, H2, e, I2, T, st2, f2, W, ⟨m0, w0⟩, turn⟩ := h2
  subst e
  -- what stays true of the iterator's objects through the loop
  have stat : ∀ {H' : Hp}, (∀ b ∈ fp, H' b = none) → ∀ b ∈ fp, FpOk X pins H' b := fun hn b hb => ⟨hn b hb, (f2 b hb).2⟩
  refine codeAny_forLoop_any (fun n s' => ∃ i σ' H', Inv X pins σ' H' s' ∧ tn i s'.heap ∧ (∀ b ∈ fp, H' b = none) ∧ W i n σ' H') ?_ m0 ⟨0, σ, H2, I2, st2, fun b hb => (f2 b hb).1, w0⟩
  rintro n s3 ⟨i, σ3, H3, I3, st3, fr3, w3⟩
  rcases turn i n σ3 H3 w3 with ⟨stop, qn⟩ | ⟨go, N, hN, step⟩
  · refine wpAny_passesOwn hp (thn (T.done X rfl rfl rfl hc i pins s3 σ3 H3 X.xe I3 (stat fr3) st3 stop) fun r s4 ⟨hr, I4⟩ => ?_)
    subst hr
    exact wpAny_execs_nil ⟨σ3, H3, I4, qn⟩
  · refine wpAny_passesOwn hp (thn (T.item X rfl rfl rfl hc i pins s3 σ3 H3 X.xe I3 (stat fr3) st3 go) fun r s4 ⟨u, hr, h4⟩ => ?_)
    subst hr
    refine wpAny_passesOwn hp (thn h4 fun _ s5 ⟨x, H5, I5, r5, y5, st5, fr5⟩ => ?_)
    have I5' := I5.pinned (stat fr5) (T.obj _ _ st5)
    refine wpAny_passesOwn hp (thn (hg _ s5 σ3 H5 x u _ I5' r5 (step x H5 y5)) fun _ s6 ⟨σ6, H6, I6, q6⟩ => ?_)
    refine wpAny_passesOwn hp (thn (hb _ s6 σ6 H6 _ I6 q6) fun f s7 q7 => ?_)
    have again : ∀ {σ7 : St} {H7 : Hp}, Inv X (pins ++ pinsAt fp s5.heap) σ7 H7 s7 → N σ7 H7 → ∃ m, m < n ∧ ∃ i σ' H', Inv X pins σ' H' s7 ∧ tn i s7.heap ∧ (∀ b ∈ fp, H' b = none) ∧ W i m σ' H' := fun {σ7 H7} I7 n7 => by
      obtain ⟨m', hm, w7⟩ := hN σ7 H7 n7
      refine ⟨m', hm, i + 1, σ7, H7, I7.unpinned, T.keep _ _ _ st5 fun b hb o e => (I7.pin (b, o) (List.mem_append_right _ (List.mem_append_right _ (mem_pinsAt hb e)))).1, fun b hb => ?_, w7⟩
      obtain ⟨o, e, d⟩ := T.obj _ _ st5 b hb
      exact (I7.pin (b, o) (List.mem_append_right _ (List.mem_append_right _ (mem_pinsAt hb e)))).2.1
    cases f with
    | next => obtain ⟨σ7, H7, I7, n7⟩ := q7; exact again I7 n7
    | cont => obtain ⟨σ7, H7, I7, n7⟩ := q7; exact again I7 n7
    | brk => obtain ⟨σ7, H7, I7, q7⟩ := q7; exact ⟨σ7, H7, I7.unpinned, q7⟩
    | ret v => obtain ⟨x7, σ7, H7, I7, r7, q7⟩ := q7; exact ⟨x7, σ7, H7, I7.unpinned, r7, q7⟩
end

/-! ### the forms one uses -/
/-- over a list that the body leaves as it is -/
theorem for_list {K : PySem.W.Frag} {a : Addr} {xs : List V} {g : TG} {tb : TS} {D : Ends} {σ : St} {H : Hp} (Pv : Nat → St → Hp → Prop) (h0 : Pv 0 σ H) (hl : ∀ i σ H, i ≤ xs.length → Pv i σ H → SqL K H a xs)
    (hs : ∀ i x σ H, xs[i]? = some x → Pv i σ H → g x σ H fun σ2 H2 => tb { D with nx := Pv (i + 1), ct := Pv (i + 1), bk := D.nx } σ2 H2) (hd : ∀ σ H, Pv xs.length σ H → D.nx σ H) :
    ∃ W : Nat → Nat → St → Hp → Prop, (∃ m, W 0 m σ H) ∧ ∀ i m σ H, W i m σ H →
      ((Itl K a).stop i H ∧ D.nx σ H) ∨ ((Itl K a).go i H ∧ ∃ N : St → Hp → Prop, (∀ σ' H', N σ' H' → ∃ m', m' < m ∧ W (i + 1) m' σ' H') ∧ ∀ x H', (Itl K a).yld i H x H' → g x σ H' fun σ2 H2 => tb { D with nx := N, ct := N, bk := D.nx } σ2 H2) := by
  refine ⟨fun i m σ H => m = xs.length - i ∧ i ≤ xs.length ∧ Pv i σ H, ⟨xs.length, by simp, Nat.zero_le _, h0⟩, ?_⟩
  rintro i m σ H ⟨rfl, hi, p⟩
  have q := hl i σ H hi p
  by_cases hlt : i < xs.length
  · refine .inr ⟨⟨xs, xs[i], q, by simp [hlt]⟩, Pv (i + 1), fun σ' H' p' => ⟨xs.length - (i + 1), by omega, rfl, hlt, p'⟩, fun x H' y => ?_⟩
    obtain ⟨e, y⟩ := y
    subst e
    exact hs i x σ _ (y xs q) p
  · have e : i = xs.length := by omega
    subst e
    exact .inl ⟨⟨xs, q, Nat.le_refl _⟩, hd σ H p⟩
theorem for_tup {K : PySem.W.Frag} {a : Addr} {xs : List V} {g : TG} {tb : TS} {D : Ends} {σ : St} {H : Hp} (Pv : Nat → St → Hp → Prop) (h0 : Pv 0 σ H) (hl : ∀ i σ H, i ≤ xs.length → Pv i σ H → SqT K H a xs)
    (hs : ∀ i x σ H, xs[i]? = some x → Pv i σ H → g x σ H fun σ2 H2 => tb { D with nx := Pv (i + 1), ct := Pv (i + 1), bk := D.nx } σ2 H2) (hd : ∀ σ H, Pv xs.length σ H → D.nx σ H) :
    ∃ W : Nat → Nat → St → Hp → Prop, (∃ m, W 0 m σ H) ∧ ∀ i m σ H, W i m σ H →
      ((Itt K a).stop i H ∧ D.nx σ H) ∨ ((Itt K a).go i H ∧ ∃ N : St → Hp → Prop, (∀ σ' H', N σ' H' → ∃ m', m' < m ∧ W (i + 1) m' σ' H') ∧ ∀ x H', (Itt K a).yld i H x H' → g x σ H' fun σ2 H2 => tb { D with nx := N, ct := N, bk := D.nx } σ2 H2) := by
  refine ⟨fun i m σ H => m = xs.length - i ∧ i ≤ xs.length ∧ Pv i σ H, ⟨xs.length, by simp, Nat.zero_le _, h0⟩, ?_⟩
  rintro i m σ H ⟨rfl, hi, p⟩
  have q := hl i σ H hi p
  by_cases hlt : i < xs.length
  · refine .inr ⟨⟨xs, xs[i], q, by simp [hlt]⟩, Pv (i + 1), fun σ' H' p' => ⟨xs.length - (i + 1), by omega, rfl, hlt, p'⟩, fun x H' y => ?_⟩
    obtain ⟨e, y⟩ := y
    subst e
    exact hs i x σ _ (y xs q) p
  · have e : i = xs.length := by omega
    subst e
    exact .inl ⟨⟨xs, q, Nat.le_refl _⟩, hd σ H p⟩
theorem for_range {lo : Int} {n : Nat} {g : TG} {tb : TS} {D : Ends} {σ : St} {H : Hp} (Pv : Nat → St → Hp → Prop) (h0 : Pv 0 σ H)
    (hs : ∀ i σ H, i < n → Pv i σ H → g (.int (lo + i)) σ H fun σ2 H2 => tb { D with nx := Pv (i + 1), ct := Pv (i + 1), bk := D.nx } σ2 H2) (hd : ∀ σ H, Pv n σ H → D.nx σ H) :
    ∃ W : Nat → Nat → St → Hp → Prop, (∃ m, W 0 m σ H) ∧ ∀ i m σ H, W i m σ H →
      ((Itr lo n).stop i H ∧ D.nx σ H) ∨ ((Itr lo n).go i H ∧ ∃ N : St → Hp → Prop, (∀ σ' H', N σ' H' → ∃ m', m' < m ∧ W (i + 1) m' σ' H') ∧ ∀ x H', (Itr lo n).yld i H x H' → g x σ H' fun σ2 H2 => tb { D with nx := N, ct := N, bk := D.nx } σ2 H2) := by
  refine ⟨fun i m σ H => m = n - i ∧ i ≤ n ∧ Pv i σ H, ⟨n, by simp, Nat.zero_le _, h0⟩, ?_⟩
  rintro i m σ H ⟨rfl, hi, p⟩
  by_cases hlt : i < n
  · refine .inr ⟨hlt, Pv (i + 1), fun σ' H' p' => ⟨n - (i + 1), by omega, rfl, hlt, p'⟩, fun x H' y => ?_⟩
    obtain ⟨e, y⟩ := y
    subst e y
    exact hs i σ _ hlt p
  · have e : i = n := by omega
    subst e
    exact .inl ⟨Nat.le_refl _, hd σ H p⟩
/-- while, by a word and a measure of the state -/
theorem while_by {c : TT} {tb : TS} {D : Ends} {σ : St} {H : Hp} (Pv : St → Hp → Prop) (μ : St → Hp → Nat) (h0 : Pv σ H)
    (hs : ∀ σ H, Pv σ H → c σ H fun b H1 => if b = true then tb { D with nx := fun σ' H' => Pv σ' H' ∧ μ σ' H' < μ σ H, ct := fun σ' H' => Pv σ' H' ∧ μ σ' H' < μ σ H, bk := D.nx } σ H1 else D.nx σ H1)
    (mono : ∀ σ H Q Q', (∀ b H1, Q b H1 → Q' b H1) → c σ H Q → c σ H Q') : tWhile c tb D σ H := by
  refine ⟨fun m σ H => m = μ σ H ∧ Pv σ H, ⟨_, rfl, h0⟩, ?_⟩
  rintro m σ H ⟨rfl, p⟩
  refine mono σ H _ _ (fun b H1 q => ?_) (hs σ H p)
  cases b with
  | true => exact ⟨_, fun σ' H' ⟨p', l⟩ => ⟨_, l, rfl, p'⟩, q⟩
  | false => exact q
end L2

namespace L2
open PySem PySem.Spec PyProof.Rows

abbrev R2 := V → V → Hp → VK → Prop
/-- a two-place operation on values: f is binaryOp op, inplaceOp op or compareOp op -/
def OpR (X : Cx) (f : Value → Value → Sem Value) (r : R2) : Prop :=
  ∀ (pins : List (Addr × Obj)) (s : Shared) (σ : St) (H : Hp) (x y : V) (v u : Value) (Q : VK), Inv X pins σ H s → RelV x v → RelV y u → r x y H Q →
    wpAny (model X.prog X.w) X.A (f v u) (EP X pins σ Q) X.xe s
/-- a one-place operation -/
def UnR (X : Cx) (f : Value → Sem Value) (r : V → Hp → VK → Prop) : Prop :=
  ∀ (pins : List (Addr × Obj)) (s : Shared) (σ : St) (H : Hp) (x : V) (v : Value) (Q : VK), Inv X pins σ H s → RelV x v → r x H Q →
    wpAny (model X.prog X.w) X.A (f v) (EP X pins σ Q) X.xe s
/-- a call of a value that is known (a builtin, a type) with values -/
def CallR (X : Cx) (f : Value) (r : List V → Hp → VK → Prop) : Prop :=
  ∀ (pins : List (Addr × Obj)) (s : Shared) (σ : St) (H : Hp) (xs : List V) (us : List Value) (Q : VK), Inv X pins σ H s → Vals xs us → r xs H Q →
    wpAny (model X.prog X.w) X.A (call f us) (EP X pins σ Q) X.xe s
/-- a value's truth -/
def TruR (X : Cx) (r : V → Hp → (Bool → Hp → Prop) → Prop) : Prop :=
  ∀ (pins : List (Addr × Obj)) (s : Shared) (σ : St) (H : Hp) (x : V) (v : Value) (Q : Bool → Hp → Prop), Inv X pins σ H s → RelV x v → r x H Q →
    wpAny (model X.prog X.w) X.A (truthy v) (TP X pins σ Q) X.xe s

def tOp (r : R2) (ta tb : TE) : TE := fun σ H Q => ta σ H fun x H1 => tb σ H1 fun y H2 => r x y H2 Q
def tUn (r : V → Hp → VK → Prop) (ta : TE) : TE := fun σ H Q => ta σ H fun x H1 => r x H1 Q
/-- ints in, under C, and a value out -/
def rI (C : Int → Int → Prop) (g : Int → Int → V) : R2 := fun x y H Q => ∃ i j, x = .int i ∧ y = .int j ∧ C i j ∧ Q (g i j) H
def rI0 (g : Int → Int → V) : R2 := fun x y H Q => ∃ i j, x = .int i ∧ y = .int j ∧ Q (g i j) H
def rU (g : Int → V) : V → Hp → VK → Prop := fun x H Q => ∃ i, x = .int i ∧ Q (g i) H

section
variable {X : Cx} {a b c : Expr} {ta tb tc : TE} {pos : Pos}

theorem binT (ha : PE X a ta) (hb : PE X b tb) {pins : List (Addr × Obj)} {s : Shared} {σ : St} {H : Hp} {R : V → V → Hp → Prop} (I : Inv X pins σ H s)
    (h : ta σ H fun x H1 => tb σ H1 fun y H2 => R x y H2) {Q : Value → Shared → Prop} {f : Value → Value → Sem Value}
    (hf : ∀ v u s2 x y H2, Inv X pins σ H2 s2 → RelV x v → RelV y u → R x y H2 → wpAny (model X.prog X.w) X.A (f v u) Q X.xe s2) :
    wpAny (model X.prog X.w) X.A (eval a X.env) (fun v s₁ => wpAny (model X.prog X.w) X.A (eval b X.env) (fun u s₂ => wpAny (model X.prog X.w) X.A (f v u) Q X.xe s₂) X.xe s₁) X.xe s := by
  refine thn (ha pins s σ H _ I h) fun v s1 ⟨x, H1, I1, r1, q1⟩ => ?_
  refine thn (hb pins s1 σ H1 _ I1 q1) fun u s2 ⟨y, H2, I2, r2, q2⟩ => ?_
  exact hf v u s2 x y H2 I2 r1 r2 q2

theorem pe_op {op : Operator} {r : R2} (ho : OpR X (binaryOp op) r) (ha : PE X a ta) (hb : PE X b tb) : PE X (.BinOp a op b pos) (tOp r ta tb) := by
  intro pins s σ H Q I h
  exact wpAny_BinOp (binT ha hb I h fun v u s2 x y H2 I2 rx ry q => ho pins s2 σ H2 x y v u Q I2 rx ry q)
theorem pe_un {op : UnaryOp} {r : V → Hp → VK → Prop} (ho : UnR X (unaryOp op) r) (ha : PE X a ta) : PE X (.UnaryOp op a pos) (tUn r ta) := by
  intro pins s σ H Q I h
  exact UnaryOp_ (thn (ha pins s σ H _ I h) fun v s1 ⟨x, H1, I1, r1, q1⟩ => ho pins s1 σ H1 x v Q I1 r1 q1)
/-- a op= e at a name: the name's slot i -/
theorem augR {op : Operator} {r : R2} (ho : OpR X (inplaceOp op) r) {pins : List (Addr × Obj)} {s : Shared} {σ : St} {H : Hp} {x y : V} {v u : Value} {Q : VK} (I : Inv X pins σ H s)
    (rx : RelV x v) (ry : RelV y u) (q : r x y H Q) : wpAny (model X.prog X.w) X.A (inplaceOp op v u) (EP X pins σ Q) X.xe s := ho pins s σ H x y v u Q I rx ry q

/-! ### ints -/
theorem opI {f : Value → Value → Sem Value} {C : Int → Int → Prop} {g : Int → Int → Int}
    (rule : ∀ (i j : Int) (t u : Tok) (s : Shared) (Q : Value → Shared → Prop) (E : Value → Shared → Prop), C i j → Q (.int (g i j) s.toks) { s with toks := s.toks + 1 } → wpAny (model X.prog X.w) X.A (f (.int i t) (.int j u)) Q E s) :
    OpR X f (rI C fun i j => .int (g i j)) := by
  intro pins s σ H x y v u Q I rx ry h
  obtain ⟨i, j, rfl, rfl, hc, q⟩ := h
  obtain ⟨t, rfl⟩ := rx
  obtain ⟨t', rfl⟩ := ry
  exact rule i j t t' s _ _ hc ⟨.int (g i j), H, I.tok _, ⟨_, rfl⟩, q⟩
theorem opI0 {f : Value → Value → Sem Value} {g : Int → Int → Int}
    (rule : ∀ (i j : Int) (t u : Tok) (s : Shared) (Q : Value → Shared → Prop) (E : Value → Shared → Prop), Q (.int (g i j) s.toks) { s with toks := s.toks + 1 } → wpAny (model X.prog X.w) X.A (f (.int i t) (.int j u)) Q E s) :
    OpR X f (rI0 fun i j => .int (g i j)) := by
  intro pins s σ H x y v u Q I rx ry h
  obtain ⟨i, j, rfl, rfl, q⟩ := h
  obtain ⟨t, rfl⟩ := rx
  obtain ⟨t', rfl⟩ := ry
  exact rule i j t t' s _ _ ⟨.int (g i j), H, I.tok _, ⟨_, rfl⟩, q⟩
theorem opB0 {f : Value → Value → Sem Value} {g : Int → Int → Bool}
    (rule : ∀ (i j : Int) (t u : Tok) (s : Shared) (Q : Value → Shared → Prop) (E : Value → Shared → Prop), Q (.bool (g i j)) s → wpAny (model X.prog X.w) X.A (f (.int i t) (.int j u)) Q E s) :
    OpR X f (rI0 fun i j => .bl (g i j)) := by
  intro pins s σ H x y v u Q I rx ry h
  obtain ⟨i, j, rfl, rfl, q⟩ := h
  obtain ⟨t, rfl⟩ := rx
  obtain ⟨t', rfl⟩ := ry
  exact rule i j t t' s _ _ ⟨.bl (g i j), H, I, rfl, q⟩

def CDiv (i j : Int) : Prop := 0 < j ∧ j < 1073741824
def CDivN (i j : Int) : Prop := j ≠ 0 ∧ j.natAbs < 1073741824
def CPow (i j : Int) : Prop := 0 ≤ j ∧ j ≤ 1000000 ∧ i.natAbs < 2 ^ 64
def CMul (i j : Int) : Prop := (-(2 ^ 64) < i ∧ i < 2 ^ 64) ∨ (-(2 ^ 64) < j ∧ j < 2 ^ 64)
theorem CMul.ok {i j : Int} (h : CMul i j) : IntMulOk i j := by
  rcases h with ⟨h1, h2⟩ | ⟨h1, h2⟩
  · exact .of_left (intBits_le_64 h1 h2)
  · exact .of_right (intBits_le_64 h1 h2)
theorem two_pow_nn (k : Nat) : (0 : Int) ≤ 2 ^ k := by
  rw [two_pow_cast]
  exact Int.natCast_nonneg _

theorem op_add : OpR X (binaryOp .Add) (rI0 fun i j => .int (i + j)) := opI0 fun _ _ _ _ _ _ _ q => add_int q
theorem op_sub : OpR X (binaryOp .Sub) (rI0 fun i j => .int (i - j)) := opI0 fun _ _ _ _ _ _ _ q => sub_int q
theorem op_mul : OpR X (binaryOp .Mult) (rI CMul fun i j => .int (i * j)) := opI fun _ _ _ _ _ _ _ hc q => mul_int q hc.ok
/-- // by a positive divisor -/
theorem op_fdiv : OpR X (binaryOp .FloorDiv) (rI CDiv fun i j => .int (i / j)) := opI fun i j _ _ _ _ _ hc q => by
  have h1 : (0 : Int) < j := hc.1
  have h2 : j < 1073741824 := hc.2
  exact floordiv_int (by omega) (by rw [Int.fdiv_eq_ediv_of_nonneg i (by omega)]; exact q) (.inl (PyProof.noPylong_small (by omega)))
theorem op_fdivN : OpR X (binaryOp .FloorDiv) (rI CDivN fun i j => .int (i.fdiv j)) := opI fun _ _ _ _ _ _ _ hc q => floordiv_int hc.1 q (.inl (PyProof.noPylong_small hc.2))
/-- % by a positive divisor of any size -/
theorem op_mod : OpR X (binaryOp .Mod) (rI (fun _ j => 0 < j) fun i j => .int (i % j)) := opI fun i j _ _ _ _ _ hc q => by
  have h1 : (0 : Int) < j := hc
  exact mod_int' (by omega) (by rw [Int.fmod_eq_emod_of_nonneg i (by omega)]; exact q)
theorem op_modN : OpR X (binaryOp .Mod) (rI (fun _ j => j ≠ 0) fun i j => .int (i.fmod j)) := opI fun _ _ _ _ _ _ _ hc q => mod_int' hc q
theorem op_pow : OpR X (binaryOp .Pow) (rI CPow fun i j => .int (i ^ j.toNat)) := opI fun _ _ _ _ _ _ _ hc q => pow_int_small hc.1 hc.2.1 hc.2.2 q
theorem op_shl : OpR X (binaryOp .LShift) (rI CPow fun i j => .int (i * 2 ^ j.toNat)) := opI fun _ _ _ _ _ _ _ hc q => lshift_int_small hc.1 hc.2.1 hc.2.2 q
theorem op_shr : OpR X (binaryOp .RShift) (rI (fun _ j => 0 ≤ j) fun i j => .int (i / 2 ^ j.toNat)) := opI fun i j _ _ _ _ _ hc q =>
  rshift_int hc (by rw [Int.fdiv_eq_ediv_of_nonneg i (two_pow_nn _)]; exact q)
theorem op_and : OpR X (binaryOp .BitAnd) (rI0 fun i j => .int (Builtin.bitAnd i j)) := opI0 fun _ _ _ _ _ _ _ q => and_int q
theorem op_or : OpR X (binaryOp .BitOr) (rI0 fun i j => .int (Builtin.bitOr i j)) := opI0 fun _ _ _ _ _ _ _ q => or_int q
theorem op_xor : OpR X (binaryOp .BitXor) (rI0 fun i j => .int (Builtin.bitXor i j)) := opI0 fun _ _ _ _ _ _ _ q => xor_int q

theorem iop_add : OpR X (inplaceOp .Add) (rI0 fun i j => .int (i + j)) := opI0 fun _ _ _ _ _ _ _ q => iadd_int q
theorem iop_sub : OpR X (inplaceOp .Sub) (rI0 fun i j => .int (i - j)) := opI0 fun _ _ _ _ _ _ _ q => isub_int q
theorem iop_mul : OpR X (inplaceOp .Mult) (rI CMul fun i j => .int (i * j)) := opI fun _ _ _ _ _ _ _ hc q => imul_int q hc.ok
theorem iop_fdiv : OpR X (inplaceOp .FloorDiv) (rI CDiv fun i j => .int (i / j)) := opI fun i j _ _ _ _ _ hc q => by
  have h1 : (0 : Int) < j := hc.1
  have h2 : j < 1073741824 := hc.2
  exact ifloordiv_int (by omega) (by rw [Int.fdiv_eq_ediv_of_nonneg i (by omega)]; exact q) (.inl (PyProof.noPylong_small (by omega)))
theorem iop_mod : OpR X (inplaceOp .Mod) (rI (fun _ j => 0 < j) fun i j => .int (i % j)) := opI fun i j _ _ _ _ _ hc q => by
  have h1 : (0 : Int) < j := hc
  exact imod_int (by omega) (by rw [Int.fmod_eq_emod_of_nonneg i (by omega)]; exact q)
theorem iop_shl : OpR X (inplaceOp .LShift) (rI CPow fun i j => .int (i * 2 ^ j.toNat)) := opI fun _ _ _ _ _ _ _ hc q => ilshift_int_small hc.1 hc.2.1 hc.2.2 q
theorem iop_shr : OpR X (inplaceOp .RShift) (rI (fun _ j => 0 ≤ j) fun i j => .int (i / 2 ^ j.toNat)) := opI fun i j _ _ _ _ _ hc q =>
  irshift_int hc (by rw [Int.fdiv_eq_ediv_of_nonneg i (two_pow_nn _)]; exact q)
theorem iop_and : OpR X (inplaceOp .BitAnd) (rI0 fun i j => .int (Builtin.bitAnd i j)) := opI0 fun _ _ _ _ _ _ _ q => iand_int q
theorem iop_or : OpR X (inplaceOp .BitOr) (rI0 fun i j => .int (Builtin.bitOr i j)) := opI0 fun _ _ _ _ _ _ _ q => ior_int q
theorem iop_xor : OpR X (inplaceOp .BitXor) (rI0 fun i j => .int (Builtin.bitXor i j)) := opI0 fun _ _ _ _ _ _ _ q => ixor_int q

theorem unI {f : Value → Sem Value} {g : Int → Int}
    (rule : ∀ (i : Int) (t : Tok) (s : Shared) (Q : Value → Shared → Prop) (E : Value → Shared → Prop), Q (.int (g i) s.toks) { s with toks := s.toks + 1 } → wpAny (model X.prog X.w) X.A (f (.int i t)) Q E s) :
    UnR X f (rU fun i => .int (g i)) := by
  intro pins s σ H x v Q I rx h
  obtain ⟨i, rfl, q⟩ := h
  obtain ⟨t, rfl⟩ := rx
  exact rule i t s _ _ ⟨.int (g i), H, I.tok _, ⟨_, rfl⟩, q⟩
theorem un_neg : UnR X (unaryOp .USub) (rU fun i => .int (-i)) := unI fun _ _ _ _ _ q => neg_int q
theorem un_inv : UnR X (unaryOp .Invert) (rU fun i => .int (Builtin.bitNot i)) := unI fun _ _ _ _ _ q => invert_int q

/-! ### bools among ints: n += (a < b) -/
theorem op_add_ib : OpR X (binaryOp .Add) (fun x y H Q => ∃ i k, x = .int i ∧ y = .bl k ∧ Q (.int (i + b2i k)) H) := by
  intro pins s σ H x y v u Q I rx ry h
  obtain ⟨i, k, rfl, rfl, q⟩ := h
  obtain ⟨t, rfl⟩ := rx
  cases ry
  exact add_int_bool ⟨.int (i + b2i k), H, I.tok _, ⟨_, rfl⟩, q⟩
end

/-! ### comparisons -/
/-- the scalars that == tells apart as data does -/
def scal : V → V → Bool
  | .non, .non => true | .non, .int _ => true | .int _, .non => true | .non, .bl _ => true | .bl _, .non => true | .non, .str _ => true | .str _, .non => true
  | .int _, .int _ => true | .bl _, .bl _ => true | .str _, .str _ => true | .byt _, .byt _ => true
  | .int _, .str _ => true | .str _, .int _ => true | .bl _, .str _ => true | .str _, .bl _ => true
  | _, _ => false
def rEq : R2 := fun x y H Q => scal x y = true ∧ Q (.bl (decide (x = y))) H
def rNe : R2 := fun x y H Q => scal x y = true ∧ Q (.bl (!decide (x = y))) H

theorem dec_int {i j : Int} : decide (V.int i = V.int j) = (i == j) := by
  rw [Bool.eq_iff_iff]
  simp
theorem dec_bl {i j : Bool} : decide (V.bl i = V.bl j) = (i == j) := by
  rw [Bool.eq_iff_iff]
  simp
theorem dec_str {i j : Str} : decide (V.str i = V.str j) = (i == j) := by
  rw [Bool.eq_iff_iff]
  simp
theorem dec_byt {i j : Array UInt8} : decide (V.byt i = V.byt j) = (i.toList == j.toList) := by
  rw [Bool.eq_iff_iff]
  cases i
  cases j
  simp

section
variable {X : Cx} {a b c : Expr} {ta tb tc : TE} {pos : Pos}
theorem fin_bl {pins : List (Addr × Obj)} {σ : St} {H : Hp} {s : Shared} {Q : VK} {k k' : Bool} (I : Inv X pins σ H s) (q : Q (.bl k) H) (e : k = k') : EP X pins σ Q (.bool k') s := by
  subst e
  exact ⟨.bl k, H, I, rfl, q⟩
theorem op_eq : OpR X (compareOp .Eq) rEq := by
  intro pins s σ H x y v u Q I rx ry h
  obtain ⟨hs, q⟩ := h
  cases x with
  | non =>
    cases rx
    cases y with
    | non => cases ry; exact PySem.EqNone.eq_none_none (fin_bl I q (by simp))
    | bl j => cases ry; exact PySem.EqNone.eq_none_bool (fin_bl I q (by simp))
    | int j => obtain ⟨t', rfl⟩ := ry; exact PySem.EqNone.eq_none_int (fin_bl I q (by simp))
    | str j => obtain ⟨t', rfl⟩ := ry; exact PySem.EqNone.eq_none_str (fin_bl I q (by simp))
    | _ => exact absurd (show false = true from hs) Bool.false_ne_true
  | bl i =>
    cases rx
    cases y with
    | non => cases ry; exact PySem.EqNone.eq_bool_none (fin_bl I q (by simp))
    | bl j => cases ry; exact eq_bool (fin_bl I q dec_bl)
    | str j => obtain ⟨t', rfl⟩ := ry; exact PySem.EqMixed.eq_bool_str (fin_bl I q (by simp))
    | _ => exact absurd (show false = true from hs) Bool.false_ne_true
  | int i =>
    obtain ⟨t, rfl⟩ := rx
    cases y with
    | non => cases ry; exact PySem.EqNone.eq_int_none (fin_bl I q (by simp))
    | int j => obtain ⟨t', rfl⟩ := ry; exact eq_int (fin_bl I q dec_int)
    | str j => obtain ⟨t', rfl⟩ := ry; exact PySem.EqMixed.eq_int_str (fin_bl I q (by simp))
    | _ => exact absurd (show false = true from hs) Bool.false_ne_true
  | str i =>
    obtain ⟨t, rfl⟩ := rx
    cases y with
    | non => cases ry; exact PySem.EqNone.eq_str_none (fin_bl I q (by simp))
    | bl j => cases ry; exact PySem.EqMixed.eq_str_bool (fin_bl I q (by simp))
    | int j => obtain ⟨t', rfl⟩ := ry; exact PySem.EqMixed.eq_str_int (fin_bl I q (by simp))
    | str j => obtain ⟨t', rfl⟩ := ry; exact eq_str (fin_bl I q dec_str)
    | _ => exact absurd (show false = true from hs) Bool.false_ne_true
  | byt i =>
    obtain ⟨t, rfl⟩ := rx
    cases y with
    | byt j => obtain ⟨t', rfl⟩ := ry; exact PySem.W.eq_bytes (fin_bl I q dec_byt)
    | _ => exact absurd (show false = true from hs) Bool.false_ne_true
  | _ => cases y <;> exact absurd (show false = true from hs) Bool.false_ne_true
theorem op_ne : OpR X (compareOp .NotEq) rNe := by
  intro pins s σ H x y v u Q I rx ry h
  obtain ⟨hs, q⟩ := h
  cases x with
  | non =>
    cases rx
    cases y with
    | non => cases ry; exact PySem.EqNone.ne_none_none (fin_bl I q (by simp))
    | bl j => cases ry; exact PySem.EqNone.ne_none_bool (fin_bl I q (by simp))
    | int j => obtain ⟨t', rfl⟩ := ry; exact PySem.EqNone.ne_none_int (fin_bl I q (by simp))
    | str j => obtain ⟨t', rfl⟩ := ry; exact PySem.EqNone.ne_none_str (fin_bl I q (by simp))
    | _ => exact absurd (show false = true from hs) Bool.false_ne_true
  | bl i =>
    cases rx
    cases y with
    | non => cases ry; exact PySem.EqNone.ne_bool_none (fin_bl I q (by simp))
    | bl j => cases ry; exact ne_bool (fin_bl I q (congrArg not dec_bl))
    | str j => obtain ⟨t', rfl⟩ := ry; exact PySem.EqMixed.ne_bool_str (fin_bl I q (by simp))
    | _ => exact absurd (show false = true from hs) Bool.false_ne_true
  | int i =>
    obtain ⟨t, rfl⟩ := rx
    cases y with
    | non => cases ry; exact PySem.EqNone.ne_int_none (fin_bl I q (by simp))
    | int j => obtain ⟨t', rfl⟩ := ry; exact ne_int (fin_bl I q (congrArg not dec_int))
    | str j => obtain ⟨t', rfl⟩ := ry; exact PySem.EqMixed.ne_int_str (fin_bl I q (by simp))
    | _ => exact absurd (show false = true from hs) Bool.false_ne_true
  | str i =>
    obtain ⟨t, rfl⟩ := rx
    cases y with
    | non => cases ry; exact PySem.EqNone.ne_str_none (fin_bl I q (by simp))
    | bl j => cases ry; exact PySem.EqMixed.ne_str_bool (fin_bl I q (by simp))
    | int j => obtain ⟨t', rfl⟩ := ry; exact PySem.EqMixed.ne_str_int (fin_bl I q (by simp))
    | str j => obtain ⟨t', rfl⟩ := ry; exact ne_str (fin_bl I q (congrArg not dec_str))
    | _ => exact absurd (show false = true from hs) Bool.false_ne_true
  | byt i =>
    obtain ⟨t, rfl⟩ := rx
    cases y with
    | byt j => obtain ⟨t', rfl⟩ := ry; exact PySem.W.ne_bytes (fin_bl I q (congrArg not dec_byt))
    | _ => exact absurd (show false = true from hs) Bool.false_ne_true
  | _ => cases y <;> exact absurd (show false = true from hs) Bool.false_ne_true

theorem op_lt : OpR X (compareOp .Lt) (rI0 fun i j => .bl (decide (i < j))) := opB0 fun _ _ _ _ _ _ _ q => lt_int q
theorem op_le : OpR X (compareOp .LtE) (rI0 fun i j => .bl (decide (i ≤ j))) := opB0 fun _ _ _ _ _ _ _ q => le_int q
theorem op_gt : OpR X (compareOp .Gt) (rI0 fun i j => .bl (decide (j < i))) := opB0 fun _ _ _ _ _ _ _ q => gt_int q
theorem op_ge : OpR X (compareOp .GtE) (rI0 fun i j => .bl (decide (j ≤ i))) := opB0 fun _ _ _ _ _ _ _ q => ge_int q
theorem op_lt_str : OpR X (compareOp .Lt) (fun x y H Q => ∃ i j, x = .str i ∧ y = .str j ∧ Q (.bl (decide (i.cps.toList < j.cps.toList))) H) := by
  intro pins s σ H x y v u Q I rx ry h
  obtain ⟨i, j, rfl, rfl, q⟩ := h
  obtain ⟨t, rfl⟩ := rx
  obtain ⟨t', rfl⟩ := ry
  exact lt_str (fin_bl I q rfl)
/-- the one string within the other -/
theorem op_in_str : OpR X (compareOp .In) (fun x y H Q => ∃ i j, x = .str i ∧ y = .str j ∧ Q (.bl (!(Builtin.Str.occurrences j i 0 j.length 1).isEmpty)) H) := by
  intro pins s σ H x y v u Q I rx ry h
  obtain ⟨i, j, rfl, rfl, q⟩ := h
  obtain ⟨t, rfl⟩ := rx
  obtain ⟨t', rfl⟩ := ry
  exact in_str (fin_bl I q rfl)

/-- is None, is not None: the right side a value none -/
theorem op_isN : OpR X (compareOp .Is) (fun x y H Q => y = .non ∧ Q (.bl (decide (x = .non))) H) := by
  intro pins s σ H x y v u Q I rx ry h
  obtain ⟨rfl, q⟩ := h
  cases ry
  refine is_none_gen (fin_bl I q ?_)
  cases x <;> first
    | (cases rx; rfl)
    | (obtain ⟨t, rfl⟩ := rx; rfl)
theorem op_notN : OpR X (compareOp .IsNot) (fun x y H Q => y = .non ∧ Q (.bl (!decide (x = .non))) H) := by
  intro pins s σ H x y v u Q I rx ry h
  obtain ⟨rfl, q⟩ := h
  cases ry
  refine isnot_none_gen (fin_bl I q ?_)
  cases x <;> first
    | (cases rx; rfl)
    | (obtain ⟨t, rfl⟩ := rx; rfl)

theorem op_notin_str : OpR X (compareOp .NotIn) (fun x y H Q => ∃ i j, x = .str i ∧ y = .str j ∧ Q (.bl (!(!(Builtin.Str.occurrences j i 0 j.length 1).isEmpty))) H) := by
  intro pins s σ H x y v u Q I rx ry h
  obtain ⟨i, j, rfl, rfl, q⟩ := h
  obtain ⟨t, rfl⟩ := rx
  obtain ⟨t', rfl⟩ := ry
  exact notIn_str (fin_bl I q rfl)
/-- is, is not of two objects that are tracked lists or instances -/
def isObj : HO → Bool
  | .lst _ => true
  | .ins _ _ _ => true
  | _ => false
theorem obj_there {pins : List (Addr × Obj)} {s : Shared} {σ : St} {H : Hp} {a : Addr} {o : HO} (I : Inv X pins σ H s) (h : H a = some o) (p : isObj o = true) : ∃ ob, s.heap.get? a = some ob ∧ ob.cls ≠ .type "tuple" := by
  cases o with
  | lst xs =>
    obtain ⟨_, its, n, _, e⟩ : xs.length ≤ sizeLine ∧ ∃ (its : List Value) (n : Nat), Vals xs its ∧ s.heap.get? a = some { cls := .type "list", data := .seq its.toArray n } := I.hok a _ h
    exact ⟨_, e, (by show Value.type "list" ≠ .type "tuple"; decide +kernel)⟩
  | ins C dx fs =>
    have x := I.hok a _ h
    obtain ⟨_, _, _, e, _⟩ := x
    exact ⟨_, e, (by show Value.ref C ≠ .type "tuple"; exact fun z => by cases z)⟩
  | _ => exact absurd (show false = true from p) Bool.false_ne_true
theorem op_is_ref : OpR X (compareOp .Is) (fun x y H Q => ∃ a b oa ob, x = .ref a ∧ y = .ref b ∧ H a = some oa ∧ isObj oa = true ∧ H b = some ob ∧ isObj ob = true ∧ Q (.bl (decide (a = b))) H) := by
  intro pins s σ H x y v u Q I rx ry h
  obtain ⟨a, b, oa, ob, rfl, rfl, ha, pa, hb, pb, q⟩ := h
  cases rx
  cases ry
  obtain ⟨o1, e1, n1⟩ := obj_there I ha pa
  obtain ⟨o2, e2, _⟩ := obj_there I hb pb
  by_cases z : a = b
  · subst z
    exact wpAny_is_ref_self (fin_bl I q (by simp))
  · exact wpAny_is_ref_other z e1 e2 n1 (fin_bl I q (by simp [z]))
theorem op_isnot_ref : OpR X (compareOp .IsNot) (fun x y H Q => ∃ a b oa ob, x = .ref a ∧ y = .ref b ∧ H a = some oa ∧ isObj oa = true ∧ H b = some ob ∧ isObj ob = true ∧ Q (.bl (!decide (a = b))) H) := by
  intro pins s σ H x y v u Q I rx ry h
  obtain ⟨a, b, oa, ob, rfl, rfl, ha, pa, hb, pb, q⟩ := h
  cases rx
  cases ry
  obtain ⟨o1, e1, n1⟩ := obj_there I ha pa
  obtain ⟨o2, e2, _⟩ := obj_there I hb pb
  by_cases z : a = b
  · subst z
    exact wpAny_isNot_ref_self (fin_bl I q (by simp))
  · exact wpAny_isNot_ref_other z e1 e2 n1 (fin_bl I q (by simp [z]))

/-- two rules for one operation: by cases -/
theorem OpR.or {f : Value → Value → Sem Value} {r r' : R2} (h : OpR X f r) (h' : OpR X f r') : OpR X f (fun x y H Q => r x y H Q ∨ r' x y H Q) := by
  intro pins s σ H x y v u Q I rx ry q
  rcases q with q | q
  · exact h pins s σ H x y v u Q I rx ry q
  · exact h' pins s σ H x y v u Q I rx ry q

theorem nomark (b : Expr) {op : CmpOp} (h : op ≠ .In := by decide) (h2 : op ≠ .NotIn := by decide) : behindInMarks op b = false := by
  have e1 : (op == CmpOp.In) = false := by cases op <;> first | rfl | exact absurd rfl h
  have e2 : (op == CmpOp.NotIn) = false := by cases op <;> first | rfl | exact absurd rfl h2
  cases b <;> simp [behindInMarks, e1, e2]
/-- a comparison as a value; hm: nomark b, or (for in, not in) by with_unfolding_all rfl -/
theorem pe_cmpR {op : CmpOp} {r : R2} (ho : OpR X (compareOp op) r) (ha : PE X a ta) (hb : PE X b tb) (hm : behindInMarks op b = false) : PE X (.Compare a [op] [b] pos) (tOp r ta tb) := by
  intro pins s σ H Q I h
  exact wpAny_Compare1 (binT ha hb I h fun v u s2 x y H2 I2 rx ry q => ho pins s2 σ H2 x y v u Q I2 rx ry q) hm
/-- a reading of a value as a test -/
def tTest (t : TE) : TT := fun σ H Q => t σ H fun x H' => ∃ k, x = .bl k ∧ Q k H'
theorem pt_cmpR {op : CmpOp} {r : R2} (ho : OpR X (compareOp op) r) (ha : PE X a ta) (hb : PE X b tb) (hm : behindInMarks op b = false) : PT X (.Compare a [op] [b] pos) (tTest (tOp r ta tb)) := by
  intro pins s σ H Q I h
  refine wpAny_isTrue_Compare1 (thn (ha pins s σ H _ I h) fun v s1 ⟨x, H1, I1, r1, q1⟩ => thn (hb pins s1 σ H1 _ I1 q1) fun u s2 ⟨y, H2, I2, r2, q2⟩ =>
    thn (ho pins s2 σ H2 x y v u _ I2 r1 r2 q2) fun c s3 ⟨z, H3, I3, r3, k, e, q3⟩ => ?_) hm
  subst e
  cases r3
  exact wpAny_truthy_bool ⟨H3, I3, q3⟩
/-- a op1 b op2 c -/
def tChain (r r' : R2) (ta tb tc : TE) : TE := fun σ H Q => ta σ H fun x H1 => tb σ H1 fun y H2 => r x y H2 fun z H3 => ∃ k, z = .bl k ∧
  (if k = true then tc σ H3 fun w' H4 => r' y w' H4 Q else Q (.bl false) H3)
theorem pe_chain {op op' : CmpOp} {r r' : R2} (ho : OpR X (compareOp op) r) (ho' : OpR X (compareOp op') r') (ha : PE X a ta) (hb : PE X b tb) (hc : PE X c tc)
    (hm : lastMarks [op, op'] [b, c] = false := by with_unfolding_all rfl) : PE X (.Compare a [op, op'] [b, c] pos) (tChain r r' ta tb tc) := by
  intro pins s σ H Q I h
  refine Compare_chain (thn (ha pins s σ H _ I h) fun v s1 ⟨x, H1, I1, r1, q1⟩ => chain_link (thn (hb pins s1 σ H1 _ I1 q1) fun u s2 ⟨y, H2, I2, r2, q2⟩ =>
    thn (ho pins s2 σ H2 x y v u _ I2 r1 r2 q2) fun d s3 ⟨z, H3, I3, r3, k, e, q3⟩ => ?_)) hm
  subst e
  cases r3
  refine wpAny_truthy_bool ?_
  cases k with
  | false => exact ite_ff ⟨.bl false, H3, I3, rfl, q3⟩
  | true => exact ite_tt (chain_last (thn (hc pins s3 σ H3 _ I3 q3) fun w' s4 ⟨z', H4, I4, r4, q4⟩ => ho' pins s4 σ H4 y z' u w' Q I4 r2 r4 q4))
theorem pt_chain {op op' : CmpOp} {r r' : R2} (ho : OpR X (compareOp op) r) (ho' : OpR X (compareOp op') r') (ha : PE X a ta) (hb : PE X b tb) (hc : PE X c tc)
    (hm : lastMarks [op, op'] [b, c] = false := by with_unfolding_all rfl) : PT X (.Compare a [op, op'] [b, c] pos) (tTest (tChain r r' ta tb tc)) := by
  intro pins s σ H Q I h
  refine isTrue_chain (thn (ha pins s σ H _ I h) fun v s1 ⟨x, H1, I1, r1, q1⟩ => test_link (thn (hb pins s1 σ H1 _ I1 q1) fun u s2 ⟨y, H2, I2, r2, q2⟩ =>
    thn (ho pins s2 σ H2 x y v u _ I2 r1 r2 q2) fun d s3 ⟨z, H3, I3, r3, k, e, q3⟩ => ?_)) hm
  subst e
  cases r3
  refine wpAny_truthy_bool ?_
  cases k with
  | false =>
    obtain ⟨k', e', q'⟩ := q3
    cases e'
    exact ite_ff ⟨H3, I3, q'⟩
  | true =>
    refine ite_tt (test_last (thn (hc pins s3 σ H3 _ I3 q3) fun w' s4 ⟨z', H4, I4, r4, q4⟩ => thn (ho' pins s4 σ H4 y z' u w' _ I4 r2 r4 q4) fun d' s5 ⟨z2, H5, I5, r5, k2, e2, q5⟩ => ?_))
    subst e2
    cases r5
    exact wpAny_truthy_bool ⟨H5, I5, q5⟩

/-! ### truth -/
/-- a value's truth by the abstract heap -/
def TruV (K : PySem.W.Frag) (x : V) (H : Hp) (k : Bool) : Prop :=
  match x with
  | .non => k = false
  | .bl b => k = b
  | .int i => k = (i != 0)
  | .str y => y.length ≤ sizeLine ∧ k = ((y.length : Int) != 0)
  | .byt y => y.size ≤ sizeLine ∧ k = ((y.size : Int) != 0)
  | .ref p => (∃ xs, SqL K H p xs ∧ k = !xs.isEmpty) ∨ (∃ xs, SqT K H p xs ∧ k = !xs.isEmpty) ∨ ∃ kvs, H p = some (.dK kvs) ∧ k = !kvs.isEmpty
  | _ => False
theorem isEmpty_kv {κ : Type} {kvs : List (κ × V)} {vs : List (κ × Value)} (r : KV kvs vs) : (!vs.isEmpty) = !kvs.isEmpty := by
  cases r <;> rfl
theorem isEmpty_of {xs : List V} {its : List Value} (r : Vals xs its) : (!its.toArray.isEmpty) = !xs.isEmpty := by
  cases r <;> simp
theorem line63 : (sizeLine : Nat) < 2 ^ 63 := by rw [sizeLine_eq]; decide
theorem tru_ok : TruR X (fun x H Q => ∃ k, TruV X.K x H k ∧ Q k H) := by
  intro pins s σ H x v Q I rx h
  obtain ⟨k, e, q⟩ := h
  have hl := line63
  have hs : sizeLine = 16777216 := sizeLine_eq
  cases x with
  | non =>
    cases rx
    have e' : k = false := e
    subst e'
    exact truthy_none ⟨H, I, q⟩
  | bl b =>
    cases rx
    have e' : k = b := e
    subst e'
    exact wpAny_truthy_bool ⟨H, I, q⟩
  | int i =>
    obtain ⟨t, rfl⟩ := rx
    have e' : k = (i != 0) := e
    subst e'
    exact PySem.P.truthy_int ⟨H, I, q⟩
  | str y =>
    obtain ⟨t, rfl⟩ := rx
    obtain ⟨hy, e'⟩ : y.length ≤ sizeLine ∧ k = ((y.length : Int) != 0) := e
    subst e'
    exact PySem.P.truthy_str (by omega) ⟨H, I.tok _, q⟩
  | byt y =>
    obtain ⟨t, rfl⟩ := rx
    obtain ⟨hy, e'⟩ : y.size ≤ sizeLine ∧ k = ((y.size : Int) != 0) := e
    subst e'
    exact PySem.W.truthy_bytes (by omega) ⟨H, I.tok _, q⟩
  | ref p =>
    cases rx
    have e' : (∃ xs, SqL X.K H p xs ∧ k = !xs.isEmpty) ∨ (∃ xs, SqT X.K H p xs ∧ k = !xs.isEmpty) ∨ ∃ kvs, H p = some (.dK kvs) ∧ k = !kvs.isEmpty := e
    rcases e' with ⟨xs, hx, e'⟩ | ⟨xs, hx, e'⟩ | ⟨kvs, hx, e'⟩
    · subst e'
      obtain ⟨its, r, pl, hz⟩ := I.list hx
      have hlen := r.length
      exact wpAny_truthy_list pl.isList (by simp only [List.size_toArray]; omega) ⟨H, I.tok _, by rw [isEmpty_of r]; exact q⟩
    · subst e'
      obtain ⟨its, r, pl, hz⟩ := I.tuple hx
      have hlen := r.length
      exact truthy_tuple pl (by simp only [List.size_toArray]; omega) ⟨H, I.tok _, by rw [isEmpty_of r]; exact q⟩
    · subst e'
      obtain ⟨hz, hS, vs, r, m⟩ : kvs.length ≤ sizeLine ∧ (p == sysModules) = false ∧ ∃ vs, KV kvs vs ∧ s.heap.DictOf (mixKind X.prog X.w) p vs := I.hok p _ hx
      have hlen : kvs.length = vs.length := Paired.length r
      exact wpAny_truthy_dict hS m (by omega) ⟨H, I.tok _, by rw [isEmpty_kv r]; exact q⟩
  | _ => exact (show False from e).elim
/-- any expression whose test is its value's truth (a name, a call, a subscript, a field ..: he by fun _ => rfl) -/
theorem pt_truth (ha : PE X a ta) (he : ∀ whole, isTrue a X.env whole = (do let v ← whole; standAt a.pos; holding [v] (truthy v))) :
    PT X a (fun σ H Q => ta σ H fun x H' => ∃ k, TruV X.K x H' k ∧ Q k H') := by
  intro pins s σ H Q I h
  exact isTrue_plain (thn (ha pins s σ H _ I h) fun v s1 ⟨x, H1, I1, r1, q1⟩ => tru_ok pins s1 σ H1 x v Q I1 r1 q1) (he _)

/-! ### strs and bytes -/
theorem pe_byt {x : List UInt8} {k : Nat} : PE X (.Constant (.bytes x) k pos) (fun _ H Q => Q (.byt x.toArray) H) := fun _ _ _ H _ I h => PySem.W.Constant_bytes ⟨.byt x.toArray, H, I.tok _, ⟨_, rfl⟩, h⟩
theorem op_add_str : OpR X (binaryOp .Add) (fun x y H Q => ∃ i j, x = .str i ∧ y = .str j ∧ i.length + j.length ≤ sizeLine ∧ Q (.str (i ++ j)) H) := by
  intro pins s σ H x y v u Q I rx ry h
  obtain ⟨i, j, rfl, rfl, hz, q⟩ := h
  obtain ⟨t, rfl⟩ := rx
  obtain ⟨t', rfl⟩ := ry
  exact add_str (fun t' tk => ⟨.str (i ++ j), H, I.tok _, ⟨_, rfl⟩, q⟩) hz
theorem iop_add_str : OpR X (inplaceOp .Add) (fun x y H Q => ∃ i j, x = .str i ∧ y = .str j ∧ i.length + j.length ≤ sizeLine ∧ Q (.str (i ++ j)) H) := by
  intro pins s σ H x y v u Q I rx ry h
  obtain ⟨i, j, rfl, rfl, hz, q⟩ := h
  obtain ⟨t, rfl⟩ := rx
  obtain ⟨t', rfl⟩ := ry
  exact iadd_str (fun t' tk => ⟨.str (i ++ j), H, I.tok _, ⟨_, rfl⟩, q⟩) hz
theorem op_add_byt : OpR X (binaryOp .Add) (fun x y H Q => ∃ i j, x = .byt i ∧ y = .byt j ∧ i.size + j.size ≤ 16777216 ∧ Q (.byt (i ++ j)) H) := by
  intro pins s σ H x y v u Q I rx ry h
  obtain ⟨i, j, rfl, rfl, hz, q⟩ := h
  obtain ⟨t, rfl⟩ := rx
  obtain ⟨t', rfl⟩ := ry
  exact PySem.W.KBy.add_bytes hz (fun t' tk => ⟨.byt (i ++ j), H, I.tok _, ⟨_, rfl⟩, q⟩)

def PlainIxT (b : Expr) : Prop := ∀ o i, subscripted b false o i = operate [o, i] (getItem o i)
/-- s[i], 0 ≤ i < len -/
theorem pe_item_str (ha : PE X a ta) (hb : PE X b tb) (hs : PlainIxT b) :
    PE X (.Subscript a b pos) (tOp (fun x y H Q => ∃ z i c, x = .str z ∧ y = .int i ∧ 0 ≤ i ∧ i < 2 ^ 63 ∧ i < z.length ∧ z.cps[i.toNat]? = some c ∧ Q (.str ⟨#[c]⟩) H) ta tb) := by
  intro pins s σ H Q I h
  refine Subscript_ (binT ha hb I h fun v u s2 x y H2 I2 rx ry q => ?_)
  obtain ⟨z, i, c, rfl, rfl, h0, h63, h1, hc, q⟩ := q
  obtain ⟨t, rfl⟩ := rx
  obtain ⟨t', rfl⟩ := ry
  have e : seqIndex? i z.length = some i.toNat := PySem.StrLaws.seqIndex_nonneg h0 h1
  exact tail_any (typeIs_str s2 z t) slot_str_getitem.lookup (getItem_str (c := c) (by
    have e1 : decide (i < -(2 ^ 63 : Int)) = false := decide_eq_false (by omega)
    have e2 : decide (i ≥ 2 ^ 63) = false := decide_eq_false (by omega)
    rw [e1, e2] <;> rfl) (by rw [e]; exact hc) ⟨.str ⟨#[c]⟩, H2, I2.tok _, ⟨_, rfl⟩, q⟩) (hs _ _)
/-- b[i], 0 ≤ i < len -/
theorem pe_item_byt (ha : PE X a ta) (hb : PE X b tb) (hs : PlainIxT b) :
    PE X (.Subscript a b pos) (tOp (fun x y H Q => ∃ (z : List UInt8) (i : Int), x = .byt z.toArray ∧ y = .int i ∧ z.length ≤ sizeLine ∧ 0 ≤ i ∧ i < z.length ∧ Q (.int ((z.getD i.toNat 0).toNat : Nat)) H) ta tb) := by
  intro pins s σ H Q I h
  refine Subscript_ (binT ha hb I h fun v u s2 x y H2 I2 rx ry q => ?_)
  obtain ⟨z, i, rfl, rfl, hz, h0, h1, q⟩ := q
  obtain ⟨t, rfl⟩ := rx
  obtain ⟨t', rfl⟩ := ry
  have hl : sizeLine = 16777216 := sizeLine_eq
  exact tail_any (PySem.W.typeIs_bytes s2 z.toArray t) PySem.W.FB.slot_bytes_getitem.lookup (PySem.W.getItem_bytes (by omega) h0 h1 ⟨.int ((z.getD i.toNat 0).toNat : Nat), H2, I2.tok _, ⟨_, rfl⟩, q⟩) (hs _ _)

/-! ### scalar builtins, by CallR -/
theorem vals1 {x : V} {us : List Value} (r : Vals [x] us) : ∃ u, us = [u] ∧ RelV x u := by
  cases r with
  | cons r1 r2 => cases r2; exact ⟨_, rfl, r1⟩
theorem vals2 {x y : V} {us : List Value} (r : Vals [x, y] us) : ∃ u w', us = [u, w'] ∧ RelV x u ∧ RelV y w' := by
  cases r with
  | cons r1 r2 =>
    cases r2 with
    | cons r3 r4 => cases r4; exact ⟨_, _, rfl, r1, r3⟩
theorem call_abs : CallR X (.builtin "abs") (fun xs H Q => ∃ i, xs = [.int i] ∧ Q (.int (if i < 0 then -i else i)) H) := by
  intro pins s σ H xs us Q I r h
  obtain ⟨i, rfl, q⟩ := h
  obtain ⟨u, rfl, t, rfl⟩ := vals1 r
  exact call_abs_int fun u tk => ⟨.int (if i < 0 then -i else i), H, I.tok _, ⟨_, rfl⟩, q⟩
theorem call_max2 (hc : X.calm = true) : CallR X (.builtin "max") (fun xs H Q => ∃ i j, xs = [.int i, .int j] ∧ Q (.int (if j > i then j else i)) H) := by
  intro pins s σ H xs us Q I r h
  obtain ⟨i, j, rfl, q⟩ := h
  obtain ⟨u, w', rfl, ⟨t, rfl⟩, ⟨t', rfl⟩⟩ := vals2 r
  refine max_two_ints (I.ok.hd hc) fun h' tk k => ⟨_, H, I.kept k, ?_, q⟩
  by_cases hj : j > i
  · rw [if_pos hj, if_pos hj]; exact ⟨_, rfl⟩
  · rw [if_neg hj, if_neg hj]; exact ⟨_, rfl⟩
theorem call_min2 (hc : X.calm = true) : CallR X (.builtin "min") (fun xs H Q => ∃ i j, xs = [.int i, .int j] ∧ Q (.int (if j < i then j else i)) H) := by
  intro pins s σ H xs us Q I r h
  obtain ⟨i, j, rfl, q⟩ := h
  obtain ⟨u, w', rfl, ⟨t, rfl⟩, ⟨t', rfl⟩⟩ := vals2 r
  refine min_two_ints (I.ok.hd hc) fun h' tk k => ⟨_, H, I.kept k, ?_, q⟩
  by_cases hj : j < i
  · rw [if_pos hj, if_pos hj]; exact ⟨_, rfl⟩
  · rw [if_neg hj, if_neg hj]; exact ⟨_, rfl⟩
theorem call_int1 : CallR X (.type "int") (fun xs H Q => (∃ i, xs = [.int i] ∧ Q (.int i) H) ∨ ∃ k, xs = [.bl k] ∧ Q (.int (if k then 1 else 0)) H) := by
  intro pins s σ H xs us Q I r h
  rcases h with ⟨i, rfl, q⟩ | ⟨k, rfl, q⟩
  · obtain ⟨u, rfl, t, rfl⟩ := vals1 r
    exact call_int_int ⟨.int i, H, I, ⟨_, rfl⟩, q⟩
  · obtain ⟨u, rfl, r1⟩ := vals1 r
    cases r1
    exact call_int_bool ⟨.int (if k then 1 else 0), H, I.tok _, ⟨_, rfl⟩, q⟩
theorem call_bool1 : CallR X (.type "bool") (fun xs H Q => (∃ i, xs = [.int i] ∧ Q (.bl (i != 0)) H) ∨ ∃ k, xs = [.bl k] ∧ Q (.bl k) H) := by
  intro pins s σ H xs us Q I r h
  rcases h with ⟨i, rfl, q⟩ | ⟨k, rfl, q⟩
  · obtain ⟨u, rfl, t, rfl⟩ := vals1 r
    exact call_bool_int ⟨.bl (i != 0), H, I, rfl, q⟩
  · obtain ⟨u, rfl, r1⟩ := vals1 r
    cases r1
    exact call_bool_bool ⟨.bl k, H, I, rfl, q⟩
theorem call_str_int : CallR X (.type "str") (fun xs H Q => ∃ i, xs = [.int i] ∧ i.natAbs.log2 < 1920 ∧ Q (.str (toString i)) H) := by
  intro pins s σ H xs us Q I r h
  obtain ⟨i, rfl, hz, q⟩ := h
  obtain ⟨u, rfl, t, rfl⟩ := vals1 r
  exact PySem.P.str_of_int hz ⟨.str _, H, I.tok _, ⟨_, rfl⟩, q⟩
theorem call_ord : CallR X (.builtin "ord") (fun xs H Q => ∃ x, xs = [.str x] ∧ x.length = 1 ∧ Q (.int (x.cps.getD 0 0 : Nat)) H) := by
  intro pins s σ H xs us Q I r h
  obtain ⟨x, rfl, hz, q⟩ := h
  obtain ⟨u, rfl, t, rfl⟩ := vals1 r
  exact ord_of_one hz ⟨.int _, H, I.tok _, ⟨_, rfl⟩, q⟩
theorem call_chr : CallR X (.builtin "chr") (fun xs H Q => ∃ i, xs = [.int i] ∧ 0 ≤ i ∧ i ≤ 1114111 ∧ Q (.str ⟨#[i.toNat]⟩) H) := by
  intro pins s σ H xs us Q I r h
  obtain ⟨i, rfl, h0, h1, q⟩ := h
  obtain ⟨u, rfl, t, rfl⟩ := vals1 r
  exact chr_of_range h0 h1 ⟨.str _, H, I.tok _, ⟨_, rfl⟩, q⟩
/-- len of a str, a bytes, a list, a tuple -/
def LenV (K : PySem.W.Frag) (x : V) (H : Hp) (n : Nat) : Prop :=
  match x with
  | .str y => y.length ≤ sizeLine ∧ n = y.length
  | .byt y => y.size ≤ sizeLine ∧ n = y.size
  | .ref p => (∃ xs, SqL K H p xs ∧ n = xs.length) ∨ ∃ xs, SqT K H p xs ∧ n = xs.length
  | _ => False
theorem call_len : CallR X (.builtin "len") (fun xs H Q => ∃ x n, xs = [x] ∧ LenV X.K x H n ∧ Q (.int n) H) := by
  intro pins s σ H xs us Q I r h
  obtain ⟨x, n, rfl, e, q⟩ := h
  obtain ⟨u, rfl, rx⟩ := vals1 r
  have hl := line63
  have hs : sizeLine = 16777216 := sizeLine_eq
  cases x with
  | str y =>
    obtain ⟨t, rfl⟩ := rx
    obtain ⟨hy, e'⟩ : y.length ≤ sizeLine ∧ n = y.length := e
    subst e'
    exact len_str (by omega) ⟨.int _, H, I.tok _, ⟨_, rfl⟩, q⟩
  | byt y =>
    obtain ⟨t, rfl⟩ := rx
    obtain ⟨hy, e'⟩ : y.size ≤ sizeLine ∧ n = y.size := e
    subst e'
    exact PySem.W.len_bytes (by omega) ⟨.int _, H, I.tok _, ⟨_, rfl⟩, q⟩
  | ref p =>
    cases rx
    have e' : (∃ xs, SqL X.K H p xs ∧ n = xs.length) ∨ ∃ xs, SqT X.K H p xs ∧ n = xs.length := e
    rcases e' with ⟨xs, hx, e'⟩ | ⟨xs, hx, e'⟩
    · subst e'
      obtain ⟨its, r', pl, hz⟩ := I.list hx
      have hlen := r'.length
      exact Calls.call_len_list pl.isList (by simp only [List.size_toArray]; omega) ⟨.int xs.length, H, I.tok _, ⟨_, by simp only [List.size_toArray]; rw [hlen]⟩, q⟩
    · subst e'
      obtain ⟨its, r', pl, hz⟩ := I.tuple hx
      have hlen := r'.length
      exact len_tuple pl (by simp only [List.size_toArray]; omega) ⟨.int xs.length, H, I.tok _, ⟨_, by simp only [List.size_toArray]; rw [hlen]⟩, q⟩
  | _ => exact (show False from e).elim
/-- divmod: a new tuple -/
theorem call_divmod : CallR X (.builtin "divmod") (fun xs H Q => ∃ i j, xs = [.int i, .int j] ∧ CDiv i j ∧ ∀ p, H p = none → Q (.ref p) (upd H p (.tup [.int (i / j), .int (i % j)]))) := by
  intro pins s σ H xs us Q I r h
  obtain ⟨i, j, rfl, ⟨h1, h2⟩, q⟩ := h
  obtain ⟨u, w', rfl, ⟨t, rfl⟩, ⟨t', rfl⟩⟩ := vals2 r
  refine divmod_int (by omega) ?_ (.inl (PyProof.noPylong_small (by omega)))
  rw [Int.fdiv_eq_ediv_of_nonneg i (by omega), Int.fmod_eq_emod_of_nonneg i (by omega)]
  have hn : H s.heap.objs.size = none := I.hok.fresh (Nat.le_refl _)
  refine ⟨.ref s.heap.objs.size, _, ?_, rfl, q _ hn⟩
  refine I.laid (fun b o e => Heap.get?_push_of_some _ e) (Nat.le_refl _) ⟨by simp only [List.length_cons, List.length_nil]; rw [sizeLine_eq]; decide, [.int (i / j) s.toks, .int (i % j) (s.toks + 1)], .cons ⟨_, rfl⟩ (.cons ⟨_, rfl⟩ .nil), ?_⟩
  exact ⟨_, Heap.get?_push_size s.heap rfl, rfl, 0, rfl⟩
end
end L2

namespace L2
open PySem PySem.Spec PyProof.Rows

/-! ### an instance, its attributes a map -/
structure ObjM (h : Heap) (x dx C : Addr) (mA : Str → Option Value) : Prop where
  obj : h.get? x = some (PySem.W.instObj C dx)
  ns : h.Ns1 dx mA
  ne : dx ≠ x

theorem lookIn_ns {h : Heap} {dx : Addr} {mA : Str → Option Value} (n : h.Ns1 dx mA) : ∃ od, h.get? dx = some od ∧ ∀ name, PySem.W.lookIn name od = some (mA name) := by
  obtain ⟨o, es, ep, ho, hd, hk, _, hm⟩ := n
  refine ⟨o, ho, fun name => ?_⟩
  have e := hm name
  unfold nsFind findBy at e
  rw [← Array.find?_toList] at e
  unfold PySem.W.lookIn
  rw [hd]
  dsimp only
  split
  · rename_i y q
    rw [q] at e
    exact congrArg some e
  · rename_i q
    rw [q] at e
    have a : es.toList.any (·.refKey) = false := by
      rw [List.any_eq_false]
      intro y hy
      obtain ⟨z, t, hkey⟩ := hk y (Array.mem_toList_iff.mp hy)
      simp [DictEntry.refKey, hkey]
    have a' : ¬ es.toList.any (·.refKey) = true := by rw [a]; exact Bool.false_ne_true
    rw [if_neg a']
    exact congrArg some e

theorem ObjM.look {h : Heap} {x dx C : Addr} {mA : Str → Option Value} (I : ObjM h x dx C mA) : ∃ od, PySem.W.InstAt h x (PySem.W.instObj C dx) C (some od) ∧ ∀ name, PySem.W.lookIn name od = some (mA name) :=
  let ⟨od, ho, hl⟩ := lookIn_ns I.ns
  ⟨od, ⟨I.obj, rfl, rfl, ho⟩, hl⟩

section
variable {prog : Program} {w : World} {A : Around} {E : Value → Shared → Prop} {s : Shared} {K : PySem.W.Frag} {x dx C f : Addr} {mA : Str → Option Value} {name : Str} {v : Value}

theorem get_map {expr : Bool} {Q : Value → Shared → Prop} (X : K.In s.heap) (I : ObjM s.heap x dx C mA) (hg : PySem.W.plainGet K C name = true) (hh : PySem.W.hasDictIn K C = true)
    (ha : PySem.W.findIn K (.ref C) name = some none) (hv : mA name = some v) (hv' : PySem.W.handedIn v = true) (h : Q v { s with toks := s.toks + 1 }) :
    wpAny (model prog w) A (getAttr (.ref x) name expr) Q E s := by
  obtain ⟨od, J, hl⟩ := I.look
  exact PySem.W.get_value X J (PySem.W.plainGet_of hg).1 (PySem.W.findObj_own hh ha rfl (by rw [hl, hv])) hv' h

theorem get_const {expr : Bool} {a : Value} {Q : Value → Shared → Prop} (X : K.In s.heap) (I : ObjM s.heap x dx C mA) (hg : PySem.W.plainGet K C name = true) (hh : PySem.W.hasDictIn K C = true)
    (ha : PySem.W.findIn K (.ref C) name = some (some a)) (hn : PySem.W.specialIn K a "__get__" = some none) (hc : PySem.W.copiedNames.contains name = false) (hv : mA name = none) (hv' : PySem.W.handedIn a = true)
    (h : Q a { s with toks := s.toks + 1 }) : wpAny (model prog w) A (getAttr (.ref x) name expr) Q E s := by
  obtain ⟨od, J, hl⟩ := I.look
  exact PySem.W.get_value X J (PySem.W.plainGet_of hg).1 (PySem.W.findObj_cls hh ha hn hv' hc (by rw [hl, hv])) hv' h

theorem get_meth {pl : Sem Bool} {Q : Value × List Value → Shared → Prop} (X : K.In s.heap) (I : ObjM s.heap x dx C mA) (hg : PySem.W.plainGet K C name = true)
    (hf : PySem.W.findIn K (.ref C) name = some (some (.ref f))) (ht : PySem.W.isFn K (.ref f) = true) (hv : mA name = none) (h : Q (.ref f, [.ref x]) s) :
    wpAny (model prog w) A (getMethod (.ref x) name pl) Q E s := by
  obtain ⟨od, J, hl⟩ := I.look
  exact PySem.W.method_fn X J (PySem.W.plainGet_of hg).1 (PySem.W.plainGet_of hg).2 hf (beq_iff_eq.mp ht) (by show (PySem.W.lookIn name od).map (·.isSome) = some false; rw [hl, hv]; rfl) h

theorem set_map {ns : List Str} {Q : Unit → Shared → Prop} (X : K.In s.heap) (I : ObjM s.heap x dx C mA)
    (hs : PySem.W.findIn K (.ref C) "__setattr__" = some (some (.builtin "object.__setattr__"))) (hp : PySem.W.plainOver K C = true) (ht : PySem.W.takerIn K C name = some none) (hh : PySem.W.hasDictIn K C = true)
    (hw : PySem.Within mA ns) (hsz : ns.length ≤ sizeLine)
    (h : ∀ h', ObjM h' x dx C (fun y => if y = name then some v else mA y) → Heap.SameBut dx s.heap h' → Q () { s with heap := h', toks := s.toks + 2 }) :
    wpAny (model prog w) A (setAttr (.ref x) name v) Q E s := by
  obtain ⟨od, J, hl⟩ := I.look
  refine PySem.W.set_plain X J hs (PySem.W.osa_open (s := { s with toks := s.toks + 1 }) (r := none) X J hp ht fun b => ?_)
  obtain ⟨cd, hc, hd'⟩ := PySem.W.any_some hh
  have hx : s.heap.get? x = some ⟨.ref C, some dx, .plain, #[]⟩ := I.obj
  refine wpAny_bind (wpAny_pure (wpAny_bind (wpAny_bind (wpAny_loadPart hx (wpAny_bind (PySem.W.Looks.here (s := { s with toks := s.toks + 1 }) (PySem.W.looks_clsIn X hc) ?_))))))
  rw [hd']
  refine wpAny_pure (a := some dx) (wpAny_bind (wpAny_pure (wpAny_bind ?_)))
  refine wpAny_nsSet1 (s := { s with toks := s.toks + 1 }) I.ns fun h' hn2 hs2 => ?_
  obtain ⟨oD, esD, epD, hoD, hdD, hcD⟩ := hn2.count (PySem.Within.cons name v hw)
  refine wpAny_bind (wpAny_lookBehind hoD (by rw [hdD]; exact pastItsLine_dict (Nat.le_trans hcD (by rw [List.length_cons]; omega))) ?_)
  exact wpAny_pure (h _ ⟨(hs2.2 _ (Ne.symm I.ne)).trans I.obj, hn2, I.ne⟩ hs2)

/-- C(..): the dict at the heap's end, the instance behind it; then its __init__ -/
theorem make_map {R : Result → Shared → Prop} {vs : List Value} {kw : List (Str × Value)} (X : K.In s.heap) (hm : PySem.W.makesIn K C = true)
    (hi : PySem.W.findIn K (.ref C) "__init__" = some (some (.ref f))) (hf : PySem.W.typeIn K (.ref f) = some (.type "function"))
    (h : codeAny (model prog w) (A.under (.builtin "type.__call__" ⟨.ref C :: vs, kw⟩)) (.call (.ref f) ⟨.ref (s.heap.objs.size + 1) :: vs, kw⟩) (PySem.W.InitBack (s.heap.objs.size + 1) R)
      { s with heap := (s.heap.push PySem.W.emptyDict).push (PySem.W.instObj C s.heap.objs.size) }) :
    codeAny (model prog w) A (.call (.ref C) ⟨vs, kw⟩) R s := by
  obtain ⟨hh, g, d, t, os⟩ := s
  exact PySem.W.make_core (PySem.W.makes_of X hm) (PySem.W.looks_findIn X hi) (fun self => PySem.W.bind_fn X self hf) (.inl rfl) h
/-- C() where there is no __init__ but object's -/
theorem make_map0 {R : Result → Shared → Prop} (X : K.In s.heap) (hm : PySem.W.makesIn K C = true)
    (hi : PySem.W.findIn K (.ref C) "__init__" = some (some (.builtin "object.__init__")))
    (hb : ∀ self, PySem.W.Looks (model prog w) s.heap (bindSpecial (.builtin "object.__init__") self) (.builtin "object.__init__", [self]))
    (h : codeAny (model prog w) (A.under (.builtin "type.__call__" ⟨[.ref C], []⟩)) (.call (.builtin "object.__init__") ⟨[.ref (s.heap.objs.size + 1)], []⟩) (PySem.W.InitBack (s.heap.objs.size + 1) R)
      { s with heap := (s.heap.push PySem.W.emptyDict).push (PySem.W.instObj C s.heap.objs.size) }) :
    codeAny (model prog w) A (.call (.ref C) ⟨[], []⟩) R s := by
  obtain ⟨hh, g, d, t, os⟩ := s
  exact PySem.W.make_core (PySem.W.makes_of X hm) (PySem.W.looks_findIn X hi) hb (.inr ⟨rfl, rfl⟩) h
end

/-! ### the attributes as a list of pairs -/
def putF (f : Str) (v : V) : List (Str × V) → List (Str × V)
  | [] => [(f, v)]
  | (g, x) :: r => if g = f then (g, v) :: r else (g, x) :: putF f v r
theorem lookup_putF (f g : Str) (v : V) : ∀ fs : List (Str × V), (putF f v fs).lookup g = if g = f then some v else fs.lookup g
  | [] => by
    show List.lookup g [(f, v)] = _
    by_cases h : g = f
    · have hb : (g == f) = true := beq_iff_eq.mpr h
      simp only [List.lookup, hb, if_pos h]
    · have hb : (g == f) = false := beq_eq_false_iff_ne.mpr h
      simp only [List.lookup, hb, if_neg h]
  | (k, x) :: r => by
    have ih := lookup_putF f g v r
    rw [show putF f v ((k, x) :: r) = (if k = f then (k, v) :: r else (k, x) :: putF f v r) from rfl]
    by_cases hk : k = f
    · rw [if_pos hk]
      by_cases h : g = k
      · have hb : (g == k) = true := beq_iff_eq.mpr h
        simp only [List.lookup, hb, if_pos (h.trans hk)]
      · have hb : (g == k) = false := beq_eq_false_iff_ne.mpr h
        simp only [List.lookup, hb, if_neg (fun e : g = f => h (e.trans hk.symm))]
    · rw [if_neg hk]
      by_cases h : g = k
      · have hb : (g == k) = true := beq_iff_eq.mpr h
        simp only [List.lookup, hb, if_neg (fun e : g = f => hk (h.symm.trans e))]
      · have hb : (g == k) = false := beq_eq_false_iff_ne.mpr h
        simp only [List.lookup, hb]
        exact ih
theorem keys_putF (f : Str) (v : V) : ∀ fs : List (Str × V), f ∈ (putF f v fs).map (·.1) ∧ ∀ g, g ∈ fs.map (·.1) → g ∈ (putF f v fs).map (·.1)
  | [] => ⟨by simp [putF], fun g h => by simp at h⟩
  | (k, x) :: r => by
    obtain ⟨i1, i2⟩ := keys_putF f v r
    rw [show putF f v ((k, x) :: r) = (if k = f then (k, v) :: r else (k, x) :: putF f v r) from rfl]
    by_cases hk : k = f
    · rw [if_pos hk]
      subst hk
      exact ⟨by simp, fun g h => by simpa using h⟩
    · rw [if_neg hk]
      refine ⟨?_, fun g h => ?_⟩
      · rw [List.map_cons]
        exact List.mem_cons_of_mem _ i1
      · rw [List.map_cons] at h ⊢
        rcases List.mem_cons.mp h with e | e
        · exact List.mem_cons.mpr (.inl e)
        · exact List.mem_cons_of_mem _ (i2 g e)
theorem length_putF (f : Str) (v : V) : ∀ fs : List (Str × V), (putF f v fs).length ≤ fs.length + 1
  | [] => by simp [putF]
  | (k, x) :: r => by
    have ih := length_putF f v r
    rw [show putF f v ((k, x) :: r) = (if k = f then (k, v) :: r else (k, x) :: putF f v r) from rfl]
    by_cases hk : k = f
    · rw [if_pos hk, List.length_cons, List.length_cons]; omega
    · rw [if_neg hk, List.length_cons, List.length_cons]; omega

theorem RelO.some_of {v : V} {o : Option Value} (r : RelO (some v) o) : ∃ u, o = some u ∧ RelV v u := by
  cases o with
  | none => exact (show False from r).elim
  | some u => exact ⟨u, rfl, r⟩
theorem RelO.none_of {o : Option Value} (r : RelO none o) : o = none := by
  cases o with
  | none => rfl
  | some u => exact (show False from r).elim
theorem handed_of {v : V} {u : Value} (r : RelV v u) : PySem.W.handedIn u = true := by
  cases v with
  | non => cases (show u = Value.none from r); rfl
  | bl b => cases (show u = Value.bool b from r); rfl
  | int i => obtain ⟨t, e⟩ := (show ∃ t, u = Value.int i t from r); cases e; rfl
  | str x => obtain ⟨t, e⟩ := (show ∃ t, u = Value.str x t from r); cases e; rfl
  | byt b => obtain ⟨t, e⟩ := (show ∃ t, u = Value.bytes b t from r); cases e; rfl
  | flt b => obtain ⟨t, e⟩ := (show ∃ t, u = Value.float b t from r); cases e; rfl
  | ref a => cases (show u = Value.ref a from r); rfl
  | ty n => cases (show u = Value.type n from r); rfl

section
variable {P : Program} {w : World} {H H' : Hp} {h h' : Heap} {a C dx : Addr} {fs fs' : List (Str × V)}
theorem ins_get (hok : HOk P w H h) (e : H a = some (.ins C dx fs)) : ∃ mA, ObjM h a dx C mA ∧ (∀ f, RelO (fs.lookup f) (mA f)) ∧ PySem.Within mA (fs.map (·.1)) ∧ fs.length ≤ 1000 ∧ H dx = some (.own a) := by
  obtain ⟨d, z, ne, ob, mA, n, r, q⟩ := (show ObjOk P w H h a (.ins C dx fs) from hok a _ e)
  exact ⟨mA, ⟨ob, n, ne⟩, r, q, z, d⟩
end

/-! ### what of the text a class must have -/
structure Cls (K : PySem.W.Frag) (C : Addr) : Prop where
  pg : PySem.W.plainGet K C Str.empty = true
  hd : PySem.W.hasDictIn K C = true
  po : PySem.W.plainOver K C = true
  sa : PySem.W.findIn K (.ref C) "__setattr__" = some (some (.builtin "object.__setattr__"))
theorem Cls.get {K : PySem.W.Frag} {C : Addr} (c : Cls K C) (f : Str) : PySem.W.plainGet K C f = true := c.pg
/-- no class of it has the name -/
def NoAttr (K : PySem.W.Frag) (C : Addr) (f : Str) : Prop := PySem.W.findIn K (.ref C) f = some none
theorem NoAttr.taker {K : PySem.W.Frag} {C : Addr} {f : Str} (n : NoAttr K C f) : PySem.W.takerIn K C f = some none := by
  unfold PySem.W.takerIn
  rw [show PySem.W.findIn K (.ref C) f = some none from n]
  rfl
/-- a constant of the class -/
structure Con (K : PySem.W.Frag) (C : Addr) (f : Str) (v : V) (u : Value) : Prop where
  at_ : PySem.W.findIn K (.ref C) f = some (some u)
  rel : RelV v u
  get : PySem.W.specialIn K u "__get__" = some none
  cp : PySem.W.copiedNames.contains f = false
/-- a method: a plain def of the class or of one above it -/
structure Meth (K : PySem.W.Frag) (C : Addr) (m : Str) (f : Addr) : Prop where
  at_ : PySem.W.findIn K (.ref C) m = some (some (.ref f))
  fn : PySem.W.isFn K (.ref f) = true
  kp : PySem.W.keepIn K (.ref f) = true

section
variable {X : Cx} {pins : List (Addr × Obj)} {σ : St} {H : Hp} {s : Shared} {a C dx : Addr} {fs : List (Str × V)} {f : Str} {v : V} {A : Around} {E : Value → Shared → Prop}

theorem getattr_ok {b : Bool} {Q : Value → Shared → Prop} (I : Inv X pins σ H s) (e : H a = some (.ins C dx fs)) (c : Cls X.K C) (n : NoAttr X.K C f) (l : fs.lookup f = some v)
    (h : ∀ u s', Inv X pins σ H s' → RelV v u → Q u s') : wpAny (model X.prog X.w) A (getAttr (.ref a) f b) Q E s := by
  obtain ⟨mA, O, r, _, _, _⟩ := ins_get I.hok e
  obtain ⟨u, hu, ru⟩ := RelO.some_of (v := v) (o := mA f) (by rw [← l]; exact r f)
  exact get_map I.kIn O (c.get f) c.hd n hu (handed_of ru) (h u _ (I.tok _) ru)

theorem getcon_ok {b : Bool} {u : Value} {Q : Value → Shared → Prop} (I : Inv X pins σ H s) (e : H a = some (.ins C dx fs)) (c : Cls X.K C) (k : Con X.K C f v u) (l : fs.lookup f = none)
    (h : ∀ s', Inv X pins σ H s' → Q u s') : wpAny (model X.prog X.w) A (getAttr (.ref a) f b) Q E s := by
  obtain ⟨mA, O, r, _, _, _⟩ := ins_get I.hok e
  have hn : mA f = none := RelO.none_of (by rw [← l]; exact r f)
  exact get_const I.kIn O (c.get f) c.hd k.at_ k.get k.cp hn (handed_of k.rel) (h _ (I.tok _))

theorem getmeth_ok {m : Str} {g : Addr} {pl : Sem Bool} {Q : Value × List Value → Shared → Prop} (I : Inv X pins σ H s) (e : H a = some (.ins C dx fs)) (c : Cls X.K C) (k : Meth X.K C m g) (l : fs.lookup m = none)
    (h : Q (.ref g, [.ref a]) s) : wpAny (model X.prog X.w) A (getMethod (.ref a) m pl) Q E s := by
  obtain ⟨mA, O, r, _, _, _⟩ := ins_get I.hok e
  have hn : mA m = none := RelO.none_of (by rw [← l]; exact r m)
  exact get_meth I.kIn O (c.get m) k.at_ k.fn hn h

theorem setattr_ok {y : V} {u : Value} {Q : Unit → Shared → Prop} (I : Inv X pins σ H s) (e : H a = some (.ins C dx fs)) (c : Cls X.K C) (n : NoAttr X.K C f) (hl : fs.length < 1000) (ry : RelV y u)
    (h : ∀ s', Inv X pins σ (upd H a (.ins C dx (putF f y fs))) s' → Q () s') : wpAny (model X.prog X.w) A (setAttr (.ref a) f u) Q E s := by
  obtain ⟨mA, O, r, wi, _, ho⟩ := ins_get I.hok e
  have hz : (fs.map (·.1)).length ≤ sizeLine := by rw [List.length_map, sizeLine_eq]; omega
  refine set_map I.kIn O c.sa c.po n.taker c.hd wi hz fun h' O' sb => h _ ?_
  have hd : ∃ o, h'.get? dx = some o := let ⟨o, _, _, e', _⟩ := O'.ns; ⟨o, e'⟩
  refine I.write (x := a) (e := dx) (by rw [e]; exact True.intro) (.inr ho) (fun b q hb z => (sb.2 b hb).trans z) hd ?_
  refine ⟨by rw [upd_ne O.ne]; exact ho, ?_, O.ne, O'.obj, _, O'.ns, fun g => ?_, fun g hg => ?_⟩
  · have := length_putF f y fs; omega
  · show RelO ((putF f y fs).lookup g) (if g = f then some u else mA g)
    rw [lookup_putF]
    by_cases q : g = f
    · rw [if_pos q, if_pos q]; exact ry
    · rw [if_neg q, if_neg q]; exact r g
  · by_cases q : g = f
    · rw [q]; exact (keys_putF f y fs).1
    · refine (keys_putF f y fs).2 g (wi g fun z => hg ?_)
      show (if g = f then some u else mA g) = none
      rw [if_neg q]; exact z

/-- a new instance, tracked, without attributes -/
theorem Inv.made (I : Inv X pins σ H s) : Inv X pins σ (upd (upd H s.heap.objs.size (.own (s.heap.objs.size + 1))) (s.heap.objs.size + 1) (.ins C s.heap.objs.size []))
    { s with heap := (s.heap.push PySem.W.emptyDict).push (PySem.W.instObj C s.heap.objs.size) } := by
  have e1 : (s.heap.push PySem.W.emptyDict).get? s.heap.objs.size = some PySem.W.emptyDict := Heap.get?_push_size s.heap rfl
  have e2 : ((s.heap.push PySem.W.emptyDict).push (PySem.W.instObj C s.heap.objs.size)).get? (s.heap.objs.size + 1) = some (PySem.W.instObj C s.heap.objs.size) := by
    have := Heap.get?_push_size (s.heap.push PySem.W.emptyDict) (o := PySem.W.instObj C s.heap.objs.size) rfl
    rwa [Heap.size_push] at this
  have e3 : (s.heap.push PySem.W.emptyDict).Ns s.heap.objs.size (fun _ => none) := ⟨PySem.W.emptyDict, #[], _, e1, rfl, (fun e he => absurd he (by simp)), fun _ => rfl⟩
  have I1 := I.laid (a := s.heap.objs.size) (o := .own (s.heap.objs.size + 1)) (h' := s.heap.push PySem.W.emptyDict) (t' := s.toks) (fun b u q => Heap.get?_push_of_some _ q) (Nat.le_refl _) ⟨_, e1⟩
  refine I1.laid (a := s.heap.objs.size + 1) (o := .ins C s.heap.objs.size []) (t' := s.toks) (fun b u q => Heap.get?_push_of_some _ q) (Nat.le_of_eq (Heap.size_push _ _)) ?_
  have ne : s.heap.objs.size ≠ s.heap.objs.size + 1 := Nat.ne_of_lt (Nat.lt_succ_self _)
  refine ⟨by rw [upd_ne ne, upd_same], Nat.zero_le _, ne, e2, fun _ => none, (Heap.Ns1.of_empty e3).at fun o q => Heap.get?_push_of_some _ q, fun _ => True.intro, fun y hy => absurd rfl hy⟩

/-- e.f where nothing but the object is asked: through attributeBase (super) and the last hold -/
theorem attr_of {prog : Program} {w : World} {env : Env} {e : Expr} {f : Str} {pos : Pos} {s : Shared} {Q : Value → Shared → Prop} (hb : attributeBase e f env (eval e env) = eval e env)
    (h : wpAny (model prog w) A (eval e env) (fun o s₁ => wpAny (model prog w) A (getAttr o f true) Q E s₁) E s) : wpAny (model prog w) A (eval (.Attribute e f pos) env) Q E s :=
  Attribute_any_ h (by rw [arm_eval_Attribute, hb])
end

/-! ### readings and rules -/
/-- e.f, an attribute of the instance -/
def tFld (K : PySem.W.Frag) (ta : TE) (f : Str) : TE := fun σ H Q => ta σ H fun x H1 => ∃ a C dx fs v, x = .ref a ∧ H1 a = some (.ins C dx fs) ∧ Cls K C ∧ NoAttr K C f ∧ fs.lookup f = some v ∧ Q v H1
/-- e.f, a constant of the class -/
def tCon (K : PySem.W.Frag) (ta : TE) (f : Str) : TE := fun σ H Q => ta σ H fun x H1 => ∃ a C dx fs v u, x = .ref a ∧ H1 a = some (.ins C dx fs) ∧ Cls K C ∧ Con K C f v u ∧ fs.lookup f = none ∧ Q v H1
/-- e.f = value -/
def sFld (K : PySem.W.Frag) (ta tv : TE) (f : Str) : TS := fun D σ H => tv σ H fun y H1 => ta σ H1 fun x H2 => ∃ a C dx fs, x = .ref a ∧ H2 a = some (.ins C dx fs) ∧ Cls K C ∧ NoAttr K C f ∧ fs.length < 1000 ∧
  D.nx σ (upd H2 a (.ins C dx (putF f y fs)))
/-- an augmented operator on two values -/
def InOp (X : Cx) (op : Operator) (rd : V → V → Hp → VK → Prop) : Prop :=
  ∀ (pins : List (Addr × Obj)) (s : Shared) (σ : St) (H : Hp) (x y : V) (u v : Value) (Q : VK), Inv X pins σ H s → RelV x u → RelV y v → rd x y H Q → wpAny (model X.prog X.w) X.A (inplaceOp op u v) (EP X pins σ Q) X.xe s
/-- e.f op= value -/
def sFldAug (K : PySem.W.Frag) (ta tv : TE) (rd : V → V → Hp → VK → Prop) (f : Str) : TS := fun D σ H => ta σ H fun x H1 => ∃ a C dx fs v, x = .ref a ∧ H1 a = some (.ins C dx fs) ∧ Cls K C ∧ NoAttr K C f ∧ fs.lookup f = some v ∧
  tv σ H1 fun y H2 => rd v y H2 fun z H3 => ∃ dx' fs', H3 a = some (.ins C dx' fs') ∧ fs'.length < 1000 ∧ D.nx σ (upd H3 a (.ins C dx' (putF f z fs')))

section
variable {X : Cx} {o e value : Expr} {f : Str} {pos pos' tpos : Pos} {ta tv : TE}
theorem pe_fld (he : PE X e ta) (hb : attributeBase e f X.env (eval e X.env) = eval e X.env) : PE X (.Attribute e f pos) (tFld X.K ta f) := by
  intro pins s σ H Q I h
  refine attr_of hb (thn (he pins s σ H _ I h) fun u s1 ⟨x, H1, I1, rx, a, C, dx, fs, v, ex, ea, c, n, l, q⟩ => ?_)
  subst ex
  obtain rfl : u = Value.ref a := rx
  exact getattr_ok I1 ea c n l fun u' s2 I2 ru => ⟨v, H1, I2, ru, q⟩
theorem pe_con (he : PE X e ta) (hb : attributeBase e f X.env (eval e X.env) = eval e X.env) : PE X (.Attribute e f pos) (tCon X.K ta f) := by
  intro pins s σ H Q I h
  refine attr_of hb (thn (he pins s σ H _ I h) fun u s1 ⟨x, H1, I1, rx, a, C, dx, fs, v, u0, ex, ea, c, k, l, q⟩ => ?_)
  subst ex
  obtain rfl : u = Value.ref a := rx
  exact getcon_ok I1 ea c k l fun s2 I2 => ⟨v, H1, I2, k.rel, q⟩
theorem ps_fld (ha : PE X o ta) (hv : PE X value tv) (hs : swapsWith value (some (.Attribute o f pos')) pos.line X.env = pure false) : PS X (.Assign [.Attribute o f pos'] value pos) (sFld X.K ta tv f) := by
  intro pins s σ H D I h
  refine plainObj_wpAny_Assign_Attribute (thn (hv pins s σ H _ I h) fun u s1 ⟨y, H1, I1, ry, q⟩ => thn (ha pins s1 σ H1 _ I1 q) fun ov s2 ⟨x, H2, I2, rx, a, C, dx, fs, ex, ea, c, n, l, q2⟩ => ?_) hs
  subst ex
  obtain rfl : ov = Value.ref a := rx
  exact setattr_ok I2 ea c n l ry fun s3 I3 => ⟨σ, _, I3, q2⟩
theorem ps_fldaug {op : Operator} {rd : V → V → Hp → VK → Prop} (ha : PE X o ta) (hv : PE X value tv) (hop : InOp X op rd) : PS X (.AugAssign (.Attribute o f tpos) op value pos) (sFldAug X.K ta tv rd f) := by
  intro pins s σ H D I h
  refine wpAny_AugAssign_AttributeAny (thn (ha pins s σ H _ I h) fun ov s1 ⟨x, H1, I1, rx, a, C, dx, fs, v, ex, ea, c, n, l, q⟩ => ?_)
  subst ex
  obtain rfl : ov = Value.ref a := rx
  refine getattr_ok I1 ea c n l fun u s2 I2 ru => thn (hv pins s2 σ H1 _ I2 q) fun w3 s3 ⟨y, H2, I3, ry, q3⟩ => thn (hop pins s3 σ H2 v y u w3 _ I3 ru ry q3) fun w4 s4 ⟨z, H3, I4, rz, dx', fs', ea', l', q4⟩ => ?_
  exact setattr_ok I4 ea' c n l' rz fun s5 I5 => ⟨σ, _, I5, q4⟩
def rAdd : V → V → Hp → VK → Prop := fun x y H Q => ∃ i j, x = .int i ∧ y = .int j ∧ Q (.int (i + j)) H
def rSub : V → V → Hp → VK → Prop := fun x y H Q => ∃ i j, x = .int i ∧ y = .int j ∧ Q (.int (i - j)) H
theorem in_add : InOp X .Add rAdd := by
  rintro pins s σ H x y u v Q I rx ry ⟨i, j, rfl, rfl, q⟩
  obtain ⟨t, rfl⟩ := (show ∃ t, u = Value.int i t from rx)
  obtain ⟨t', rfl⟩ := (show ∃ t', v = Value.int j t' from ry)
  exact PyProof.Rows.iadd_int ⟨.int (i + j), H, I.tok _, ⟨_, rfl⟩, q⟩
theorem in_sub : InOp X .Sub rSub := by
  rintro pins s σ H x y u v Q I rx ry ⟨i, j, rfl, rfl, q⟩
  obtain ⟨t, rfl⟩ := (show ∃ t, u = Value.int i t from rx)
  obtain ⟨t', rfl⟩ := (show ∃ t', v = Value.int j t' from ry)
  exact PyProof.Rows.isub_int ⟨.int (i - j), H, I.tok _, ⟨_, rfl⟩, q⟩

/-- what is between an instance and its method: the tree of a method call -/
theorem methcall_of {pl : Sem Bool} {m : Str} {apos : Pos} {args : List Expr} {pins : List (Addr × Obj)} {s : Shared} {σ : St} {H : Hp} {Q : Value → Shared → Prop} {te : TE} (he : PE X e te) (I : Inv X pins σ H s)
    (h : te σ H fun x H1 => ∃ a C dx fs g, x = .ref a ∧ H1 a = some (.ins C dx fs) ∧ Cls X.K C ∧ Meth X.K C m g ∧ fs.lookup m = none ∧
      ∀ s1, Inv X pins σ H1 s1 → wpAny (model X.prog X.w) X.A (callWith pos (.ref g) [.ref a] (backTo pos (starEach args X.env)) (backToKw pos (keywordEach [] X.env))) Q X.xe s1)
    (ht : eval (.Call (.Attribute e m apos) args [] pos) X.env = (do
      let ov ← eval e X.env
      standAt apos.atName
      let (f, first) ← holding [ov] (getMethod ov m pl)
      callWith pos f first (backTo pos (starEach args X.env)) (backToKw pos (keywordEach [] X.env)))) :
    wpAny (model X.prog X.w) X.A (eval (.Call (.Attribute e m apos) args [] pos) X.env) Q X.xe s := by
  refine PySem.W.methodCall_KW (pl := pl) (thn (he pins s σ H _ I h) fun u s1 ⟨x, H1, I1, rx, a, C, dx, fs, g, ex, ea, c, k, l, q⟩ => ?_) ht
  subst ex
  obtain rfl : u = Value.ref a := rx
  exact getmeth_ok I1 ea c k l (q s1 I1)
end

/-! ### isinstance -/
section
variable {X : Cx} {pins : List (Addr × Obj)} {σ : St} {H : Hp} {s : Shared} {A : Around} {E : Value → Shared → Prop} {Q : Value → Shared → Prop} {c : Value} {b : Bool}
/-- the type of a value, as the fragment's deciders take it; for an instance its class -/
inductive TyOf (K : PySem.W.Frag) (H : Hp) : V → Value → Prop where
  | non : TyOf K H .non (.type "NoneType")
  | bl (x : Bool) : TyOf K H (.bl x) (.type "bool")
  | int (i : Int) : TyOf K H (.int i) (.type "int")
  | str (x : Str) : TyOf K H (.str x) (.type "str")
  | flt (x : UInt64) : TyOf K H (.flt x) (.type "float")
  | lst {a : Addr} {xs : List V} (e : H a = some (.lst xs)) : TyOf K H (.ref a) (.type "list")
  | frz {a : Addr} {o : Obj} {xs : List V} (e : H a = some (.frz o (.lst xs))) : TyOf K H (.ref a) (.type "list")
  | tup {a : Addr} {xs : List V} (e : H a = some (.tup xs)) : TyOf K H (.ref a) (.type "tuple")
  | dK {a : Addr} {kvs : List (Key × V)} (e : H a = some (.dK kvs)) : TyOf K H (.ref a) (.type "dict")
  | dT {a : Addr} {kvs : List (List Key × V)} (e : H a = some (.dT kvs)) : TyOf K H (.ref a) (.type "dict")
  | ins {a C dx : Addr} {fs : List (Str × V)} (e : H a = some (.ins C dx fs)) (cl : Cls K C) (ha : PySem.W.findIn K (.ref C) "__class__" = some (some (.builtin "object.__class__")))
      (hn : PySem.W.specialIn K (.builtin "object.__class__") "__get__" = some (some (.builtin "getset_descriptor.__get__"))) (htk : PySem.W.takesIn K (.builtin "object.__class__") = some true)
      (hm : PySem.W.mroIn K C (.type "object") = some true) : TyOf K H (.ref a) (.ref C)
/-- isinstance(x, c) for one class c, a built-in or an own one: kitOne's answer -/
theorem isinst_ok {x : V} {u t : Value} (I : Inv X pins σ H s) (rx : RelV x u) (ty : TyOf X.K H x t) (e : PySem.W.kitOne X.K t c = some b) (h : ∀ tk, Q (.bool b) { s with toks := tk }) :
    wpAny (model X.prog X.w) A (call (.builtin "isinstance") [u, c]) Q E s := by
  cases ty with
  | non => cases (show u = Value.none from rx); exact PySem.W.kia_one PySem.W.kitx_none I.kIn True.intro e (fun z => nomatch z) h
  | bl y => cases (show u = Value.bool y from rx); exact PySem.W.kia_one PySem.W.kitx_bool I.kIn True.intro e (fun z => nomatch z) h
  | int i => obtain ⟨t, q⟩ := (show ∃ t, u = Value.int i t from rx); cases q; exact PySem.W.kia_one PySem.W.kitx_int I.kIn True.intro e (fun z => nomatch z) h
  | str y => obtain ⟨t, q⟩ := (show ∃ t, u = Value.str y t from rx); cases q; exact PySem.W.kia_one PySem.W.kitx_str I.kIn True.intro e (fun z => nomatch z) h
  | flt y => obtain ⟨t, q⟩ := (show ∃ t, u = Value.float y t from rx); cases q; exact PySem.W.kia_one PySem.W.kitx_float I.kIn True.intro e (fun z => nomatch z) h
  | @lst a xs ea =>
    cases (show u = Value.ref a from rx)
    obtain ⟨_, _, n, _, h1⟩ := (show ObjOk X.prog X.w H s.heap a (.lst xs) from I.hok a _ ea)
    exact PySem.W.kia_one PySem.W.kitx_list I.kIn ⟨_, h1, rfl⟩ e (fun z => nomatch z) h
  | @frz a ob xs ea =>
    cases (show u = Value.ref a from rx)
    obtain ⟨_, _, _, n, _, h1⟩ := (show ObjOk X.prog X.w H s.heap a (.frz ob (.lst xs)) from I.hok a _ ea)
    exact PySem.W.kia_one PySem.W.kitx_list I.kIn ⟨_, h1, rfl⟩ e (fun z => nomatch z) h
  | @tup a xs ea =>
    cases (show u = Value.ref a from rx)
    obtain ⟨_, _, _, p⟩ := (show ObjOk X.prog X.w H s.heap a (.tup xs) from I.hok a _ ea)
    obtain ⟨o, h1, h2, _⟩ := p
    exact PySem.W.kia_one PySem.W.kitx_tuple I.kIn ⟨o, h1, h2⟩ e (fun z => nomatch z) h
  | @dK a kvs ea =>
    cases (show u = Value.ref a from rx)
    obtain ⟨_, _, vs, _, p⟩ := (show ObjOk X.prog X.w H s.heap a (.dK kvs) from I.hok a _ ea)
    obtain ⟨o, es, ep, h1, h2, _⟩ := p
    exact PySem.W.kia_one PySem.W.kitx_dict I.kIn ⟨o, h1, h2.1⟩ e (fun z => nomatch z) h
  | @dT a kvs ea =>
    cases (show u = Value.ref a from rx)
    obtain ⟨_, _, xs, _, o, es, ep, h1, h2, _⟩ := (show ObjOk X.prog X.w H s.heap a (.dT kvs) from I.hok a _ ea)
    exact PySem.W.kia_one PySem.W.kitx_dict I.kIn ⟨o, h1, h2.1⟩ e (fun z => nomatch z) h
  | @ins a C dx fs ea cl ha hn htk hm =>
    cases (show u = Value.ref a from rx)
    obtain ⟨mA, O, _⟩ := ins_get I.hok ea
    obtain ⟨od, J, _⟩ := O.look
    exact PySem.W.kia_one (PySem.W.kitx_own (cl.get _) cl.hd ha hn htk hm) I.kIn J e (fun z => nomatch z) h
end
end L2

namespace L2
open PySem PySem.Spec PyProof.Rows

/-! ### room -/
structure Room (k : Nat) (A : Around) : Prop where
  hd : A.handled = none
  dp : A.depth + 3 * k + 5 < recursionLimit
  un : A.units + 16 * k + 200 < cLine
theorem Room.mono {j k : Nat} {A : Around} (r : Room k A) (h : j ≤ k) : Room j A := ⟨r.hd, by have := r.dp; omega, by have := r.un; omega⟩
theorem Room.deeper {k : Nat} {A : Around} (r : Room (k + 1) A) (env : Env) : Room k (A.deeper env) :=
  ⟨r.hd, by have := r.dp; show A.depth + 1 + 3 * k + 5 < _; omega, by have := r.un; show A.units + 3 + 16 * k + 200 < _; omega⟩
theorem Room.in1 {k : Nat} {A : Around} (r : Room (k + 1) A) : Room k A.in1 :=
  ⟨r.hd, by have := r.dp; show A.depth + 3 * k + 5 < _; omega, by have := r.un; show A.units + 1 + 16 * k + 200 < _; omega⟩
theorem make_depth {A : Around} {C : Addr} {us : List Value} {kw : List (Str × Value)} : (A.under (.builtin "type.__call__" ⟨.ref C :: us, kw⟩)).depth = A.depth + 1 := by
  first | rfl | simp [Around.under, Code.weight, Code.isCreation, Code.isGuard, Code.isCaller, Code.frames, Code.isFrame, guardIds]
theorem make_units {A : Around} {C : Addr} {us : List Value} {kw : List (Str × Value)} : (A.under (.builtin "type.__call__" ⟨.ref C :: us, kw⟩)).units = A.units + 1 := by
  first | rfl | simp [Around.under, Code.cUnits, Code.frames, Code.isFrame]
theorem Room.make {k : Nat} {A : Around} (r : Room (k + 1) A) (C : Addr) (us : List Value) (kw : List (Str × Value)) : Room k (A.under (.builtin "type.__call__" ⟨.ref C :: us, kw⟩)) :=
  ⟨r.hd, by have := r.dp; rw [make_depth]; omega, by have := r.un; rw [make_units]; omega⟩
theorem Room.depth {k : Nat} {A : Around} (r : Room k A) : A.depth < recursionLimit := by have := r.dp; omega
theorem Room.units {k : Nat} {A : Around} (r : Room k A) : A.units + 64 < cLine := by have := r.un; omega
theorem Room.units0 {k : Nat} {A : Around} (r : Room k A) : A.units < cLine := by have := r.un; omega

/-! ### argument lists and displays -/
def tNil : TA := fun _ H Q => Q [] H
def tCons (ta : TE) (tr : TA) : TA := fun σ H Q => ta σ H fun x H1 => tr σ H1 fun xs H2 => Q (x :: xs) H2
section
variable {X : Cx} {e : Expr} {es : List Expr} {te : TE} {t : TA} {pos : Pos}
theorem pa_nil : PA X [] tNil := fun _ _ _ _ H Q I h => Calls.spliced_nil ⟨[], H, I, .nil, h⟩
theorem pa_cons (ha : PE X e te) (hr : PA X es t) (hs : starEach (e :: es) X.env = (false, eval e X.env) :: starEach es X.env := by rfl) : PA X (e :: es) (tCons te t) := by
  intro pos pins s σ H Q I h
  rw [hs]
  show wpAny _ _ (spliced ((false, eval e X.env) :: backTo pos (starEach es X.env))) _ _ s
  refine Calls.spliced_cons (thn (ha pins s σ H _ I h) fun u s1 ⟨x, H1, I1, r1, q1⟩ => ?_)
  exact thn (hr pos pins s1 σ H1 _ I1 q1) fun us s2 ⟨xs, H2, I2, r2, q2⟩ => ⟨x :: xs, H2, I2, .cons r1 r2, q2⟩

/-- a tuple, a list of written items -/
def tTup (t : TA) : TE := fun σ H Q => t σ H fun xs H1 => xs.length ≤ sizeLine ∧ ∀ p, H1 p = none → Q (.ref p) (upd H1 p (.tup xs))
def tLst (t : TA) : TE := fun σ H Q => t σ H fun xs H1 => xs.length ≤ sizeLine ∧ ∀ p, H1 p = none → Q (.ref p) (upd H1 p (.lst xs))
theorem pe_tup {x1} (h : PA X es t) : PE X (.Tuple es x1 pos) (tTup t) := by
  intro pins s σ H Q I hq
  refine wpAny_Tuple_spliced (thn (h pos pins s σ H _ I hq) fun us s1 ⟨xs, H1, I1, r, z, q⟩ => ⟨by rw [← r.length]; exact z, ?_⟩)
  have hf : H1 s1.heap.objs.size = none := I1.hok.fresh (Nat.le_refl _)
  refine ⟨.ref s1.heap.objs.size, upd H1 s1.heap.objs.size (.tup xs), I1.laid (t' := s1.toks) (fun b u e => Heap.get?_push_of_some _ e) (Nat.le_refl _) ?_, rfl, q _ hf⟩
  exact ⟨z, us, r, ⟨_, Heap.get?_push_size _ rfl, rfl, _, rfl⟩⟩
theorem pe_lst (h : PA X es t) : PE X (.List es pos) (tLst t) := by
  intro pins s σ H Q I hq
  refine wpAny_List_spliced (thn (h pos pins s σ H _ I hq) fun us s1 ⟨xs, H1, I1, r, z, q⟩ => ⟨by rw [← r.length]; exact z, ?_⟩)
  have hf : H1 s1.heap.objs.size = none := I1.hok.fresh (Nat.le_refl _)
  refine ⟨.ref s1.heap.objs.size, upd H1 s1.heap.objs.size (.lst xs), I1.laid (t' := s1.toks) (fun b u e => Heap.get?_push_of_some _ e) (Nat.le_refl _) ?_, rfl, q _ hf⟩
  exact ⟨z, us, 0, r, Heap.get?_push_size _ rfl⟩
end

/-! ### what a def promises -/
/-- a def's promise: the bound arguments in the parameters' order, the heap, the wanted end, the wanted exception -/
abbrev Sp := List V → Hp → VK → XK → Prop
/-- how an exception lies behind a call (file 08 gives it): the callers' frames, abstract heap and state ahead of the call, the wish, the exception, the state -/
abbrev CXT := List Env → Hp → Shared → XK → Value → Shared → Prop

/-- the state at a call -/
structure Env0 (P : Program) (w : World) (K : PySem.W.Frag) (mg : Str → Option Value) (base : Heap) (A : Around) (outer : List Env) (s : Shared) (H : Hp) : Prop where
  frames : A.frames = some outer
  mod : Mod K mg base
  bs : ∀ b o, base.get? b = some o → s.heap.get? b = some o ∧ H b = none
  bsz : base.objs.size ≤ s.heap.objs.size
  funs : s.heap.FunFrames base outer
  frf : ∀ b ∈ frs outer, H b = none
  hok : HOk P w H s.heap
  bare : AllBare s.gens
/-- a call's end -/
def CE (outer : List Env) (P : Program) (w : World) (H : Hp) (s : Shared) (Q : VK) (u : Value) (s' : Shared) : Prop :=
  ∃ v H', s'.os = s.os ∧ AllBare s'.gens ∧ Un (frs outer) [] H H' s.heap s'.heap ∧ HOk P w H' s'.heap ∧ RelV v u ∧ Q v H'
def CR (CX : CXT) (outer : List Env) (P : Program) (w : World) (H : Hp) (s : Shared) (Q : VK) (E : XK) (r : Result) (s' : Shared) : Prop :=
  match r with
  | .ok (.ret u) => CE outer P w H s Q u s'
  | .ok _ => False
  | .error e => CX outer H s E e s'
structure FnOk (P : Program) (w : World) (K : PySem.W.Frag) (mg : Str → Option Value) (base : Heap) (CX : CXT) (k : Nat) (f : Addr) (fd : FuncData) (ps : List Str) (sp : Sp) : Prop where
  len : ∀ vs H Q E, sp vs H Q E → vs.length = ps.length
  run : ∀ (A : Around) (outer : List Env) (s : Shared) (H : Hp) (args : Args) (us : List Value) (vs : List V) (Q : VK) (E : XK), Room k A → Env0 P w K mg base A outer s H → BindsTo s fd args (ps.zip us) → Vals vs us → sp vs H Q E →
    codeAny (model P w) A (.call (.ref f) args) (CR CX outer P w H s Q E) s
theorem FnOk.mono {P : Program} {w : World} {K : PySem.W.Frag} {mg : Str → Option Value} {base : Heap} {CX : CXT} {j k : Nat} {f : Addr} {fd : FuncData} {ps : List Str} {sp : Sp} (F : FnOk P w K mg base CX j f fd ps sp) (h : j ≤ k) :
    FnOk P w K mg base CX k f fd ps sp := ⟨F.len, fun A outer s H args us vs Q E hr => F.run A outer s H args us vs Q E (hr.mono h)⟩
/-- a weaker promise -/
theorem FnOk.imp {P : Program} {w : World} {K : PySem.W.Frag} {mg : Str → Option Value} {base : Heap} {CX : CXT} {k : Nat} {f : Addr} {fd : FuncData} {ps : List Str} {sp sp' : Sp} (F : FnOk P w K mg base CX k f fd ps sp)
    (h : ∀ vs H Q E, sp' vs H Q E → sp vs H Q E) : FnOk P w K mg base CX k f fd ps sp' :=
  ⟨fun vs H Q E q => F.len vs H Q E (h _ _ _ _ q), fun A outer s H args us vs Q E hr he hb hv hs => F.run A outer s H args us vs Q E hr he hb hv (h _ _ _ _ hs)⟩

theorem Env0.make {P : Program} {w : World} {K : PySem.W.Frag} {mg : Str → Option Value} {base : Heap} {A : Around} {outer : List Env} {s : Shared} {H : Hp} (e : Env0 P w K mg base A outer s H) (C : Addr) (us : List Value) (kw : List (Str × Value)) :
    Env0 P w K mg base (A.under (.builtin "type.__call__" ⟨.ref C :: us, kw⟩)) outer s H := ⟨by first | exact e.frames | (simpa [Around.under, Code.envs, Code.isFrame, pushEnvs] using e.frames), e.mod, e.bs, e.bsz, e.funs, e.frf, e.hok, e.bare⟩
theorem Env0.in1 {P : Program} {w : World} {K : PySem.W.Frag} {mg : Str → Option Value} {base : Heap} {A : Around} {outer : List Env} {s : Shared} {H : Hp} (e : Env0 P w K mg base A outer s H) :
    Env0 P w K mg base A.in1 outer s H := ⟨e.frames, e.mod, e.bs, e.bsz, e.funs, e.frf, e.hok, e.bare⟩

section
variable {X : Cx} {pins : List (Addr × Obj)} {σ : St} {H : Hp} {s s' : Shared}
/-- from a body: what a callee wants -/
theorem Inv.env0 (I : Inv X pins σ H s) : Env0 X.prog X.w X.K X.mg X.base X.A X.stack s H :=
  ⟨I.ok.frames, I.ok.mod, I.bs, Nat.le_trans I.ok.bsz I.sz, I.stack, I.stkFree, I.hok, I.bare⟩
/-- behind a call -/
theorem Inv.after {Q : VK} {u : Value} (I : Inv X pins σ H s) (h : CE X.stack X.prog X.w H s Q u s') : EP X pins σ Q u s' := by
  obtain ⟨v, H', os, bare, un, hok, r, q⟩ := h
  obtain ⟨hh, g, d, t, os'⟩ := s'
  obtain rfl : os' = s.os := os
  exact ⟨v, H', I.call (h' := hh) (g' := g) (d' := d) (t' := t) (ch := []) un hok bare (fun b z => absurd z (by simp)), r, q⟩
end

/-! ### calls -/
/-- f(..): the written arguments, then the defaults dvs; E: what is wanted of an exception -/
def tCall (sp : Sp) (dvs : List V) (E : XK) (t : TA) : TE := fun σ H Q => t σ H fun vs H1 => sp (vs ++ dvs) H1 Q E
/-- o.m(..) of an instance of the class at C -/
def tMeth (C : Addr) (m : Str) (sp : Sp) (dvs : List V) (E : XK) (ta : TE) (t : TA) : TE := fun σ H Q => ta σ H fun x H1 => ∃ a dx fs, x = .ref a ∧ H1 a = some (.ins C dx fs) ∧ fs.lookup m = none ∧
  t σ H1 fun vs H2 => sp (x :: (vs ++ dvs)) H2 Q E
/-- C(..): a new instance and its dict, then __init__ -/
def tMake (C : Addr) (sp : Sp) (dvs : List V) (E : XK) (t : TA) : TE := fun σ H Q => t σ H fun vs H1 => ∀ x dx, H1 x = none → H1 dx = none → dx ≠ x →
  sp (.ref x :: (vs ++ dvs)) (upd (upd H1 dx (.own x)) x (.ins C dx [])) (fun v H2 => v = .non ∧ Q (.ref x) H2) E

/-- how the parameters are bound: us the positional arguments, kw the keywords' values by name, ds the defaults that fill up -/
def Binds (K : PySem.W.Frag) (fd : FuncData) (ps : List Str) (ds : List Value) : Prop :=
  ∀ (s : Shared) (us : List Value), K.In s.heap → (us ++ ds).length = ps.length → BindsTo s fd ⟨us, []⟩ (ps.zip (us ++ ds))
/-- every parameter is given -/
theorem Binds.all {K : PySem.W.Frag} {fd : FuncData} {ps : List Str} (h : ∀ us : List Value, us.length = ps.length → bindArgs fd ⟨us, []⟩ = pure (ps.zip us)) : Binds K fd ps [] := fun s us _ hl => by
  rw [List.append_nil] at hl ⊢
  exact .of_eq (h us hl)

/-- an exception of a callee reaches what this body wants of exceptions -/
def Passes (CX : CXT) (X : Cx) (E : XK) : Prop := ∀ (pins : List (Addr × Obj)) (σ : St) (H : Hp) (s : Shared) (e : Value) (s' : Shared), Inv X pins σ H s → CX X.stack H s E e s' → X.xe e s'

section
variable {X : Cx} {CX : CXT} {k : Nat} {f C : Addr} {fd : FuncData} {ps : List Str} {sp : Sp} {dvs : List V} {ds : List Value} {E : XK} {x m : Str} {p pos apos : Pos} {e o : Expr} {es : List Expr} {ta : TE} {t : TA}

/-- the callee runs -/
theorem run_fn {pins : List (Addr × Obj)} {σ : St} {H : Hp} {s : Shared} {Q : VK} {us : List Value} {vs : List V} (F : FnOk X.prog X.w X.K X.mg X.base CX k f fd ps sp) (hr : Room k X.A) (hb : Binds X.K fd ps ds) (hd : Vals dvs ds) (hx : Passes CX X E)
    (I : Inv X pins σ H s) (r : Vals vs us) (h : sp (vs ++ dvs) H Q E) : wpAny (model X.prog X.w) X.A (call (.ref f) us) (EP X pins σ Q) X.xe s := by
  have r2 : Vals (vs ++ dvs) (us ++ ds) := r.append hd
  have hl : (us ++ ds).length = ps.length := by rw [← r2.length]; exact F.len _ _ _ _ h
  refine wpAny_call (codeAny_mono (F.run X.A X.stack s H ⟨us, []⟩ (us ++ ds) (vs ++ dvs) Q E hr I.env0 (hb s us I.kIn hl) r2 h) fun r s' hq => ?_)
  cases r with
  | error e => exact hx pins σ H s e s' I hq
  | ok fl =>
    cases fl with
    | ret u => exact I.after hq
    | next => exact False.elim hq
    | brk => exact False.elim hq
    | cont => exact False.elim hq

theorem pe_call (F : FnOk X.prog X.w X.K X.mg X.base CX k f fd ps sp) (hr : Room k X.A) (hg : Gl X x) (hm : X.mg x = some (.ref f)) (hk : PySem.W.keepIn X.K (.ref f) = true) (hb : Binds X.K fd ps ds) (hd : Vals dvs ds) (hx : Passes CX X E)
    (ha : PA X (e :: es) t) (hdb : (x == ("__debug__" : Str)) = false := by decide) (he : starEach (e :: es) X.env = (false, eval e X.env) :: starEach es X.env := by rfl) (hpl : (backTo pos (starEach es X.env)).any (·.1) = false := by rfl) :
    PE X (.Call (.Name x p) (e :: es) [] pos) (tCall sp dvs E t) := by
  intro pins s σ H Q I h
  refine wpAny_Call_Name_kw (ld_glob I hg hm ?_ hdb)
  refine PySem.W.callWith_K (h₀ := X.base) I.ok.mod.kin hk (thn (ha pos pins s σ H _ I h) fun us s1 ⟨vs, H1, I1, r, q⟩ => ⟨I1.kIn, ?_⟩) he hpl
  exact run_fn F hr hb hd hx I1 r q
theorem pe_call0 (F : FnOk X.prog X.w X.K X.mg X.base CX k f fd ps sp) (hr : Room k X.A) (hg : Gl X x) (hm : X.mg x = some (.ref f)) (hk : PySem.W.keepIn X.K (.ref f) = true) (hb : Binds X.K fd ps ds) (hd : Vals dvs ds) (hx : Passes CX X E)
    (hdb : (x == ("__debug__" : Str)) = false := by decide) : PE X (.Call (.Name x p) [] [] pos) (tCall sp dvs E tNil) := by
  intro pins s σ H Q I h
  refine wpAny_Call_Name_kw (ld_glob I hg hm ?_ hdb)
  exact PySem.W.callWith_K0 I.kIn hk (run_fn (us := []) F hr hb hd hx I .nil h)

/-- o.m(e, ..) -/
theorem pe_meth {pl : Sem Bool} (he : PE X o ta) (c : Cls X.K C) (hm : Meth X.K C m f) (F : FnOk X.prog X.w X.K X.mg X.base CX k f fd ps sp) (hr : Room k X.A) (hb : Binds X.K fd ps ds) (hd : Vals dvs ds) (hx : Passes CX X E) (ha : PA X (e :: es) t)
    (hst : starEach (e :: es) X.env = (false, eval e X.env) :: starEach es X.env := by rfl) (hpl : (backTo pos (starEach es X.env)).any (·.1) = false := by rfl)
    (ht : eval (.Call (.Attribute o m apos) (e :: es) [] pos) X.env = (do
      let ov ← eval o X.env
      standAt apos.atName
      let (f, first) ← holding [ov] (getMethod ov m pl)
      callWith pos f first (backTo pos (starEach (e :: es) X.env)) (backToKw pos (keywordEach [] X.env))) := by rfl) :
    PE X (.Call (.Attribute o m apos) (e :: es) [] pos) (tMeth C m sp dvs E ta t) := by
  intro pins s σ H Q I h
  refine PySem.W.methodCall_KW (pl := pl) (thn (he pins s σ H _ I h) fun u s1 ⟨x, H1, I1, rx, a, dx, fs, ex, ea, l, q⟩ => ?_) ht
  subst ex
  obtain rfl : u = Value.ref a := rx
  refine getmeth_ok I1 ea c hm l ?_
  refine PySem.W.callWith_K (first := [.ref a]) (h₀ := X.base) I.ok.mod.kin hm.kp (thn (ha pos pins s1 σ H1 _ I1 q) fun us s2 ⟨vs, H2, I2, r, q2⟩ => ⟨I2.kIn, ?_⟩) hst hpl
  exact run_fn (us := .ref a :: us) (vs := .ref a :: vs) F hr hb hd hx I2 (.cons rfl r) q2
/-- o.m() -/
theorem pe_meth0 {pl : Sem Bool} (he : PE X o ta) (c : Cls X.K C) (hm : Meth X.K C m f) (F : FnOk X.prog X.w X.K X.mg X.base CX k f fd ps sp) (hr : Room k X.A) (hb : Binds X.K fd ps ds) (hd : Vals dvs ds) (hx : Passes CX X E)
    (ht : eval (.Call (.Attribute o m apos) [] [] pos) X.env = (do
      let ov ← eval o X.env
      standAt apos.atName
      let (f, first) ← holding [ov] (getMethod ov m pl)
      callWith pos f first (backTo pos (starEach [] X.env)) (backToKw pos (keywordEach [] X.env))) := by rfl) :
    PE X (.Call (.Attribute o m apos) [] [] pos) (tMeth C m sp dvs E ta tNil) := by
  intro pins s σ H Q I h
  refine PySem.W.methodCall_KW (pl := pl) (thn (he pins s σ H _ I h) fun u s1 ⟨x, H1, I1, rx, a, dx, fs, ex, ea, l, q⟩ => ?_) ht
  subst ex
  obtain rfl : u = Value.ref a := rx
  refine getmeth_ok I1 ea c hm l ?_
  exact PySem.W.callWith_K0 (first := [.ref a]) I1.kIn hm.kp (run_fn (us := [.ref a]) (vs := [.ref a]) F hr hb hd hx I1 (.cons rfl .nil) q)

/-- what a class must have to be made -/
structure Mk (K : PySem.W.Frag) (C f : Addr) : Prop where
  makes : PySem.W.makesIn K C = true
  init : PySem.W.findIn K (.ref C) "__init__" = some (some (.ref f))
  fn : PySem.W.isFn K (.ref f) = true
  kp : PySem.W.keepIn K (.ref C) = true

theorem run_make {pins : List (Addr × Obj)} {σ : St} {H : Hp} {s : Shared} {Q : VK} {us : List Value} {vs : List V} (M : Mk X.K C f) (F : FnOk X.prog X.w X.K X.mg X.base CX k f fd ps sp) (hr : Room (k + 1) X.A) (hb : Binds X.K fd ps ds) (hd : Vals dvs ds)
    (hx : Passes CX X E) (I : Inv X pins σ H s) (r : Vals vs us)
    (h : ∀ x dx, H x = none → H dx = none → dx ≠ x → sp (.ref x :: (vs ++ dvs)) (upd (upd H dx (.own x)) x (.ins C dx [])) (fun v H2 => v = .non ∧ Q (.ref x) H2) E) :
    wpAny (model X.prog X.w) X.A (call (.ref C) us) (EP X pins σ Q) X.xe s := by
  have hq := h (s.heap.objs.size + 1) s.heap.objs.size (I.hok.fresh (Nat.le_succ _)) (I.hok.fresh (Nat.le_refl _)) (Nat.ne_of_lt (Nat.lt_succ_self _))
  have I2 := Inv.made (C := C) I
  have r2 : Vals (V.ref (s.heap.objs.size + 1) :: (vs ++ dvs)) (Value.ref (s.heap.objs.size + 1) :: (us ++ ds)) := .cons rfl (r.append hd)
  have hl : (Value.ref (s.heap.objs.size + 1) :: us ++ ds).length = ps.length := by
    have e := r2.length
    rw [F.len _ _ _ _ hq] at e
    exact e.symm
  refine wpAny_call (make_map (f := f) I.kIn M.makes M.init (beq_iff_eq.mp M.fn) (codeAny_mono (F.run _ X.stack _ _ ⟨Value.ref (s.heap.objs.size + 1) :: us, []⟩ (Value.ref (s.heap.objs.size + 1) :: (us ++ ds)) _ _ E (hr.make C us [])
    (I2.env0.make C us []) (hb _ (Value.ref (s.heap.objs.size + 1) :: us) I2.kIn hl) r2 hq) fun r s' hq' => ?_))
  cases r with
  | error e => exact hx pins σ _ _ e s' I2 hq'
  | ok fl =>
    cases fl with
    | ret u =>
      obtain ⟨v, H', I3, rv, ev, q3⟩ := I2.after hq'
      subst ev
      exact ⟨rv, ⟨V.ref (s.heap.objs.size + 1), H', I3, rfl, q3⟩⟩
    | next => exact False.elim hq'
    | brk => exact False.elim hq'
    | cont => exact False.elim hq'
theorem pe_make (M : Mk X.K C f) (F : FnOk X.prog X.w X.K X.mg X.base CX k f fd ps sp) (hr : Room (k + 1) X.A) (hg : Gl X x) (hm : X.mg x = some (.ref C)) (hb : Binds X.K fd ps ds) (hd : Vals dvs ds) (hx : Passes CX X E)
    (ha : PA X (e :: es) t) (hdb : (x == ("__debug__" : Str)) = false := by decide) (he : starEach (e :: es) X.env = (false, eval e X.env) :: starEach es X.env := by rfl) (hpl : (backTo pos (starEach es X.env)).any (·.1) = false := by rfl) :
    PE X (.Call (.Name x p) (e :: es) [] pos) (tMake C sp dvs E t) := by
  intro pins s σ H Q I h
  refine wpAny_Call_Name_kw (ld_glob I hg hm ?_ hdb)
  refine PySem.W.callWith_K (h₀ := X.base) I.ok.mod.kin M.kp (thn (ha pos pins s σ H _ I h) fun us s1 ⟨vs, H1, I1, r, q⟩ => ⟨I1.kIn, ?_⟩) he hpl
  exact run_make M F hr hb hd hx I1 r q
theorem pe_make0 (M : Mk X.K C f) (F : FnOk X.prog X.w X.K X.mg X.base CX k f fd ps sp) (hr : Room (k + 1) X.A) (hg : Gl X x) (hm : X.mg x = some (.ref C)) (hb : Binds X.K fd ps ds) (hd : Vals dvs ds) (hx : Passes CX X E)
    (hdb : (x == ("__debug__" : Str)) = false := by decide) : PE X (.Call (.Name x p) [] [] pos) (tMake C sp dvs E tNil) := by
  intro pins s σ H Q I h
  refine wpAny_Call_Name_kw (ld_glob I hg hm ?_ hdb)
  exact PySem.W.callWith_K0 I.kIn M.kp (run_make (us := []) M F hr hb hd hx I .nil h)
end

/-! ### keywords -/
/-- the values of the keywords, from the left -/
def PK (X : Cx) (kws : List Keyword) (t : TA) : Prop :=
  ∀ (pos : Pos) (pins : List (Addr × Obj)) (s : Shared) (σ : St) (H : Hp) (Q : List V → Hp → Prop), Inv X pins σ H s → t σ H Q → wpAny (model X.prog X.w) X.A (evalAll ((backToKw pos (keywordEach kws X.env)).map (·.2))) (AP X pins σ Q) X.xe s
section
variable {X : Cx} {CX : CXT} {k : Nat} {f C : Addr} {fd : FuncData} {ps ks : List Str} {sp : Sp} {E : XK} {x m : Str} {p pos apos kpos : Pos} {e o : Expr} {es : List Expr} {kws : List Keyword} {te ta : TE} {t tk : TA} {nm : Option Str}
theorem pk_nil : PK X [] tNil := fun _ _ _ _ H Q I h => wpAny_evalAll_nil ⟨[], H, I, .nil, h⟩
theorem pk_cons (ha : PE X e te) (hr : PK X kws t) : PK X (⟨nm, e, kpos⟩ :: kws) (tCons te t) := by
  intro pos pins s σ H Q I h
  show wpAny _ _ (evalAll ((do let v ← eval e X.env; standAt pos; pure v) :: (backToKw pos (keywordEach kws X.env)).map (·.2))) _ _ s
  refine wpAny_evalAll_cons (wpAny_bind (thn (ha pins s σ H _ I h) fun u s1 ⟨x, H1, I1, r1, q1⟩ => wpAny_bind (wpAny_standAt (wpAny_pure ?_))))
  exact thn (hr pos pins s1 σ H1 _ I1 q1) fun us s2 ⟨xs, H2, I2, r2, q2⟩ => ⟨x :: xs, H2, I2, .cons r1 r2, q2⟩

/-- how a call with keywords binds: g puts the positional values us and the keywords' values ws (names ks) in the parameters' order, defaults among them -/
structure KBinds (K : PySem.W.Frag) (fd : FuncData) (ps ks : List Str) (g : List Value → List Value → List Value) (gV : List V → List V → List V) : Prop where
  to : ∀ (s : Shared) (us ws : List Value), K.In s.heap → (g us ws).length = ps.length → BindsTo s fd ⟨us, ks.zip ws⟩ (ps.zip (g us ws))
  rel : ∀ {vs : List V} {us : List Value} {zs : List V} {ws : List Value}, Vals vs us → Vals zs ws → Vals (gV vs zs) (g us ws)
def tCallK (sp : Sp) (gV : List V → List V → List V) (E : XK) (t tk : TA) : TE := fun σ H Q => t σ H fun vs H1 => tk σ H1 fun zs H2 => sp (gV vs zs) H2 Q E
variable {g : List Value → List Value → List Value} {gV : List V → List V → List V}
theorem run_fnk {pins : List (Addr × Obj)} {σ : St} {H : Hp} {s : Shared} {Q : VK} {us ws : List Value} {vs zs : List V} (F : FnOk X.prog X.w X.K X.mg X.base CX k f fd ps sp) (hr : Room k X.A) (hb : KBinds X.K fd ps ks g gV) (hx : Passes CX X E)
    (I : Inv X pins σ H s) (r : Vals vs us) (rz : Vals zs ws) (h : sp (gV vs zs) H Q E) : wpAny (model X.prog X.w) X.A (call (.ref f) us (ks.zip ws)) (EP X pins σ Q) X.xe s := by
  have r2 := hb.rel r rz
  have hl : (g us ws).length = ps.length := by rw [← r2.length]; exact F.len _ _ _ _ h
  refine wpAny_call (codeAny_mono (F.run X.A X.stack s H ⟨us, ks.zip ws⟩ (g us ws) (gV vs zs) Q E hr I.env0 (hb.to s us ws I.kIn hl) r2 h) fun r s' hq => ?_)
  cases r with
  | error e => exact hx pins σ H s e s' I hq
  | ok fl =>
    cases fl with
    | ret u => exact I.after hq
    | next => exact False.elim hq
    | brk => exact False.elim hq
    | cont => exact False.elim hq
/-- f(e, .., k = v, ..) -/
theorem pe_callK (F : FnOk X.prog X.w X.K X.mg X.base CX k f fd ps sp) (hr : Room k X.A) (hg : Gl X x) (hm : X.mg x = some (.ref f)) (hk : PySem.W.keepIn X.K (.ref f) = true) (hb : KBinds X.K fd ps ks g gV) (hx : Passes CX X E)
    (ha : PA X (e :: es) t) (hkw : PK X kws tk) (hall : (backToKw pos (keywordEach kws X.env)).all (·.1.isSome) = true := by rfl) (hks : (backToKw pos (keywordEach kws X.env)).filterMap (·.1) = ks := by rfl)
    (hdb : (x == ("__debug__" : Str)) = false := by decide) (he : starEach (e :: es) X.env = (false, eval e X.env) :: starEach es X.env := by rfl)
    (hpl : ((backTo pos (starEach (e :: es) X.env)).any (·.1) || (backToKw pos (keywordEach kws X.env)).any (·.1.isNone)) = false := by rfl) :
    PE X (.Call (.Name x p) (e :: es) kws pos) (tCallK sp gV E t tk) := by
  intro pins s σ H Q I h
  refine wpAny_Call_Name_kw (ld_glob I hg hm ?_ hdb)
  refine PySem.W.callWith_KW (h₀ := X.base) I.ok.mod.kin hk hall (thn (ha pos pins s σ H _ I h) fun us s1 ⟨vs, H1, I1, r, q⟩ => ?_) hpl he
  refine thn (hkw pos pins s1 σ H1 _ I1 q) fun ws s2 ⟨zs, H2, I2, rz, q2⟩ => ⟨I2.kIn, ?_⟩
  rw [hks]
  exact run_fnk F hr hb hx I2 r rz q2
end

/-! ### a def's body keeps its promise -/
/-- names: the parameters first -/
structure FnScope (N P : List Str) (sc : Scope) : Prop where
  kind : sc.kind = .function
  co : sc.isCoroutine = false
  gen : sc.isGenerator = false
  nd : N.Nodup
  pre : N.take P.length = P
  par : ∀ x ∈ P, sc.names.lookup x = some .local ∨ sc.names.lookup x = some .cell
  nofree : ∀ y ∈ sc.names, y.2 ≠ .free

theorem bindL_out {kindOf : Str → Option NameKind} {x : Str} : ∀ {binds : List (Str × Value)} {m : Str → Option Value}, (∀ v, (x, v) ∉ binds) → bindL kindOf binds m x = m x
  | [], _, _ => rfl
  | (n, v) :: r, m, h => by
    unfold bindL
    rw [bindL_out fun w hw => h w (List.mem_cons_of_mem _ hw)]
    split
    · have : x ≠ n := by rintro rfl; exact h v List.mem_cons_self
      simp [this]
    · rfl
theorem bindC_out {kindOf : Str → Option NameKind} {x : Str} : ∀ {binds : List (Str × Value)} {m : Str → Option Value}, (∀ v, (x, v) ∉ binds) → bindC kindOf binds m x = m x
  | [], _, _ => rfl
  | (n, v) :: r, m, h => by
    unfold bindC
    rw [bindC_out fun w hw => h w (List.mem_cons_of_mem _ hw)]
    split
    · rfl
    · have : x ≠ n := by rintro rfl; exact h v List.mem_cons_self
      simp [this]
theorem bindL_get {kindOf : Str → Option NameKind} {x : Str} {v : Value} : ∀ {P : List Str} {vs : List Value} {i : Nat} {m : Str → Option Value}, P.Nodup → P[i]? = some x → vs[i]? = some v → kindOf x = some .local →
    bindL kindOf (P.zip vs) m x = some v
  | [], _, _, _, _, h, _, _ => by simp at h
  | _ :: _, [], _, _, _, _, h, _ => by simp at h
  | p :: P, w :: vs, 0, m, nd, h1, h2, hk => by
    simp at h1 h2; subst h1; subst h2
    show bindL kindOf ((p, w) :: P.zip vs) m p = _
    unfold bindL
    rw [bindL_out fun v hv => (List.nodup_cons.mp nd).1 (List.of_mem_zip hv).1, if_pos hk]
    simp
  | p :: P, w :: vs, i + 1, m, nd, h1, h2, hk => by
    show bindL kindOf ((p, w) :: P.zip vs) m x = _
    unfold bindL
    exact bindL_get (i := i) (List.nodup_cons.mp nd).2 (by simpa using h1) (by simpa using h2) hk
theorem bindC_get {kindOf : Str → Option NameKind} {x : Str} {v : Value} : ∀ {P : List Str} {vs : List Value} {i : Nat} {m : Str → Option Value}, P.Nodup → P[i]? = some x → vs[i]? = some v → kindOf x ≠ some .local →
    bindC kindOf (P.zip vs) m x = some v
  | [], _, _, _, _, h, _, _ => by simp at h
  | _ :: _, [], _, _, _, _, h, _ => by simp at h
  | p :: P, w :: vs, 0, m, nd, h1, h2, hk => by
    simp at h1 h2; subst h1; subst h2
    show bindC kindOf ((p, w) :: P.zip vs) m p = _
    unfold bindC
    rw [bindC_out fun v hv => (List.nodup_cons.mp nd).1 (List.of_mem_zip hv).1, if_neg hk]
    simp
  | p :: P, w :: vs, i + 1, m, nd, h1, h2, hk => by
    show bindC kindOf ((p, w) :: P.zip vs) m x = _
    unfold bindC
    exact bindC_get (i := i) (List.nodup_cons.mp nd).2 (by simpa using h1) (by simpa using h2) hk

/-- the names' values at the entry -/
def start (N : List Str) (vs : List V) : St := vs.map some ++ List.replicate (N.length - vs.length) none

/-- the context of a def's body, at its entry; an exception leaves the frame, then lies as CX says -/
def cxOf (CX : CXT) (P : Program) (w : World) (K : PySem.W.Frag) (mg : Str → Option Value) (base : Heap) (N : List Str) (qual : Str) (scope : Scope) (f : Addr) (cd : Value) (A : Around) (outer : List Env) (s : Shared) (H : Hp) (E : XK) : Cx where
  prog := P
  w := w
  K := K
  mg := mg
  base := base
  A := A.deeper (envOfC qual scope s.heap.objs.size f cd)
  N := N
  s₀ := s
  H₀ := H
  env := envOfC qual scope s.heap.objs.size f cd
  outer := outer
  stack := envOfC qual scope s.heap.objs.size f cd :: outer
  ex := []
  calm := true
  fn := fun _ => true
  pn := []
  xe := fun e s' => wpAny (model P w) (A.deeper (envOfC qual scope s.heap.objs.size f cd)) (leaving (envOfC qual scope s.heap.objs.size f cd) e) (fun _ s'' => CX outer H s E e s'') (fun e' s'' => CX outer H s E e' s'') s'

theorem cell_has {sc : Scope} {n : Nat} {x : Str} (h : sc.names.lookup x = some .cell) : ∃ c, (cellsFrom n sc.names []).lookup x = some c := by
  have q := PySem.W.cellsFrom_some sc.names n [] (.inl h)
  exact Option.isSome_iff_exists.mp q

theorem inv_start {CX : CXT} {P : Program} {w : World} {K : PySem.W.Frag} {mg : Str → Option Value} {base : Heap} {N ps : List Str} {qual : Str} {scope : Scope} {f : Addr} {cd : Value} {A : Around} {outer : List Env} {s s1 : Shared} {H : Hp} {E : XK} {us : List Value} {vs : List V}
    (S : FnScope N ps scope) (hd : A.handled = none) (e0 : Env0 P w K mg base A outer s H) (hl : vs.length = ps.length) (r : Vals vs us)
    (x : InCallC s s.heap.objs.size (bindL (envOfC qual scope s.heap.objs.size f cd).kindOf (ps.zip us) fun _ => none) (cellsFrom (s.heap.objs.size + 1) scope.names []) (bindC (envOfC qual scope s.heap.objs.size f cd).kindOf (ps.zip us) fun _ => none) s1) :
    Inv (cxOf CX P w K mg base N qual scope f cd A outer s H E) [] (start N vs) H s1 := by
  have hpl : ps.length ≤ N.length := by have := congrArg List.length S.pre; rw [List.length_take] at this; omega
  obtain ⟨h1, tk, rfl, hk⟩ := x.done
  have noA : ∀ b : Addr, b ∉ (cxOf CX P w K mg base N qual scope f cd A outer s H E).ex := fun b z => absurd (show b ∈ ([] : List Addr) from z) (by simp)
  refine ⟨⟨e0.mod, S.kind, rfl, rfl, Nat.le_refl _, fun y z c h1 h2 => ?_, fun y hy => ?_, fun y c _ h => ?_, fun _ => hd, Around.frames_deeper e0.frames, .inr ⟨rfl, rfl⟩, fun b z => absurd z (noA b), e0.bs, e0.bsz, fun b _ _ => noA b, fun b z => absurd z (noA b), e0.funs, e0.frf⟩,
    rfl, e0.bare, Un.kept hk, ⟨_, x.toInCall.ns, fun i y v h1 h2 h3 => ?_⟩, fun y c h => ⟨_, x.cell y c h⟩, e0.hok.fresh (Nat.le_refl _), fun y c h => ?_, fun p hp => absurd (show p ∈ ([] : List (Addr × Obj)) from hp) (by simp), e0.hok.kept hk, ?_⟩
  · exact name_of_addr x.apart (PySem.mem_of_lookup h1) (PySem.mem_of_lookup h2)
  · have hy : scope.names.lookup y = some .cell ∨ scope.names.lookup y = some .free := hy
    rcases hy with hy | hy
    · exact cell_has hy
    · exact absurd rfl (S.nofree _ (PySem.mem_of_lookup hy))
  · exact Nat.le_of_lt (x.above y c (PySem.mem_of_lookup h))
  · have hi : i < vs.length := by
      unfold start at h2
      by_cases hi : i < vs.length
      · exact hi
      · rw [List.getElem?_append_right (by simpa using hi)] at h2
        rw [List.getElem?_replicate] at h2
        split at h2 <;> cases h2
    have ha : vs[i]? = some v := by
      unfold start at h2
      rw [List.getElem?_append_left (by simpa using hi), List.getElem?_map] at h2
      cases e : vs[i]? with
      | none => rw [e] at h2; cases h2
      | some a => rw [e] at h2; cases h2; rfl
    obtain ⟨u, hu, rv⟩ := r.get ha
    have hp : ps[i]? = some y := by
      rw [← S.pre, List.getElem?_take_of_lt (by omega)]; exact h1
    have ndP : ps.Nodup := by rw [← S.pre]; exact S.nd.sublist (List.take_sublist _ _)
    refine ⟨u, rv, ?_⟩
    rcases S.par y (List.mem_of_getElem? hp) with k | k
    · exact .inl ⟨k, bindL_get ndP hp hu k⟩
    · obtain ⟨c, e⟩ := cell_has (n := s.heap.objs.size + 1) k
      refine .inr ⟨.inl k, c, e, ?_⟩
      have q := x.cell y c e
      rw [bindC_get ndP hp hu (by show scope.names.lookup y ≠ _; rw [k]; decide)] at q
      exact q
  · exact e0.hok.fresh (Nat.le_of_lt (x.above y c (PySem.mem_of_lookup h)))
  · unfold start
    show _ = N.length
    rw [List.length_append, List.length_map, List.length_replicate]
    omega

/-- THE RULE: a def (or a method) of the text, by its body. The body's reading t is chosen for each entry; it is run at the parameters' values -/
theorem fn_of {CX : CXT} {P : Program} {w : World} {K : PySem.W.Frag} {mg : Str → Option Value} {base : Heap} {k : Nat} {f : Addr} {name qual : Str} {params : Arguments} {body : List Stmt} {scope : Scope} {dV kV doc pm cdv ct oc : Value} {an od : Option Addr}
    {osl : Array (Option Value)} {N ps : List Str} {sp : Sp} (lk : K.lookup f = some ⟨oc, od, .func (PySem.W.fnOf name qual params body scope dV kV doc pm an cdv ct), osl⟩) (hcd : PySem.W.codeIn K cdv qual = true) (S : FnScope N ps scope)
    (len : ∀ vs H Q E, sp vs H Q E → vs.length = ps.length)
    (hbody : ∀ (A : Around) (outer : List Env) (s : Shared) (H : Hp) (vs : List V) (Q : VK) (E : XK), Room k (A.deeper (envOfC qual scope s.heap.objs.size f cdv)) → sp vs H Q E →
      ∃ t, PSs (cxOf CX P w K mg base N qual scope f cdv A outer s H E) body t ∧ t { nx := fun _ H' => Q .non H', rt := Q } (start N vs) H) :
    FnOk P w K mg base CX (k + 1) f (PySem.W.fnOf name qual params body scope dV kV doc pm an cdv ct) ps sp := by
  refine ⟨len, fun A outer s H args us vs Q E hr e0 hb r hsp => ?_⟩
  have hl := len _ _ _ _ hsp
  have KX : K.In s.heap := e0.mod.kin.keeps fun b o e => (e0.bs b o e).1
  have lim : s.heap.NoLimit := e0.mod.nolimit.keeps fun b o e => (e0.bs b o e).1
  have hkind : ∀ y ∈ ps.zip us, scope.names.lookup y.1 = some .local ∨ (scope.names.lookup y.1 = some .cell ∧ ((cellsFrom (s.heap.objs.size + 1) scope.names []).lookup y.1).isSome = true) := fun ⟨n, v⟩ hy => by
    rcases S.par n (List.of_mem_zip hy).1 with q | q
    · exact .inl q
    · exact .inr ⟨q, PySem.W.cellsFrom_some _ _ _ (.inl q)⟩
  refine codeAny_call_function hr.depth (KX _ _ lk) rfl S.co S.gen rfl (PySem.W.codeRec_of KX hcd) (hb _ _ _ _ ?_)
  refine wpAny_newFunctionEnv_cells S.kind hkind fun env he s1 x => ?_
  subst he
  refine ⟨lim.keeps x.toInCall.keep, codeAny_func ?_⟩
  obtain ⟨t, ht, hq⟩ := hbody A outer s H vs Q E (hr.deeper _) hsp
  have I : Inv (cxOf CX P w K mg base N qual scope f cdv A outer s H E) [] (start N vs) H s1 := inv_start S hr.hd e0 hl r x
  refine wpAny_mono (ht [] s1 (start N vs) H _ I hq) (fun fl s' hs => ?_) fun e s' hs => hs
  have fin : ∀ {σ' : St} {H' : Hp} {v : V} {u : Value}, Inv (cxOf CX P w K mg base N qual scope f cdv A outer s H E) [] σ' H' s' → RelV v u → Q v H' → CE outer P w H s Q u s' :=
    fun {σ' H' v u} J rv q => ⟨v, H', J.os, J.bare, J.base, J.hok, rv, q⟩
  cases fl with
  | ret u =>
    obtain ⟨v, σ', H', J, rv, q⟩ := hs
    exact fin J rv q
  | next =>
    obtain ⟨σ', H', J, q⟩ := hs
    exact fin (v := V.non) (u := Value.none) J rfl q
  | brk =>
    obtain ⟨_, _, _, q⟩ := hs
    exact False.elim q
  | cont =>
    obtain ⟨_, _, _, q⟩ := hs
    exact False.elim q
end L2

namespace L2
open PySem PySem.Spec PyProof.Rows
section
variable {X : Cx} {x : Str} {p pos : Pos} {e : Expr} {es : List Expr} {t : TA} {id T : String} {r : List V → Hp → VK → Prop}

def tCB (r : List V → Hp → VK → Prop) (t : TA) : TE := fun σ H Q => t σ H fun vs H1 => r vs H1 Q
/-- f(e, ..), f a built-in function -/
theorem pe_callB (hc : CallR X (.builtin id) r) (hg : Gl X x) (hm : X.mg x = none) (hv : bootBuiltins x = some (.builtin id)) (ha : PA X (e :: es) t) (hn : x ≠ "__name__" := by decide) (hdb : (x == ("__debug__" : Str)) = false := by decide)
    (he : starEach (e :: es) X.env = (false, eval e X.env) :: starEach es X.env := by rfl) (hpl : (backTo pos (starEach es X.env)).any (·.1) = false := by rfl) : PE X (.Call (.Name x p) (e :: es) [] pos) (tCB r t) := by
  intro pins s σ H Q I h
  refine wpAny_Call_Name_kw (ld_blt I hg hm hv ?_ hn hdb)
  exact PyProof.Rows.callWith_builtin1 (thn (ha pos pins s σ H _ I h) fun us s1 ⟨vs, H1, I1, r1, q1⟩ => hc pins s1 σ H1 vs us Q I1 r1 q1) he hpl
/-- T(e, ..), T a built-in type -/
theorem pe_callTy (hc : CallR X (.type T) r) (hg : Gl X x) (hm : X.mg x = none) (hv : bootBuiltins x = some (.type T)) (ha : PA X (e :: es) t) (hn : x ≠ "__name__" := by decide) (hdb : (x == ("__debug__" : Str)) = false := by decide)
    (he : starEach (e :: es) X.env = (false, eval e X.env) :: starEach es X.env := by rfl) (hpl : (backTo pos (starEach es X.env)).any (·.1) = false := by rfl) : PE X (.Call (.Name x p) (e :: es) [] pos) (tCB r t) := by
  intro pins s σ H Q I h
  refine wpAny_Call_Name_kw (ld_blt I hg hm hv ?_ hn hdb)
  exact PyProof.Rows.callWith_type1 (thn (ha pos pins s σ H _ I h) fun us s1 ⟨vs, H1, I1, r1, q1⟩ => hc pins s1 σ H1 vs us Q I1 r1 q1) he hpl
/-- T() -/
theorem pe_callTy0 (hc : CallR X (.type T) r) (hg : Gl X x) (hm : X.mg x = none) (hv : bootBuiltins x = some (.type T)) (hn : x ≠ "__name__" := by decide) (hdb : (x == ("__debug__" : Str)) = false := by decide) :
    PE X (.Call (.Name x p) [] [] pos) (tCB r tNil) := by
  intro pins s σ H Q I h
  refine wpAny_Call_Name_kw (ld_blt I hg hm hv ?_ hn hdb)
  exact PyProof.Rows.callWith_type0 (hc pins s σ H [] [] Q I .nil h)
end
end L2

namespace HT
open PySem PyProof.Rows

/-- t < u of tuples of ints -/
def lexLt : List Int → List Int → Bool
  | [], [] => false
  | [], _ :: _ => true
  | _ :: _, [] => false
  | x :: xs, y :: ys => if x = y then lexLt xs ys else decide (x < y)
theorem lexLt_cons (x y : Int) (xs ys : List Int) : lexLt (x :: xs) (y :: ys) = if x = y then lexLt xs ys else decide (x < y) := rfl
theorem lexLt_nil_nil : lexLt [] [] = false := rfl
theorem lexLt_nil_cons (y : Int) (ys : List Int) : lexLt [] (y :: ys) = true := rfl
theorem lexLt_cons_nil (x : Int) (xs : List Int) : lexLt (x :: xs) [] = false := rfl

theorem eqAt_int (A : Around) (s : Shared) (a : Int) (t : Tok) (c : Int) (u : Tok) : ∃ e, SeqAt.EqAt A s (.int a t) (.int c u) e ∧ (e = true ↔ a = c) :=
  ⟨(a == c), SeqAt.EqAt.int_int a t c u, by simp⟩
theorem rcLt_int (A : Around) (s : Shared) (a : Int) (t : Tok) (c : Int) (u : Tok) (prog : Program) (w : World) (E : Value → Shared → Prop) (Q : Value → Shared → Prop) (h : Q (.bool (decide (a < c))) s) :
    wpAny (model prog w) A (richCompare .Lt (.int a t) (.int c u)) Q E s :=
  (PyProof.Rows.lt_int h : wpAny (model prog w) A (compareOp .Lt (.int a t) (.int c u)) Q E s)

section
open PySem.SeqAt
open PySem.AutoSeq1 (wpAny_loadPart')
open PySem.MeetsSeq PySem.MeetsSeq2 PySem.MeetsSeq3

theorem tuple_lt_ints (l b : Addr) (items items2 : Array Value) (n n2 : Nat) (dd dd2 : Option Addr) (sl sl2 : Array (Option Value)) (ns ms : List Int) (hi : IntsAre items.toList ns) (hj : IntsAre items2.toList ms) :
    Meets (Builtin.«tuple.__lt__» ⟨[.ref l, .ref b], []⟩)
      (fun _ R s => s.heap.get? l = some { cls := .type "tuple", dict := dd, data := .seq items n, slots := sl } ∧ s.heap.get? b = some { cls := .type "tuple", dict := dd2, data := .seq items2 n2, slots := sl2 } ∧
        R (.ok (.ret (.bool (lexLt ns ms)))) s) :=
  .of_wp fun prog w A R s h => by
    obtain ⟨hp, g, d, tk, os⟩ := s; obtain ⟨hl, hb, h⟩ := h
    have f2 := AutoSeq1.sub_tuple_tuple
    have z1 : items.size = ns.length := by rw [← hi.length]; simp
    have z2 : items2.size = ms.length := by rw [← hj.length]; simp
    wp_walk using wpAny_loadPart' hl, wpAny_loadPart' hb, wpAny_forIn_list _ (fun rest b s' => b.1 = none ∧ s' = ⟨hp, g, d, tk, os⟩ ∧ ∃ (vs ws : List Value) (ns' ms' : List Int), rest = vs.zip ws ∧
      IntsAre vs ns' ∧ IntsAre ws ms' ∧ ns'.length + items2.size = ms'.length + items.size ∧ R (.ok (.ret (.bool (lexLt ns' ms')))) ⟨hp, g, d, tk, os⟩) _
    case turn =>
      rintro ⟨y, x⟩ rest b s' ⟨hb', rfl, vs, ws, ns', ms', hz, hvi, hwi, hlen, hR⟩
      cases hvi with
      | nil => rw [List.zip_nil_left] at hz; cases hz
      | cons a t hvi' =>
        cases hwi with
        | nil => rw [List.zip_nil_right] at hz; cases hz
        | cons c u hwi' =>
          rw [List.zip_cons_cons] at hz
          injection hz with hyx hrest
          injection hyx with hy hx
          subst hy hx
          rw [lexLt_cons] at hR
          simp only [List.length_cons] at hlen
          obtain ⟨e, he, hiff⟩ := eqAt_int A.in1 ⟨hp, g, d, tk, os⟩ a t c u
          refine wpAny_bind (he prog w _ _ ?_)
          cases e with
          | true =>
            rw [if_pos (hiff.mp rfl)] at hR
            wp_walk
            exact ⟨rfl, rfl, _, _, _, _, hrest, hvi', hwi', by omega, hR⟩
          | false =>
            rw [if_neg (fun q => absurd (hiff.mpr q) Bool.false_ne_true)] at hR
            have hri := rcLt_int A.in1 ⟨hp, g, d, tk, os⟩ a t c u prog w
            wp_walk using hri
            exact ⟨_, rfl, by simpa using hR⟩
    case fin =>
      rintro ⟨b1, b2⟩ s' ⟨hb', rfl, vs, ws, ns', ms', hz, hvi, hwi, hlen, hR⟩
      simp only at hb'
      subst hb'
      have hv : lexLt ns' ms' = decide (items.size < items2.size) := by
        cases hvi with
        | nil =>
          cases hwi with
          | nil =>
            simp only [List.length_nil] at hlen
            rw [lexLt_nil_nil]
            exact (decide_eq_false (by omega)).symm
          | cons c u hw =>
            simp only [List.length_nil, List.length_cons] at hlen
            rw [lexLt_nil_cons]
            exact (decide_eq_true (by omega)).symm
        | cons a t hv =>
          cases hwi with
          | nil =>
            simp only [List.length_nil, List.length_cons] at hlen
            rw [lexLt_cons_nil]
            exact (decide_eq_false (by omega)).symm
          | cons c u hw =>
            rw [List.zip_cons_cons] at hz
            cases hz
      rw [hv] at hR
      wp_walk
      exact ⟨_, rfl, by simpa [Builtin.Tuple.tupleCompareSizes] using hR⟩
    case h =>
      exact ⟨rfl, rfl, items.toList, items2.toList, ns, ms, rfl, hi, hj, by omega, h⟩
end

section
variable {prog : Program} {w : World} {A : Around} {E : Value → Shared → Prop} {s : Shared}

theorem lt_tupInts {l b : Addr} {items items2 : Array Value} {ns ms : List Int} {Q : Value → Shared → Prop} (hl : IsTup s.heap l items) (hb : IsTup s.heap b items2) (hi : IntsAre items.toList ns) (hj : IntsAre items2.toList ms)
    (hu : A.units < cLine) (h : Q (.bool (lexLt ns ms)) s) : wpAny (model prog w) A (compareOp .Lt (.ref l) (.ref b)) Q E s := by
  obtain ⟨⟨cls, dd, data, sl⟩, ho, hc, n, hd⟩ := id hl
  obtain ⟨⟨cls2, dd2, data2, sl2⟩, ho2, hc2, n2, hd2⟩ := id hb
  simp only at hc hd hc2 hd2
  subst hc hd hc2 hd2
  exact richCompare_meets_room (op := .Lt) ⟨_, ho, rfl⟩ ⟨_, ho2, rfl⟩ PySem.F.slot_tuple_lt PySem.F.entry_tuple_lt (PySem.F.args_tuple_lt_2 _ _) (tuple_lt_ints l b items items2 n n2 dd dd2 sl sl2 ns ms hi hj)
    ⟨ho, ho2, show Value.bool (lexLt ns ms) ≠ Value.notImplemented ∧ Q (.bool (lexLt ns ms)) s from ⟨(fun x => nomatch x), h⟩⟩ hu

/-- t + u, t not empty -/
theorem cat_tup {t b : Addr} {vs ws : List Value} {Q : Value → Shared → Prop} (ht : IsTup s.heap t vs.toArray) (hb : IsTup s.heap b ws.toArray) (hv : vs ≠ [])
    (h1 : ws = [] → Q (.ref t) s) (h2 : ws ≠ [] → Q (.ref s.heap.objs.size) { s with heap := s.heap.push { cls := .type "tuple", data := .seq (vs ++ ws).toArray } })
    (hsz : vs.length + ws.length ≤ sizeLine) : wpAny (model prog w) A (binaryOp .Add (.ref t) (.ref b)) Q E s := by
  obtain ⟨⟨cls, dd, data, sl⟩, ho, hc, n, hd⟩ := id ht
  obtain ⟨⟨cls2, dd2, data2, sl2⟩, ho2, hc2, n2, hd2⟩ := id hb
  simp only at hc hd hc2 hd2
  subst hc hd hc2 hd2
  have e : vs.toArray ++ ws.toArray = (vs ++ ws).toArray := by simp
  by_cases hw : ws = []
  · exact concat_meets ⟨_, ho, rfl⟩ ⟨_, ho2, rfl⟩ noFill_tuple_add seq_tuple_add PySem.F.slot_tuple_add PySem.F.entry_tuple_add (PySem.F.args_tuple_add_2 _ _)
      (tuple_addW1 t b vs.toArray ws.toArray n n2 dd dd2 sl sl2 (by simpa using hv) (by simp [hw])) ⟨ho, ho2, h1 hw⟩
  · refine concat_meets ⟨_, ho, rfl⟩ ⟨_, ho2, rfl⟩ noFill_tuple_add seq_tuple_add PySem.F.slot_tuple_add PySem.F.entry_tuple_add (PySem.F.args_tuple_add_2 _ _)
      (tuple_addW2 t b vs.toArray ws.toArray n n2 dd dd2 sl sl2 (by simpa using hv) (by simpa using hw) (by rw [List.size_toArray, List.size_toArray]; exact hsz)) ⟨ho, ho2, ?_⟩
    rw [e]
    exact h2 hw

/-! ### t[a:b], not the whole -/
/-- a slice's bound as a place among n (d where it is left out) -/
def sIx (n d : Nat) : Option Int → Nat
  | none => d
  | some v => if v < 0 then (v + (n : Int)).toNat else min v.toNat n
theorem sIx_none (n d : Nat) : sIx n d none = d := rfl
theorem sIx_nat (n d k : Nat) : sIx n d (some (k : Int)) = min k n := by
  show (if (k : Int) < 0 then ((k : Int) + (n : Int)).toNat else min (k : Int).toNat n) = min k n
  rw [if_neg (by omega), Int.toNat_natCast]
theorem sIx_le (n d : Nat) (hd : d ≤ n) (o : Option Int) : sIx n d o ≤ n := by
  cases o with
  | none => exact hd
  | some v =>
    show (if v < 0 then (v + (n : Int)).toNat else min v.toNat n) ≤ n
    by_cases hv : v < 0
    · rw [if_pos hv]; omega
    · rw [if_neg hv]; exact Nat.min_le_right _ _
theorem clip_eq (v : Int) (n d : Nat) : (if v < 0 then max (v + (n : Int)) 0 else min v (n : Int)) = ((sIx n d (some v) : Nat) : Int) := by
  show (if v < 0 then max (v + (n : Int)) 0 else min v (n : Int)) = (((if v < 0 then (v + (n : Int)).toNat else min v.toNat n) : Nat) : Int)
  by_cases hv : v < 0
  · simp only [if_pos hv]; omega
  · simp only [if_neg hv]; omega
theorem adjust_gen (lo hi : Option Int) (n : Nat) : Builtin.Slice.sliceAdjust lo hi 1 (n : Int) = (((sIx n 0 lo : Nat) : Int), ((sIx n n hi : Nat) : Int)) := by
  have h1 : ¬ ((1 : Int) < 0) := by omega
  unfold Builtin.Slice.sliceAdjust
  simp only [h1, if_false]
  refine Prod.ext ?_ ?_
  · cases lo with
    | none => rfl
    | some v => exact clip_eq v n 0
  · cases hi with
    | none => rfl
    | some v => exact clip_eq v n n
theorem places_gen (i j : Nat) : Builtin.Slice.slicePlaces (i : Int) (j : Int) 1 = j - i := by
  unfold Builtin.Slice.slicePlaces
  have h1 : (1 : Int) > 0 := by omega
  simp only [h1, if_true, Int.ediv_one]
  split <;> omega
theorem slicePart_ {v : Value} {o : Option Int} {Q : Option Int → Shared → Prop} (p : IsPart v o) (h : Q o s) : wpAny (model prog w) A (Builtin.Slice.slicePartIndex v) Q E s := by
  cases p with
  | none => exact slicePart_none h
  | int i t => exact slicePart_int h
theorem sliceApplied_gen {sl : Addr} {vl vu : Value} {lo hi : Option Int} {n : Nat} {Q : Int × Int × Nat → Shared → Prop} (hs : s.heap.IsSliceOf sl vl vu .none) (pl : IsPart vl lo) (pu : IsPart vu hi)
    (h : Q (((sIx n 0 lo : Nat) : Int), 1, sIx n n hi - sIx n 0 lo) s) : wpAny (model prog w) A (Builtin.Slice.sliceApplied (.ref sl) (pure (n : Int))) Q E s := by
  obtain ⟨os, hos, hcs, hds⟩ := id hs
  unfold Builtin.Slice.sliceApplied Builtin.Slice.sliceFields
  refine wpAny_bind (wpAny_bind (wpAny_field hos hds (x := vl) rfl (wpAny_bind (wpAny_field hos hds (x := vu) rfl (wpAny_bind (wpAny_field hos hds (x := .none) rfl (wpAny_pure ?_)))))))
  refine wpAny_bind (slicePart_none ?_)
  show wpAny _ _ (if ((1 : Int) == 0) = true then _ else _) _ _ s
  rw [if_neg (by decide)]
  refine wpAny_bind (slicePart_ pl (wpAny_bind (slicePart_ pu (wpAny_bind (wpAny_pure ?_)))))
  show wpAny _ _ (match Builtin.Slice.sliceAdjust lo hi 1 (n : Int) with | (lo, hi) => pure (lo, (1 : Int), Builtin.Slice.slicePlaces lo hi 1)) _ _ s
  rw [adjust_gen lo hi n]
  show wpAny _ _ (pure (((sIx n 0 lo : Nat) : Int), (1 : Int), Builtin.Slice.slicePlaces ((sIx n 0 lo : Nat) : Int) ((sIx n n hi : Nat) : Int) 1)) _ _ s
  rw [places_gen]
  exact wpAny_pure h
theorem pick_gen (xs : Array Value) (i k : Nat) : ((List.range k).filterMap fun (m : Nat) => xs[((i : Int) + (m : Int) * 1).toNat]?).toArray = ((xs.toList.drop i).take k).toArray := by
  have e : (fun (m : Nat) => xs[((i : Int) + (m : Int) * 1).toNat]?) = fun m => xs[i + m]? := by
    funext m
    have : ((i : Int) + (m : Int) * 1).toNat = i + m := by omega
    rw [this]
  rw [e]
  have := pick_run xs i k
  rw [List.filterMap_map] at this
  have e2 : ((fun x => xs[x]?) ∘ fun x => i + x) = fun m => xs[i + m]? := rfl
  rw [e2] at this
  rw [this]

theorem getItem_tuple_cut {t sl : Addr} {items : Array Value} {vl vu : Value} {lo hi : Option Int} {Q : Value → Shared → Prop} (ht : IsTup s.heap t items) (hs : s.heap.IsSliceOf sl vl vu .none) (pl : IsPart vl lo) (pu : IsPart vu hi)
    (hw : ¬ (sIx items.size 0 lo = 0 ∧ sIx items.size items.size hi = items.size))
    (h : Q (.ref s.heap.objs.size) { s with heap := s.heap.push { cls := .type "tuple", data := .seq ((items.toList.drop (sIx items.size 0 lo)).take (sIx items.size items.size hi - sIx items.size 0 lo)).toArray } })
    (hsz : items.size ≤ sizeLine) : wpAny (model prog w) A (getItem (.ref t) (.ref sl)) Q E s := by
  have htake : sizeOk (.seq ((items.toList.drop (sIx items.size 0 lo)).take (sIx items.size items.size hi - sIx items.size 0 lo)).toArray) := by
    show ((items.toList.drop (sIx items.size 0 lo)).take (sIx items.size items.size hi - sIx items.size 0 lo)).toArray.size ≤ sizeLine
    rw [List.size_toArray, List.length_take, List.length_drop, Array.length_toList]
    omega
  have hj : sIx items.size items.size hi ≤ items.size := sIx_le _ _ (Nat.le_refl _) hi
  obtain ⟨os, hos, hcs, hds⟩ := id hs
  have hTs : s.TypeIs (.ref sl) "slice" := ⟨os, hos, hcs⟩
  unfold getItem
  try with_reducible refine wpAny_holding ?_
  first | refine wpAny_bind (wpAny_pure ?_) | skip
  refine wpAny_bind (wpAny_sequenceKey ht.typeIs (by decide) ?_)
  refine wpAny_bind (wpAny_callSpecial?_slot (name := Str.ofString "__getitem__") ht.typeIs PyProof.Rows.slot_tuple_getitem
    (wpAny_call_entry PyProof.Rows.slot_tuple_getitem ht.typeIs entry_tuple_getitem ?_ (args_tuple_getitem _ _)))
  show wpAny _ _ (Builtin.Tuple.tupleItemsOf (.ref t) >>= _) _ _ s
  refine wpAny_bind (tupleItemsOf_ ht ?_)
  refine wpAny_bind (wpAny_typeOf hTs ?_)
  rw [if_pos (by decide)]
  refine wpAny_bind (sliceApplied_gen hs pl pu ?_)
  have hno : ¬ ((((sIx items.size 0 lo : Nat) : Int) == 0 && (1 : Int) == 1 && (sIx items.size items.size hi - sIx items.size 0 lo) == items.size) = true) := by
    intro q
    rw [Bool.and_eq_true, Bool.and_eq_true] at q
    have q1 : ((sIx items.size 0 lo : Nat) : Int) = 0 := eq_of_beq q.1.1
    have q2 : sIx items.size items.size hi - sIx items.size 0 lo = items.size := eq_of_beq q.2
    exact hw ⟨by omega, by omega⟩
  show wpAny _ _ (if (((sIx items.size 0 lo : Nat) : Int) == 0 && (1 : Int) == 1 && (sIx items.size items.size hi - sIx items.size 0 lo) == items.size) = true then _ else _) _ _ s
  rw [if_neg hno, pick_gen]
  first
    | exact wpAny_bind (m := Builtin.Tuple.tupleExact _) (wpAny_newObj_type (wpAny_pure ⟨_, rfl, wpAny_pure h⟩) htake)
    | exact wpAny_bind (m := Builtin.Tuple.tupleExact _) (wpAny_newObj_type (wpAny_bind (wpAny_pure (wpAny_pure ⟨_, rfl, wpAny_pure h⟩))) htake)
    | exact wpAny_bind (wpAny_bind (m := Builtin.Tuple.tupleExact _) (wpAny_newObj_type (wpAny_pure (wpAny_pure ⟨_, rfl, wpAny_pure h⟩)) htake))
    | exact wpAny_bind (wpAny_bind (m := Builtin.Tuple.tupleExact _) (wpAny_newObj_type (wpAny_pure ⟨_, rfl, wpAny_pure h⟩) htake))
end
end HT

namespace L2
open PySem PySem.Spec PyProof.Rows

/-! ### the parts of a slice -/
abbrev TO := St → Hp → (Option Int → Hp → Prop) → Prop
/-- a slice's part (left out, or an int) -/
def PO (X : Cx) (e : Option Expr) (t : TO) : Prop :=
  ∀ (pins : List (Addr × Obj)) (s : Shared) (σ : St) (H : Hp) (Q : Option Int → Hp → Prop), Inv X pins σ H s → t σ H Q →
    wpAny (model X.prog X.w) X.A (evalPart e X.env) (fun u s' => ∃ o H', Inv X pins σ H' s' ∧ IsPart u o ∧ Q o H') X.xe s
def tNoPart : TO := fun _ H Q => Q none H
def tPart (t : TE) : TO := fun σ H Q => t σ H fun x H1 => ∃ i, x = .int i ∧ Q (some i) H1

theorem intsAre_of {ns : List Int} : ∀ {us : List Value}, Vals (ns.map V.int) us → IntsAre us ns := by
  induction ns with
  | nil => intro us r; rw [List.map_nil] at r; cases r; exact .nil
  | cons n ns ih =>
    intro us r
    rw [List.map_cons] at r
    cases r with
    | cons r1 r2 =>
      obtain ⟨t, e⟩ := r1
      subst e
      exact .cons n t (ih r2)

section
variable {X : Cx} {e : Expr} {te : TE} {lo hi : Option Expr} {tl th : TO} {pos p2 : Pos}

theorem po_none : PO X none tNoPart := by
  intro pins s σ H Q I h
  rw [evalPart_none]
  exact wpAny_pure ⟨none, H, I, .none, h⟩
theorem po_some (h : PE X e te) : PO X (some e) (tPart te) := by
  intro pins s σ H Q I hw
  rw [evalPart_some]
  refine thn (h pins s σ H _ I hw) fun u s1 ⟨x, H1, I1, r1, q1⟩ => ?_
  obtain ⟨i, rfl, q⟩ := q1
  obtain ⟨t, rfl⟩ := r1
  exact ⟨some i, H1, I1, .int i t, q⟩

/-- what a slice of a value is, by values: the slice object stands at sl -/
def SlR (X : Cx) (r : V → Option Int → Option Int → Hp → VK → Prop) : Prop :=
  ∀ (pins : List (Addr × Obj)) (s : Shared) (σ : St) (H : Hp) (x : V) (v vl vu : Value) (lo hi : Option Int) (sl : Addr) (Q : VK), Inv X pins σ H s → RelV x v → s.heap.IsSliceOf sl vl vu .none → IsPart vl lo → IsPart vu hi → r x lo hi H Q →
    ∃ T id, typeLookup (.type T) "__getitem__" = pure (some (.builtin id)) ∧ s.TypeIs v T ∧ wpAny (model X.prog X.w) X.A (getItem v (.ref sl)) (EP X pins σ Q) X.xe s
theorem SlR.or {r r' : V → Option Int → Option Int → Hp → VK → Prop} (h : SlR X r) (h' : SlR X r') : SlR X (fun x lo hi H Q => r x lo hi H Q ∨ r' x lo hi H Q) := by
  intro pins s σ H x v vl vu lo hi sl Q I rx hs pl pu q
  rcases q with q | q
  · exact h pins s σ H x v vl vu lo hi sl Q I rx hs pl pu q
  · exact h' pins s σ H x v vl vu lo hi sl Q I rx hs pl pu q
def tSl (r : V → Option Int → Option Int → Hp → VK → Prop) (te : TE) (tl th : TO) : TE := fun σ H Q => te σ H fun x H1 => tl σ H1 fun l H2 => th σ H2 fun u H3 => r x l u H3 Q
/-- a[lo:hi], any a -/
theorem pe_slice {r : V → Option Int → Option Int → Hp → VK → Prop} (hr : SlR X r) (he : PE X e te) (hl : PO X lo tl) (hu : PO X hi th) : PE X (.Subscript e (.Slice lo hi none p2) pos) (tSl r te tl th) := by
  intro pins s σ H Q I h
  refine Subscript_ (thn (he pins s σ H _ I h) fun v s1 ⟨x, H1, I1, r1, q1⟩ => ?_)
  refine wpAny_Slice (thn (hl pins s1 σ H1 _ I1 q1) fun vl s2 ⟨l, H2, I2, pl, q2⟩ => thn (hu pins s2 σ H2 _ I2 q2) fun vu s3 ⟨u, H3, I3, pu, q3⟩ => ?_)
  rw [evalPart_none]
  refine wpAny_pure ?_
  have I4 : Inv X pins σ H3 { s3 with heap := s3.heap.push { cls := .type "slice", data := .fields #[vl, vu, .none] } } := I3.kept (t' := s3.toks) fun b ob q => Heap.get?_push_of_some _ q
  obtain ⟨T, id, hT, ht, hg⟩ := hr pins { s3 with heap := s3.heap.push { cls := .type "slice", data := .fields #[vl, vu, .none] } } σ H3 x v vl vu l u s3.heap.objs.size Q I4 r1 (Heap.IsSliceOf.new ..) pl pu q3
  show wpAny (model X.prog X.w) X.A (subscriptTail e (.Slice lo hi none p2) v (.ref s3.heap.objs.size)) (EP X pins σ Q) X.xe { s3 with heap := s3.heap.push { cls := .type "slice", data := .fields #[vl, vu, .none] } }
  exact tail_any (ops := [.ref s3.heap.objs.size, v]) ht hT hg (by with_unfolding_all rfl)

/-- the items of xs[lo:hi] -/
def cutV (xs : List V) (lo hi : Option Int) : List V := (xs.drop (HT.sIx xs.length 0 lo)).take (HT.sIx xs.length xs.length hi - HT.sIx xs.length 0 lo)
theorem cutV_length (xs : List V) (lo hi : Option Int) : (cutV xs lo hi).length ≤ xs.length := by
  unfold cutV
  rw [List.length_take, List.length_drop]
  omega
/-- t[lo:hi], not the whole of it (the whole would be t itself) -/
def rSlT (K : PySem.W.Frag) : V → Option Int → Option Int → Hp → VK → Prop := fun x lo hi H Q => ∃ a xs, x = .ref a ∧ SqT K H a xs ∧
  ¬ (HT.sIx xs.length 0 lo = 0 ∧ HT.sIx xs.length xs.length hi = xs.length) ∧ ∀ p, H p = none → Q (.ref p) (upd H p (.tup (cutV xs lo hi)))
theorem sl_tup : SlR X (rSlT X.K) := by
  intro pins s σ H x v vl vu lo hi sl Q I rx hs pl pu h
  obtain ⟨a, xs, rfl, hx, hw, q⟩ := h
  cases rx
  obtain ⟨its, r, ht, hz⟩ := I.tuple hx
  have hlen : its.toArray.size = xs.length := by rw [List.size_toArray]; exact r.length.symm
  refine ⟨"tuple", _, PyProof.Rows.slot_tuple_getitem.lookup, ht.typeIs, ?_⟩
  refine HT.getItem_tuple_cut ht hs pl pu (by rw [hlen]; exact hw) ?_ (by rw [hlen]; exact hz)
  rw [hlen]
  refine ⟨.ref s.heap.objs.size, _, I.laid (t' := s.toks) (o := .tup (cutV xs lo hi)) (fun b ob q => Heap.get?_push_of_some _ q) (Nat.le_refl _) ?_, rfl, q _ (I.hok.fresh (Nat.le_refl _))⟩
  exact ⟨Nat.le_trans (cutV_length xs lo hi) hz, _, (r.drop (HT.sIx xs.length 0 lo)).take (HT.sIx xs.length xs.length hi - HT.sIx xs.length 0 lo), IsTup.new _ _⟩

/-! ### t < u, t + u -/
def rLtT (K : PySem.W.Frag) : R2 := fun x y H Q => ∃ a b ns ms, x = .ref a ∧ y = .ref b ∧ SqT K H a (ns.map V.int) ∧ SqT K H b (ms.map V.int) ∧ Q (.bl (HT.lexLt ns ms)) H
theorem op_ltT (hu : X.A.units < cLine) : OpR X (compareOp .Lt) (rLtT X.K) := by
  intro pins s σ H x y v u Q I rx ry h
  obtain ⟨a, b, ns, ms, rfl, rfl, ha, hb, q⟩ := h
  cases rx
  cases ry
  obtain ⟨its, r1, p1, _⟩ := I.tuple ha
  obtain ⟨its2, r2, p2, _⟩ := I.tuple hb
  have i1 : IntsAre its.toArray.toList ns := intsAre_of r1
  have i2 : IntsAre its2.toArray.toList ms := intsAre_of r2
  exact HT.lt_tupInts p1 p2 i1 i2 hu ⟨.bl (HT.lexLt ns ms), H, I, rfl, q⟩
/-- t + u, t not empty: u empty gives t itself -/
def rCatT (K : PySem.W.Frag) : R2 := fun x y H Q => ∃ a b xs ys, x = .ref a ∧ y = .ref b ∧ SqT K H a xs ∧ SqT K H b ys ∧ xs ≠ [] ∧ xs.length + ys.length ≤ sizeLine ∧
  (ys = [] → Q (.ref a) H) ∧ (ys ≠ [] → ∀ p, H p = none → Q (.ref p) (upd H p (.tup (xs ++ ys))))
theorem Vals.nil_iff {xs : List V} {us : List Value} (r : Vals xs us) : us = [] ↔ xs = [] := by
  cases r with
  | nil => simp
  | cons _ _ => simp
theorem op_catT : OpR X (binaryOp .Add) (rCatT X.K) := by
  intro pins s σ H x y v u Q I rx ry h
  obtain ⟨a, b, xs, ys, rfl, rfl, ha, hb, hx, hz, q1, q2⟩ := h
  cases rx
  cases ry
  obtain ⟨its, r1, p1, _⟩ := I.tuple ha
  obtain ⟨its2, r2, p2, _⟩ := I.tuple hb
  refine HT.cat_tup p1 p2 (fun z => hx (r1.nil_iff.mp z)) (fun z => ⟨.ref a, H, I, rfl, q1 (r2.nil_iff.mp z)⟩) (fun z => ?_) (by rw [← r1.length, ← r2.length]; exact hz)
  refine ⟨.ref s.heap.objs.size, _, I.laid (t' := s.toks) (o := .tup (xs ++ ys)) (fun b ob q => Heap.get?_push_of_some _ q) (Nat.le_refl _) ?_, rfl, q2 (fun w => z (r2.nil_iff.mpr w)) _ (I.hok.fresh (Nat.le_refl _))⟩
  exact ⟨by rw [List.length_append]; exact hz, _, r1.append r2, IsTup.new _ _⟩
/-- tuple(t) -/
theorem call_tupleT : CallR X (.type "tuple") (fun xs H Q => ∃ a ys, xs = [.ref a] ∧ SqT X.K H a ys ∧ Q (.ref a) H) := by
  intro pins s σ H xs us Q I r h
  obtain ⟨a, ys, rfl, ha, q⟩ := h
  obtain ⟨u, rfl, ru⟩ := vals1 r
  cases ru
  obtain ⟨its, _, p1, _⟩ := I.tuple ha
  exact call_tuple_same (items := its.toArray) p1 ⟨.ref a, H, I, rfl, q⟩
end
end L2

namespace L2
open PySem PySem.Spec PyProof.Rows

/-! ### places -/
/-- the place that an index of any sign means -/
def ixN (n : Nat) (i : Int) : Option Nat := if 0 ≤ i then (if i < n then some i.toNat else none) else if -(n : Int) ≤ i then some (i + n).toNat else none
def atI {α : Type} (xs : List α) (i : Int) : Option α := (ixN xs.length i).bind fun j => xs[j]?
theorem ixN_seq {n : Nat} {i : Int} {j : Nat} (h : ixN n i = some j) : seqIndex? i n = some j ∧ j < n ∧ -(n : Int) ≤ i ∧ i < n := by
  unfold ixN at h
  by_cases h0 : 0 ≤ i
  · rw [if_pos h0] at h
    by_cases h1 : i < n
    · rw [if_pos h1] at h
      have e : i.toNat = j := Option.some.inj h
      exact ⟨by rw [seqIndex_of h0 h1, e], by omega, by omega, h1⟩
    · rw [if_neg h1] at h; cases h
  · rw [if_neg h0] at h
    by_cases h1 : -(n : Int) ≤ i
    · rw [if_pos h1] at h
      have e : (i + n).toNat = j := Option.some.inj h
      exact ⟨by rw [seqIndex_neg (by omega) h1, e], by omega, h1, by omega⟩
    · rw [if_neg h1] at h; cases h
theorem atI_get {α : Type} {xs : List α} {i : Int} {v : α} (h : atI xs i = some v) : ∃ j, seqIndex? i xs.length = some j ∧ xs[j]? = some v ∧ j < xs.length ∧ -(xs.length : Int) ≤ i ∧ i < xs.length := by
  unfold atI at h
  cases e : ixN xs.length i with
  | none => rw [e] at h; cases h
  | some j =>
    rw [e] at h
    obtain ⟨h1, h2, h3, h4⟩ := ixN_seq e
    exact ⟨j, h1, h, h2, h3, h4⟩
theorem atI_nat {α : Type} {xs : List α} {j : Nat} {v : α} (h : xs[j]? = some v) : atI xs (j : Int) = some v := by
  have hj : j < xs.length := (List.getElem?_eq_some_iff.mp h).1
  have e : ixN xs.length (j : Int) = some j := by
    unfold ixN
    rw [if_pos (by omega), if_pos (by omega)]; simp
  unfold atI; rw [e]; exact h
theorem atI_last {α : Type} (xs : List α) (v : α) : atI (xs ++ [v]) (-1) = some v := by
  have hl : (xs ++ [v]).length = xs.length + 1 := by simp
  have e : ixN (xs ++ [v]).length (-1) = some xs.length := by
    unfold ixN
    rw [hl, if_neg (by decide), if_pos (by omega)]
    congr 1
    omega
  unfold atI
  rw [e]
  show (xs ++ [v])[xs.length]? = some v
  simp

/-! ### what may be subscripted -/
/-- what stands as an index of a plain subscript -/
def PlainIx (b : Expr) : Prop := ∀ o i, subscripted b false o i = operate [o, i] (getItem o i)
/-- a subscript by values -/
def IxR (X : Cx) (r : R2) : Prop :=
  ∀ (value slice : Expr) (pins : List (Addr × Obj)) (s : Shared) (σ : St) (H : Hp) (x y : V) (v u : Value) (Q : VK), Inv X pins σ H s → RelV x v → RelV y u → r x y H Q →
    subscripted slice false v u = operate [v, u] (getItem v u) → wpAny (model X.prog X.w) X.A (subscriptTail value slice v u) (EP X pins σ Q) X.xe s
/-- a call of a builtin's method by values: the receiver, the arguments -/
def MtR (X : Cx) (id : String) (r : V → List V → Hp → VK → Prop) : Prop :=
  ∀ (pins : List (Addr × Obj)) (s : Shared) (σ : St) (H : Hp) (x : V) (xs : List V) (v : Value) (us : List Value) (Q : VK), Inv X pins σ H s → RelV x v → Vals xs us → r x xs H Q →
    wpAny (model X.prog X.w) X.A (call (.builtin id) (v :: us)) (EP X pins σ Q) X.xe s
section
variable {X : Cx} {a b : Expr} {ta tb : TE} {pos : Pos}
theorem IxR.or {r r' : R2} (h : IxR X r) (h' : IxR X r') : IxR X (fun x y H Q => r x y H Q ∨ r' x y H Q) := by
  intro value slice pins s σ H x y v u Q I rx ry q hs
  rcases q with q | q
  · exact h value slice pins s σ H x y v u Q I rx ry q hs
  · exact h' value slice pins s σ H x y v u Q I rx ry q hs
theorem MtR.or {id : String} {r r' : V → List V → Hp → VK → Prop} (h : MtR X id r) (h' : MtR X id r') : MtR X id (fun x xs H Q => r x xs H Q ∨ r' x xs H Q) := by
  intro pins s σ H x xs v us Q I rx rs q
  rcases q with q | q
  · exact h pins s σ H x xs v us Q I rx rs q
  · exact h' pins s σ H x xs v us Q I rx rs q
/-- a[b] -/
theorem pe_ix {r : R2} (hr : IxR X r) (ha : PE X a ta) (hb : PE X b tb) (hs : PlainIx b) : PE X (.Subscript a b pos) (tOp r ta tb) := by
  intro pins s σ H Q I h
  exact Subscript_ (binT ha hb I h fun v u s2 x y H2 I2 rx ry q => hr a b pins s2 σ H2 x y v u Q I2 rx ry q (hs _ _))

def rIxL (K : PySem.W.Frag) : R2 := fun x y H Q => ∃ p xs i v, x = .ref p ∧ y = .int i ∧ SqL K H p xs ∧ atI xs i = some v ∧ Q v H
def rIxT (K : PySem.W.Frag) : R2 := fun x y H Q => ∃ p xs i v, x = .ref p ∧ y = .int i ∧ SqT K H p xs ∧ atI xs i = some v ∧ Q v H
def rIxS : R2 := fun x y H Q => ∃ z i c, x = .str z ∧ y = .int i ∧ z.length ≤ sizeLine ∧ atI z.cps.toList i = some c ∧ Q (.str ⟨#[c]⟩) H
theorem ix_list : IxR X (rIxL X.K) := by
  intro value slice pins s σ H x y v u Q I rx ry h hs
  obtain ⟨p, xs, i, z, rfl, rfl, hq, he, q⟩ := h
  cases rx
  obtain ⟨t, rfl⟩ := ry
  obtain ⟨its, r, pl, hz⟩ := I.list hq
  obtain ⟨j, h1, h2, h3, h4, h5⟩ := atI_get he
  obtain ⟨w, ew, rw'⟩ := r.get h2
  have hl := r.length
  have hn := line63
  have fin : EP X pins σ Q w s := ⟨z, H, I, rw', q⟩
  by_cases h0 : 0 ≤ i
  · have hj : i.toNat = j := by
      rw [seqIndex_of h0 h5] at h1
      exact Option.some.inj h1
    exact item_listR pl.isList h0 (by omega) (by rw [hj]; simpa using ew) fin hs
  · have hj : (i + (its.toArray.size : Int)).toNat = j := by
      rw [seqIndex_neg (by omega) h4] at h1
      rw [List.size_toArray, ← hl]
      exact Option.some.inj h1
    exact subscriptTail_builtinR (x := w) pl.isList.typeIs slot_list_getitem.lookup
      (wpAny_getItem_list_neg (Q := fun r s' => r = w ∧ EP X pins σ Q r s') pl.isList (by omega) (by rw [List.size_toArray] <;> omega) (by omega) (by rw [hj]; simpa using ew) ⟨rfl, fin⟩) hs
theorem ix_tup : IxR X (rIxT X.K) := by
  intro value slice pins s σ H x y v u Q I rx ry h hs
  obtain ⟨p, xs, i, z, rfl, rfl, hq, he, q⟩ := h
  cases rx
  obtain ⟨t, rfl⟩ := ry
  obtain ⟨its, r, pl, hz⟩ := I.tuple hq
  obtain ⟨j, h1, h2, h3, h4, h5⟩ := atI_get he
  obtain ⟨w, ew, rw'⟩ := r.get h2
  have hl := r.length
  have hn := line63
  have fin : EP X pins σ Q w s := ⟨z, H, I, rw', q⟩
  exact subscriptTail_builtinR (x := w) pl.typeIs slot_tuple_getitem.lookup
    (getItem_tuple (j := j) (Q := fun r s' => r = w ∧ EP X pins σ Q r s') pl (by omega) (by omega) (by rw [List.size_toArray, ← hl]; exact h1) (by simpa using ew) ⟨rfl, fin⟩) hs
theorem ix_str : IxR X rIxS := by
  intro value slice pins s σ H x y v u Q I rx ry h hs
  obtain ⟨z, i, c, rfl, rfl, hz, he, q⟩ := h
  obtain ⟨t, rfl⟩ := rx
  obtain ⟨t', rfl⟩ := ry
  obtain ⟨j, h1, h2, h3, h4, h5⟩ := atI_get he
  have hl : z.cps.toList.length = z.length := by simp [Str.length]
  rw [hl] at h1 h4 h5
  have hn := line63
  exact tail_any (typeIs_str s z t) slot_str_getitem.lookup (getItem_str (c := c) (by
    have e1 : decide (i < -(2 ^ 63 : Int)) = false := decide_eq_false (by omega)
    have e2 : decide (i ≥ 2 ^ 63) = false := decide_eq_false (by omega)
    rw [e1, e2, Bool.or_false]) (by rw [h1]; simpa using h2) ⟨.str ⟨#[c]⟩, H, I.tok _, ⟨_, rfl⟩, q⟩) hs
/-- list, tuple or str -/
def rIx (K : PySem.W.Frag) : R2 := fun x y H Q => rIxL K x y H Q ∨ rIxT K x y H Q ∨ rIxS x y H Q
theorem ix_seq : IxR X (rIx X.K) := ix_list.or (ix_tup.or ix_str)

/-! ### xs[i] = v, any sign -/
/-- the list's object behind a store -/
theorem mapSeq_set (its : List Value) (n j : Nat) (u : Value) : Obj.mapSeq (·.setIfInBounds j u) { cls := .type "list", data := .seq its.toArray n } = { cls := .type "list", data := .seq (its.set j u).toArray n } := by
  simp [Obj.mapSeq]
theorem Inv.lst {pins : List (Addr × Obj)} {σ : St} {H : Hp} {s : Shared} {p : Addr} {xs : List V} (I : Inv X pins σ H s) (h : H p = some (.lst xs)) :
    ∃ (its : List Value) (n : Nat), Vals xs its ∧ s.heap.get? p = some { cls := .type "list", data := .seq its.toArray n } ∧ xs.length ≤ sizeLine := by
  obtain ⟨z, its, n, r, e⟩ := I.hok p _ h
  exact ⟨its, n, r, e, z⟩
/-- the list at p is written by an update of its object -/
theorem Inv.lstUpd {pins : List (Addr × Obj)} {σ : St} {H : Hp} {s : Shared} {p : Addr} {xs ys : List V} {its its' : List Value} {n n' : Nat} {f : Obj → Obj} (I : Inv X pins σ H s) (h : H p = some (.lst xs))
    (ho : s.heap.get? p = some { cls := .type "list", data := .seq its.toArray n }) (hf : f { cls := .type "list", data := .seq its.toArray n } = { cls := .type "list", data := .seq its'.toArray n' }) (r : Vals ys its') (hz : ys.length ≤ sizeLine) (t : Nat) :
    Inv X pins σ (upd H p (.lst ys)) { s with heap := s.heap.update p f, toks := t } := by
  have e : (s.heap.update p f).get? p = some { cls := .type "list", data := .seq its'.toArray n' } := by
    rw [Heap.get?_update_self f ho (by rw [hf] <;> rfl), hf]
  refine I.write (x := p) (e := p) (by rw [h]; trivial) (.inl rfl) (fun b u hb q => (Heap.get?_update_other _ _ (Ne.symm hb)).trans q) ⟨_, e⟩ ?_
  exact ⟨hz, its', n', r, e⟩
def rSetL : V → V → V → Hp → (Hp → Prop) → Prop := fun o i v H Q => ∃ p xs k j, o = .ref p ∧ i = .int k ∧ H p = some (.lst xs) ∧ ixN xs.length k = some j ∧ Q (upd H p (.lst (xs.set j v)))
theorem set_list : PSet X rSetL := by
  intro pins s σ H o i v ov iv u Q I ro ri rv h
  obtain ⟨p, xs, k, j, rfl, rfl, hp, hj, q⟩ := h
  cases ro
  obtain ⟨t, rfl⟩ := ri
  obtain ⟨its, n, r, ho, hz⟩ := I.lst hp
  obtain ⟨h1, h2, h3, h4⟩ := ixN_seq hj
  have hl := r.length
  have hn := line63
  have I' : Inv X pins σ (upd H p (.lst (xs.set j v))) { s with heap := s.heap.update p (Obj.mapSeq (·.setIfInBounds j u)) } :=
    I.lstUpd hp ho (mapSeq_set its n j u) (r.set rv j) (by rw [List.length_set]; exact hz) s.toks
  by_cases h0 : 0 ≤ k
  · have hk : k.toNat = j := by
      rw [seqIndex_of h0 h4] at h1
      exact Option.some.inj h1
    exact PySem.W.ki_setAt ho h0 (by omega) (by rw [List.size_toArray, ← hl]; exact h4) (by rw [hk]; exact ⟨_, I', q⟩)
  · have hk : (k + (its.toArray.size : Int)).toNat = j := by
      rw [seqIndex_neg (by omega) h3] at h1
      rw [List.size_toArray, ← hl]
      exact Option.some.inj h1
    exact PySem.W.ki_setBack ho (by omega) (by rw [List.size_toArray, ← hl]; exact h3) (by omega) (by rw [hk]; exact ⟨_, I', q⟩)

/-! ### slices -/
theorem slice_bounds (lo hi : Option Int) (n : Nat) : (sliceBounds lo hi none n).1 = ((HT.sIx n 0 lo : Nat) : Int) ∧ (sliceBounds lo hi none n).2.1 = ((HT.sIx n n hi : Nat) : Int) ∧ (sliceBounds lo hi none n).2.2 = 1 := by
  refine ⟨?_, ?_, rfl⟩
  · cases lo with
    | none => simp [sliceBounds, HT.sIx]
    | some i =>
      simp only [sliceBounds, HT.sIx, Option.getD_none, show (1 : Int) > 0 by decide, if_true]
      by_cases h : i < 0
      · simp only [h, if_true] <;> omega
      · simp only [h, if_false] <;> omega
  · cases hi with
    | none => simp [sliceBounds, HT.sIx]
    | some i =>
      simp only [sliceBounds, HT.sIx, Option.getD_none, show (1 : Int) > 0 by decide, if_true]
      by_cases h : i < 0
      · simp only [h, if_true] <;> omega
      · simp only [h, if_false] <;> omega
theorem slicePick_cut (its : List Value) (lo hi : Option Int) : slicePick its.toArray lo hi none = ((its.drop (HT.sIx its.length 0 lo)).take (HT.sIx its.length its.length hi - HT.sIx its.length 0 lo)).toArray := by
  obtain ⟨h1, h2, h3⟩ := slice_bounds lo hi its.toArray.size
  unfold slicePick
  rw [h1, h2, h3]
  simp only [sliceRange_one, pick_run, List.size_toArray] <;> rfl
/-- xs[lo:hi] of a list: a new list -/
def rSlL (K : PySem.W.Frag) : V → Option Int → Option Int → Hp → VK → Prop := fun x lo hi H Q => ∃ a xs, x = .ref a ∧ SqL K H a xs ∧ ∀ p, H p = none → Q (.ref p) (upd H p (.lst (cutV xs lo hi)))
theorem sl_list : SlR X (rSlL X.K) := by
  intro pins s σ H x v vl vu lo hi sl Q I rx hs pl pu h
  obtain ⟨a, xs, rfl, hx, q⟩ := h
  cases rx
  obtain ⟨its, r, ht, hz⟩ := I.list hx
  have hlen := r.length
  refine ⟨"list", _, slot_list_getitem.lookup, ht.isList.typeIs, ?_⟩
  refine wpAny_getItem_list_slice ht.isList hs pl pu .none (by simp) ?_ (by rw [List.size_toArray] <;> omega)
  rw [slicePick_cut, ← hlen]
  refine ⟨.ref s.heap.objs.size, _, I.laid (t' := s.toks) (o := .lst (cutV xs lo hi)) (fun b ob q => Heap.get?_push_of_some _ q) (Nat.le_refl _) ?_, rfl, q _ (I.hok.fresh (Nat.le_refl _))⟩
  exact ⟨Nat.le_trans (cutV_length xs lo hi) hz, _, 0, (r.drop (HT.sIx xs.length 0 lo)).take (HT.sIx xs.length xs.length hi - HT.sIx xs.length 0 lo), Heap.get?_push_size _ rfl⟩

/-! ### in, not in: flat items -/
def flatV : V → Bool
  | .non => true
  | .bl _ => true
  | .int _ => true
  | .str _ => true
  | _ => false
/-- == of flat values -/
def eqV : V → V → Bool
  | .non, .non => true
  | .bl a, .bl b => a == b
  | .bl a, .int b => (if a then 1 else 0) == b
  | .int a, .bl b => a == (if b then 1 else 0)
  | .int a, .int b => a == b
  | .str a, .str b => a == b
  | _, _ => false
theorem eqAt_V {A : Around} {s : Shared} {y x : V} {u v : Value} (ry : RelV y u) (rx : RelV x v) (fy : flatV y = true) (fx : flatV x = true) : SeqAt.EqAt A s u v (eqV y x) := by
  cases y with
  | non =>
    cases ry
    cases x with
    | non => cases rx; exact SeqAt.EqAt.same _
    | bl b => cases rx; exact SeqAt.EqAt.none_bool b
    | int b => obtain ⟨t, rfl⟩ := rx; exact SeqAt.EqAt.none_int b t
    | str b => obtain ⟨t, rfl⟩ := rx; exact SeqAt.EqAt.none_str b t
    | _ => exact absurd (show false = true from fx) Bool.false_ne_true
  | bl a =>
    cases ry
    cases x with
    | non => cases rx; exact SeqAt.EqAt.bool_none a
    | bl b => cases rx; exact SeqAt.EqAt.bool_bool a b
    | int b => obtain ⟨t, rfl⟩ := rx; exact SeqAt.EqAt.bool_int a b t
    | str b => obtain ⟨t, rfl⟩ := rx; exact SeqAt.EqAt.bool_str a b t
    | _ => exact absurd (show false = true from fx) Bool.false_ne_true
  | int a =>
    obtain ⟨t', rfl⟩ := ry
    cases x with
    | non => cases rx; exact SeqAt.EqAt.int_none a t'
    | bl b => cases rx; exact SeqAt.EqAt.int_bool a t' b
    | int b => obtain ⟨t, rfl⟩ := rx; exact SeqAt.EqAt.int_int a t' b t
    | str b => obtain ⟨t, rfl⟩ := rx; exact SeqAt.EqAt.int_str a t' b t
    | _ => exact absurd (show false = true from fx) Bool.false_ne_true
  | str a =>
    obtain ⟨t', rfl⟩ := ry
    cases x with
    | non => cases rx; exact SeqAt.EqAt.str_none a t'
    | bl b => cases rx; exact SeqAt.EqAt.str_bool a t' b
    | int b => obtain ⟨t, rfl⟩ := rx; exact SeqAt.EqAt.str_int a t' b t
    | str b => obtain ⟨t, rfl⟩ := rx; exact SeqAt.EqAt.str_str a t' b t
    | _ => exact absurd (show false = true from fx) Bool.false_ne_true
  | _ => exact absurd (show false = true from fy) Bool.false_ne_true
/-- the items' answers, read off the values (a value's own answer does not lean on its token) -/
def eqU (x : V) (u : Value) : Bool := match u with
  | .none => eqV .non x
  | .bool b => eqV (.bl b) x
  | .int i _ => eqV (.int i) x
  | .str z _ => eqV (.str z) x
  | _ => false
theorem eqU_of {x y : V} {u : Value} (r : RelV y u) (f : flatV y = true) : eqU x u = eqV y x := by
  cases y with
  | non => cases r; rfl
  | bl b => cases r; rfl
  | int i => obtain ⟨t, rfl⟩ := r; rfl
  | str z => obtain ⟨t, rfl⟩ := r; rfl
  | _ => exact absurd (show false = true from f) Bool.false_ne_true
theorem any_eqU {x : V} : ∀ {xs : List V} {us : List Value}, Vals xs us → xs.all flatV = true → us.any (eqU x) = xs.any fun y => eqV y x
  | _, _, .nil, _ => rfl
  | y :: xs, u :: us, .cons r t, f => by
    rw [List.all_cons, Bool.and_eq_true] at f
    rw [List.any_cons, List.any_cons, eqU_of r f.1, any_eqU t f.2]
theorem mem_eqAt {A : Around} {s : Shared} {x : V} {v : Value} (rx : RelV x v) (fx : flatV x = true) : ∀ {xs : List V} {us : List Value}, Vals xs us → xs.all flatV = true → ∀ u ∈ us, SeqAt.EqAt A s u v (eqU x u)
  | _, _, .nil, _ => fun u hu => by cases hu
  | y :: xs, u :: us, .cons r t, f => fun u' hu => by
    rw [List.all_cons, Bool.and_eq_true] at f
    rcases List.mem_cons.mp hu with rfl | hu
    · rw [eqU_of r f.1]; exact eqAt_V r rx f.1 fx
    · exact mem_eqAt rx fx t f.2 u' hu
def inV (x : V) (xs : List V) : Bool := xs.any fun y => eqV y x
/-- x in a list or tuple of flat items -/
def rIn (K : PySem.W.Frag) (neg : Bool) : R2 := fun x y H Q => ∃ p xs, y = .ref p ∧ (SqL K H p xs ∨ SqT K H p xs) ∧ flatV x = true ∧ xs.all flatV = true ∧ Q (.bl (if neg then !inV x xs else inV x xs)) H
theorem op_in_seq : OpR X (compareOp .In) (rIn X.K false) := by
  intro pins s σ H x y v u Q I rx ry h
  obtain ⟨p, xs, rfl, hq, fx, fs, q⟩ := h
  cases ry
  rcases hq with hq | hq
  · obtain ⟨its, r, pl, hz⟩ := I.list hq
    refine SeqAt.in_listAt (eqU x) pl.isList (fun w hw => mem_eqAt rx fx r fs w (by simpa using hw)) ⟨.bl _, H, I, rfl, ?_⟩
    rw [show its.toArray.any (eqU x) = its.any (eqU x) by simp, any_eqU r fs]
    exact q
  · obtain ⟨its, r, pl, hz⟩ := I.tuple hq
    refine SeqAt.in_tupleAt (eqU x) pl (fun w hw => mem_eqAt rx fx r fs w (by simpa using hw)) ⟨.bl _, H, I, rfl, ?_⟩
    rw [show its.toArray.any (eqU x) = its.any (eqU x) by simp, any_eqU r fs]
    exact q
theorem op_notIn_seq : OpR X (compareOp .NotIn) (rIn X.K true) := by
  intro pins s σ H x y v u Q I rx ry h
  obtain ⟨p, xs, rfl, hq, fx, fs, q⟩ := h
  cases ry
  rcases hq with hq | hq
  · obtain ⟨its, r, pl, hz⟩ := I.list hq
    refine SeqAt.notIn_listAt (eqU x) pl.isList (fun w hw => mem_eqAt rx fx r fs w (by simpa using hw)) ⟨.bl _, H, I, rfl, ?_⟩
    rw [show its.toArray.any (eqU x) = its.any (eqU x) by simp, any_eqU r fs]
    exact q
  · obtain ⟨its, r, pl, hz⟩ := I.tuple hq
    refine SeqAt.notIn_tupleAt (eqU x) pl (fun w hw => mem_eqAt rx fx r fs w (by simpa using hw)) ⟨.bl _, H, I, rfl, ?_⟩
    rw [show its.toArray.any (eqU x) = its.any (eqU x) by simp, any_eqU r fs]
    exact q
theorem op_notIn_str : OpR X (compareOp .NotIn) (fun x y H Q => ∃ i j, x = .str i ∧ y = .str j ∧ Q (.bl (!(!(Builtin.Str.occurrences j i 0 j.length 1).isEmpty))) H) := by
  intro pins s σ H x y v u Q I rx ry h
  obtain ⟨i, j, rfl, rfl, q⟩ := h
  obtain ⟨t, rfl⟩ := rx
  obtain ⟨t', rfl⟩ := ry
  exact notIn_str ⟨.bl _, H, I, rfl, q⟩

/-! ### len, list(x), tuple(x) of any list or tuple that is read -/
theorem call_len_seq : CallR X (.builtin "len") (fun xs H Q => ∃ p ys, xs = [.ref p] ∧ (SqL X.K H p ys ∨ SqT X.K H p ys) ∧ Q (.int ys.length) H) := by
  intro pins s σ H xs us Q I r h
  obtain ⟨p, ys, rfl, hq, q⟩ := h
  obtain ⟨u, rfl, rx⟩ := vals1 r
  cases rx
  have hn := line63
  rcases hq with hq | hq
  · obtain ⟨its, r', pl, hz⟩ := I.list hq
    have hlen := r'.length
    exact Calls.call_len_list pl.isList (by simp only [List.size_toArray] <;> omega) ⟨.int ys.length, H, I.tok _, ⟨s.toks + 1, by rw [List.size_toArray, hlen]⟩, q⟩
  · obtain ⟨its, r', pl, hz⟩ := I.tuple hq
    have hlen := r'.length
    exact len_tuple pl (by simp only [List.size_toArray] <;> omega) ⟨.int ys.length, H, I.tok _, ⟨s.toks + 1, by rw [List.size_toArray, hlen]⟩, q⟩
theorem call_len_str : CallR X (.builtin "len") (fun xs H Q => ∃ z, xs = [.str z] ∧ z.length ≤ sizeLine ∧ Q (.int z.length) H) := by
  intro pins s σ H xs us Q I r h
  obtain ⟨z, rfl, hz, q⟩ := h
  obtain ⟨u, rfl, t, rfl⟩ := vals1 r
  have hn := line63
  exact len_str (by omega) ⟨.int z.length, H, I.tok _, ⟨_, rfl⟩, q⟩
theorem CallR.or {f : Value} {r r' : List V → Hp → VK → Prop} (h : CallR X f r) (h' : CallR X f r') : CallR X f (fun xs H Q => r xs H Q ∨ r' xs H Q) := by
  intro pins s σ H xs us Q I rs q
  rcases q with q | q
  · exact h pins s σ H xs us Q I rs q
  · exact h' pins s σ H xs us Q I rs q
theorem call_list_of : CallR X (.type "list") (fun xs H Q => ∃ p ys, xs = [.ref p] ∧ (SqL X.K H p ys ∨ SqT X.K H p ys) ∧ ∀ l, H l = none → Q (.ref l) (upd H l (.lst ys))) := by
  intro pins s σ H xs us Q I r h
  obtain ⟨p, ys, rfl, hq, q⟩ := h
  obtain ⟨u, rfl, rx⟩ := vals1 r
  cases rx
  have fin : ∀ (its : List Value), Vals ys its → ys.length ≤ sizeLine → ∀ (h' : Heap) (c' : Nat), (∀ b o', s.heap.get? b = some o' → h'.get? b = some o') →
      h'.get? s.heap.objs.size = some { cls := .type "list", dict := none, data := .seq its.toArray c', slots := #[] } → EP X pins σ Q (.ref s.heap.objs.size) { s with heap := h' } := fun its r' hz h' c' kp e =>
    ⟨.ref s.heap.objs.size, _, I.laid (t' := s.toks) kp (Nat.le_refl _) (show ObjOk X.prog X.w _ h' _ (.lst ys) from ⟨hz, its, c', r', e⟩), rfl, q _ (I.hok.fresh (Nat.le_refl _))⟩
  rcases hq with hq | hq
  · obtain ⟨its, r', pl, hz⟩ := I.list hq
    have hlen := r'.length
    obtain ⟨o, ho, hc, n, hd⟩ := pl.isList
    exact call_list_seq p (.inl rfl) ho hc hd (fun h' c' kp e => fin its r' hz h' c' kp e) (by simp only [List.size_toArray] <;> omega)
  · obtain ⟨its, r', pl, hz⟩ := I.tuple hq
    have hlen := r'.length
    obtain ⟨o, ho, hc, n, hd⟩ := pl
    exact call_list_seq p (.inr rfl) ho hc hd (fun h' c' kp e => fin its r' hz h' c' kp e) (by simp only [List.size_toArray] <;> omega)
theorem call_tuple_of : CallR X (.type "tuple") (fun xs H Q => ∃ p ys, xs = [.ref p] ∧ ((SqL X.K H p ys ∧ ∀ l, H l = none → Q (.ref l) (upd H l (.tup ys))) ∨ (SqT X.K H p ys ∧ Q (.ref p) H))) := by
  intro pins s σ H xs us Q I r h
  obtain ⟨p, ys, rfl, h⟩ := h
  obtain ⟨u, rfl, rx⟩ := vals1 r
  cases rx
  rcases h with ⟨hq, q⟩ | ⟨hq, q⟩
  · obtain ⟨its, r', pl, hz⟩ := I.list hq
    have hlen := r'.length
    refine call_tuple_list pl.isList (fun h' kp => ?_) (by simp only [List.size_toArray] <;> omega)
    have I1 : Inv X pins σ H { s with heap := h' } := I.kept (t' := s.toks) kp
    have I2 : Inv X pins σ (upd H h'.objs.size (.tup ys)) { s with heap := h'.push { cls := .type "tuple", data := .seq its.toArray } } :=
      I1.laid (t' := s.toks) (fun b o e => Heap.get?_push_of_some _ e) (Nat.le_refl _) (show ObjOk X.prog X.w _ _ _ (.tup ys) from ⟨hz, its, r', IsTup.new _ _⟩)
    exact ⟨.ref h'.objs.size, _, I2, rfl, q _ (I1.hok.fresh (Nat.le_refl _))⟩
  · obtain ⟨its, r', pl, hz⟩ := I.tuple hq
    exact call_tuple_same pl ⟨.ref p, H, I, rfl, q⟩

/-! ### the call of a builtin's method: o.m(..) -/
/-- the value is of that builtin type -/
def tyV (K : PySem.W.Frag) (T : String) (x : V) (H : Hp) : Prop := match x with
  | .str _ => T = "str"
  | .int _ => T = "int"
  | .ref p => (T = "list" ∧ ∃ xs, SqL K H p xs) ∨ (T = "tuple" ∧ ∃ o, K.lookup p = some o ∧ o.cls = .type "tuple" ∧ o.dict = none) ∨
      (T = "dict" ∧ ((∃ kvs, H p = some (.dK kvs)) ∨ ∃ kvs, H p = some (.dT kvs))) ∨ (T = "set" ∧ ∃ S n, H p = some (.set S n))
  | _ => False
theorem tyV_is {pins : List (Addr × Obj)} {σ : St} {H : Hp} {s : Shared} {T : String} {x : V} {v : Value} (I : Inv X pins σ H s) (r : RelV x v) (ty : tyV X.K T x H) :
    s.TypeIs v T ∧ ∀ a, v = .ref a → ∃ ob, s.heap.get? a = some ob ∧ ob.dict = none := by
  cases x with
  | str z =>
    obtain ⟨t, rfl⟩ := r
    cases (show T = "str" from ty)
    exact ⟨typeIs_str s z t, fun _ e => nomatch e⟩
  | int i =>
    obtain ⟨t, rfl⟩ := r
    cases (show T = "int" from ty)
    exact ⟨typeIs_int s i t, fun _ e => nomatch e⟩
  | ref p =>
    cases r
    rcases ty with ⟨rfl, xs, hq⟩ | ⟨rfl, o, hk, hc, hd⟩ | ⟨rfl, hk⟩ | ⟨rfl, S, n, hk⟩
    · obtain ⟨its, _, pl, _⟩ := I.list hq
      refine ⟨pl.isList.typeIs, fun a e => ?_⟩
      cases e
      obtain ⟨o, n, e, c, hd, _⟩ := pl
      exact ⟨o, e, hd⟩
    · refine ⟨⟨o, I.kIn p o hk, hc⟩, fun a e => ?_⟩
      cases e
      exact ⟨o, I.kIn _ o hk, hd⟩
    · have z : ∃ o, s.heap.get? p = some o ∧ o.ExactDict := by
        rcases hk with ⟨kvs, hk⟩ | ⟨kvs, hk⟩
        · obtain ⟨_, _, _, _, o, _, _, e, ex, _⟩ := I.hok p _ hk
          exact ⟨o, e, ex⟩
        · obtain ⟨_, _, _, _, o, _, _, e, ex, _⟩ := I.hok p _ hk
          exact ⟨o, e, ex⟩
      obtain ⟨o, e, ex⟩ := z
      refine ⟨⟨o, e, ex.1⟩, fun a e2 => ?_⟩
      cases e2
      exact ⟨o, e, ex.2.1⟩
    · obtain ⟨o, _, _, _, e, ex, _⟩ := I.hok p _ hk
      refine ⟨⟨o, e, ex.1⟩, fun a e2 => ?_⟩
      cases e2
      exact ⟨o, e, ex.2.1⟩
  | _ => exact False.elim ty
def tBM0 (K : PySem.W.Frag) (T : String) (r : V → List V → Hp → VK → Prop) (to : TE) : TE := fun σ H Q => to σ H fun x H1 => tyV K T x H1 ∧ r x [] H1 Q
def tBM (K : PySem.W.Frag) (T : String) (r : V → List V → Hp → VK → Prop) (to : TE) (t : TA) : TE := fun σ H Q => to σ H fun x H1 => tyV K T x H1 ∧ t σ H1 fun xs H2 => r x xs H2 Q
variable {o e : Expr} {es : List Expr} {to : TE} {t : TA} {name : Str} {apos cpos : Pos} {T id : String} {r : V → List V → Hp → VK → Prop}
theorem pe_bm0 (pa : PlainAttrs T) (slot : Slot T name id) (hty : typeOf (.builtin id) = pure (.type "method_descriptor")) (hm : MtR X id r) (ho : PE X o to)
    (hbase : attributeBase o name X.env (eval o X.env) = eval o X.env := by rfl) (hline : (apos.endLine == cpos.line) = true := by rfl) : PE X (.Call (.Attribute o name apos) [] [] cpos) (tBM0 X.K T r to) := by
  intro pins s σ H Q I h
  refine wpAny_Call_method0_late hbase hline (thn (ho pins s σ H _ I h) fun v s1 ⟨x, H1, I1, r1, ty, q1⟩ => ?_)
  obtain ⟨h1, h2⟩ := tyV_is I1 r1 ty
  exact ⟨T, id, pa, slot, hty, h1, h2, Calls.callWith_builtin rfl (PySem.evalArgs_none (hm pins s1 σ H1 x [] v [] Q I1 r1 .nil q1))⟩
theorem pe_bm (pa : PlainAttrs T) (slot : Slot T name id) (hty : typeOf (.builtin id) = pure (.type "method_descriptor")) (hm : MtR X id r) (ho : PE X o to) (ha : PA X (e :: es) t)
    (hbase : attributeBase o name X.env (eval o X.env) = eval o X.env := by rfl)
    (hfew : ((backTo cpos (starEach (e :: es) X.env)).all (fun x => !x.1) && (backToKw cpos (keywordEach [] X.env)).all (fun x => x.1.isSome)
      && decide ((e :: es).length + ([] : List Keyword).length + (if ([] : List Keyword).isEmpty then 0 else 1) < 30)) = true := by rfl)
    (hline : (apos.endLine == cpos.line) = true := by rfl) (hs : starEach (e :: es) X.env = (false, eval e X.env) :: starEach es X.env := by rfl) (hplain : (backTo cpos (starEach es X.env)).any (·.1) = false := by rfl) :
    PE X (.Call (.Attribute o name apos) (e :: es) [] cpos) (tBM X.K T r to t) := by
  intro pins s σ H Q I h
  refine wpAny_Call_method_late hbase hfew hline rfl (thn (ho pins s σ H _ I h) fun v s1 ⟨x, H1, I1, r1, ty, q1⟩ => ?_)
  obtain ⟨h1, h2⟩ := tyV_is I1 r1 ty
  refine ⟨T, id, pa, slot, hty, h1, h2, ?_⟩
  have hA := ha cpos pins s1 σ H1 _ I1 q1
  rw [hs] at hA ⊢
  refine Calls.callWith_builtin (by show (false || (backTo cpos (starEach es X.env)).any (·.1)) = false; rw [hplain] <;> rfl) (Calls.evalArgs_plain ?_)
  exact thn hA fun us s2 ⟨vs, H2, I2, r2, q2⟩ => hm pins s2 σ H2 x vs v us Q I2 r1 r2 q2
/- xs.append(e), list.index on a module's tuple .. are MtR facts of 06m -/
end
end L2

namespace L2
open PySem PySem.Spec PyProof.Rows

def MtM (X : Cx) (id : String) (r : V → List V → Hp → VK → Prop) : Prop :=
  ∀ (pins : List (Addr × Obj)) (s : Shared) (σ : St) (H : Hp) (x : V) (xs : List V) (v : Value) (us : List Value) (Q : VK), Inv X pins σ H s → RelV x v → Vals xs us → r x xs H Q →
    wpAny (model X.prog X.w) X.A (call (.builtin id) (v :: us)) (EP X pins σ Q) X.xe s

/-! ### lists of values -/
theorem Vals.one : ∀ {x : V} {us : List Value}, Vals [x] us → ∃ u, us = [u] ∧ RelV x u
  | _, _, .cons r .nil => ⟨_, rfl, r⟩
theorem Vals.two : ∀ {x y : V} {us : List Value}, Vals [x, y] us → ∃ u v, us = [u, v] ∧ RelV x u ∧ RelV y v
  | _, _, _, .cons r (.cons q .nil) => ⟨_, _, rfl, r, q⟩
theorem Vals.zero : ∀ {us : List Value}, Vals [] us → us = []
  | _, .nil => rfl
theorem Vals.dropLast {xs : List V} {us : List Value} (h : Vals xs us) : Vals xs.dropLast us.dropLast := by
  induction h with
  | nil => exact .nil
  | cons r t ih =>
    cases t with
    | nil => exact .nil
    | cons q t' => exact .cons r ih
theorem Vals.eraseIdx : ∀ {xs : List V} {us : List Value} (i : Nat), Vals xs us → Vals (xs.eraseIdx i) (us.eraseIdx i)
  | _, _, _, .nil => .nil
  | _, _, 0, .cons _ t => t
  | _, _, i + 1, .cons r t => .cons r (Vals.eraseIdx i t)
theorem Vals.reverse {xs : List V} {us : List Value} (h : Vals xs us) : Vals xs.reverse us.reverse := by
  induction h with
  | nil => exact .nil
  | cons r t ih => rw [List.reverse_cons, List.reverse_cons]; exact Vals.append ih (.cons r .nil)
theorem Vals.rep {xs : List V} {us : List Value} (h : Vals xs us) : ∀ k : Nat, Vals (List.replicate k xs).flatten (List.replicate k us).flatten
  | 0 => .nil
  | k + 1 => by
    rw [List.replicate_succ, List.replicate_succ, List.flatten_cons, List.flatten_cons]
    exact Vals.append h (Vals.rep h k)
theorem erase_last {α : Type} (l : List α) : l.eraseIdx (l.length - 1) = l.dropLast := by
  induction l with
  | nil => rfl
  | cons a r ih =>
    cases r with
    | nil => rfl
    | cons b r =>
      have e : (a :: b :: r).length - 1 = ((b :: r).length - 1) + 1 := by
        have h1 : (a :: b :: r).length = r.length + 2 := rfl
        have h2 : (b :: r).length = r.length + 1 := rfl
        omega
      rw [e, List.eraseIdx_cons_succ, ih]
      all_goals rfl
theorem len_erase {α : Type} : ∀ (l : List α) (i : Nat), (l.eraseIdx i).length ≤ l.length
  | [], _ => Nat.le_refl _
  | _ :: _, 0 => Nat.le_succ _
  | _ :: r, i + 1 => Nat.succ_le_succ (len_erase r i)
theorem foldl_rep (its : List Value) : ∀ (k : Nat) (acc : List Value),
    List.foldl (fun x1 x2 => x1 ++ x2) acc.toArray (List.replicate k its.toArray) = (acc ++ (List.replicate k its).flatten).toArray
  | 0, acc => by simp
  | k + 1, acc => by
    have e : acc.toArray ++ its.toArray = (acc ++ its).toArray := by simp
    have e2 : (acc ++ its) ++ (List.replicate k its).flatten = acc ++ (List.replicate (k + 1) its).flatten := by
      rw [List.replicate_succ, List.flatten_cons, List.append_assoc]
    rw [← e2, ← foldl_rep its k (acc ++ its), ← e, List.replicate_succ, List.foldl_cons]

section
variable {X : Cx} {pins : List (Addr × Obj)} {σ : St} {H : Hp} {s : Shared} {l b : Addr} {xs ys zs : List V}

/-! ### the two steps: a tracked list is rewritten, a new list is laid -/
theorem Inv.lset {its its' : List Value} {n : Nat} {f : Array Value → Array Value} {t' : Nat} (I : Inv X pins σ H s) (hH : H l = some (.lst xs))
    (e : s.heap.get? l = some { cls := .type "list", data := .seq its.toArray n }) (hf : f its.toArray = its'.toArray) (hv : Vals ys its') (hz : ys.length ≤ sizeLine) :
    Inv X pins σ (upd H l (.lst ys)) { s with heap := s.heap.update l (Obj.mapSeq f), toks := t' } := by
  have q := PySem.IsL.update e f
  rw [hf] at q
  refine I.write (x := l) (e := l) (by rw [hH]; exact trivial) (.inl rfl) (fun b' u hb hu => (Heap.get?_update_other s.heap (Obj.mapSeq f) (Ne.symm hb)).trans hu) ⟨_, q⟩ ?_
  exact ⟨hz, its', _, hv, q⟩
theorem Inv.lnew {its : List Value} {t' : Nat} (I : Inv X pins σ H s) (hv : Vals ys its) (hz : ys.length ≤ sizeLine) :
    Inv X pins σ (upd H s.heap.objs.size (.lst ys)) { s with heap := s.heap.push { cls := .type "list", data := .seq its.toArray }, toks := t' } :=
  I.laid (fun _ _ q => Heap.get?_push_of_some _ q) (Nat.le_refl _) ⟨hz, its, 0, hv, Heap.get?_push_size _ rfl⟩
theorem Inv.fresh (I : Inv X pins σ H s) : H s.heap.objs.size = none := I.hok.fresh (Nat.le_refl _)
theorem Inv.lstM (I : Inv X pins σ H s) (hH : H l = some (.lst xs)) : xs.length ≤ sizeLine ∧ ∃ (its : List Value) (n : Nat), Vals xs its ∧ xs.length = its.length ∧ s.heap.get? l = some { cls := .type "list", data := .seq its.toArray n } := by
  obtain ⟨z, its, n, r, e⟩ := I.hok l _ hH
  exact ⟨z, its, n, r, r.length, e⟩

theorem notLongL {n : Nat} (h : n ≤ sizeLine) : Builtin.List.listTooLong n = false := by
  unfold Builtin.List.listTooLong
  exact decide_eq_false (by omega)
end

section
variable {X : Cx}

/-! ### methods -/
def rAppend : V → List V → Hp → VK → Prop := fun x vs H Q => ∃ l xs y, x = .ref l ∧ vs = [y] ∧ H l = some (.lst xs) ∧ xs.length < sizeLine ∧ Q .non (upd H l (.lst (xs ++ [y])))
theorem mt_append : MtM X "list.append" rAppend := by
  intro pins s σ H x vs v us Q I rx rv h
  obtain ⟨l, xs, y, rfl, rfl, hH, hz, q⟩ := h
  cases rx
  obtain ⟨u, rfl, ru⟩ := rv.one
  obtain ⟨z, its, n, r, hl, e⟩ := I.lstM hH
  refine call_meets F.slot_list_append ⟨_, e, rfl⟩ F.entry_list_append (F.args_list_append_2 _ _) (PySem.list_append l its.toArray n u (by rw [List.size_toArray]; omega)) ⟨e, ?_⟩
  refine ⟨.non, _, I.lset (its' := its ++ [u]) hH e (by simp) (r.append (.cons ru .nil)) ?_, rfl, q⟩
  rw [List.length_append, List.length_singleton]
  omega

def rExtend : V → List V → Hp → VK → Prop := fun x vs H Q => ∃ l b xs zs, x = .ref l ∧ vs = [.ref b] ∧ H l = some (.lst xs) ∧ H b = some (.lst zs) ∧ xs.length + zs.length ≤ sizeLine ∧ Q .non (upd H l (.lst (xs ++ zs)))
theorem mt_extend : MtM X "list.extend" rExtend := by
  intro pins s σ H x vs v us Q I rx rv h
  obtain ⟨l, b, xs, zs, rfl, rfl, hH, hB, hz, q⟩ := h
  cases rx
  obtain ⟨u, rfl, ru⟩ := rv.one
  cases ru
  obtain ⟨z, its, n, r, hl, e⟩ := I.lstM hH
  obtain ⟨z2, its2, n2, r2, hl2, e2⟩ := I.lstM hB
  have hsz : its.toArray.size + its2.toArray.size ≤ sizeLine := by rw [List.size_toArray, List.size_toArray]; omega
  have hlong : ¬ (!its.toArray.isEmpty && Builtin.List.listTooLong (its.toArray.size + its2.toArray.size)) = true := by
    rw [notLongL hsz, Bool.and_false]
    exact Bool.false_ne_true
  refine call_meets F.slot_list_extend ⟨_, e, rfl⟩ F.entry_list_extend (F.args_list_extend_2 _ _)
    (AutoSeq1.list_extend_list_list_0 l its.toArray n b its2.toArray n2 hlong (by rw [List.size_toArray]; omega) (by omega)) ⟨e, e2, ?_⟩
  refine ⟨.non, _, I.lset (its' := its ++ its2) hH e (by simp) (r.append r2) ?_, rfl, q⟩
  rw [List.length_append]
  omega

def rPop : V → List V → Hp → VK → Prop := fun x vs H Q => ∃ l xs y, x = .ref l ∧ vs = [] ∧ H l = some (.lst xs) ∧ xs[xs.length - 1]? = some y ∧ Q y (upd H l (.lst xs.dropLast))
theorem mt_pop : MtM X "list.pop" rPop := by
  intro pins s σ H x vs v us Q I rx rv h
  obtain ⟨l, xs, y, rfl, rfl, hH, hy, q⟩ := h
  cases rx
  have hus := rv.zero
  subst hus
  obtain ⟨z, its, n, r, hl, e⟩ := I.lstM hH
  obtain ⟨u, hu, ru⟩ := r.get hy
  have hy' : its.toArray[its.toArray.size - 1]? = some u := by
    show its.toArray[its.length - 1]? = some u
    rw [← Array.getElem?_toList, ← hl]
    exact hu
  refine call_meets F.slot_list_pop ⟨_, e, rfl⟩ F.entry_list_pop (F.args_list_pop_1 _) (MeetsSeq.list_pop_last l its.toArray n u hy' (by rw [List.size_toArray]; omega)) ⟨e, ?_⟩
  refine ⟨y, _, I.lset (its' := its.dropLast) hH e ?_ r.dropLast ?_, ru, q⟩
  · show its.toArray.eraseIdxIfInBounds (its.toArray.size - 1) = its.dropLast.toArray
    rw [List.size_toArray, List.eraseIdxIfInBounds_toArray, erase_last]
  · rw [List.length_dropLast]
    omega

def rPopAt : V → List V → Hp → VK → Prop := fun x vs H Q => ∃ l xs i k y, x = .ref l ∧ vs = [.int i] ∧ H l = some (.lst xs) ∧ -(2 ^ 63) ≤ i ∧ i < 2 ^ 63 ∧ seqIndex? i xs.length = some k ∧ xs[k]? = some y ∧ Q y (upd H l (.lst (xs.eraseIdx k)))
theorem mt_popAt : MtM X "list.pop" rPopAt := by
  intro pins s σ H x vs v us Q I rx rv h
  obtain ⟨l, xs, i, k, y, rfl, rfl, hH, h1, h2, hk, hy, q⟩ := h
  cases rx
  obtain ⟨u, rfl, ru⟩ := rv.one
  obtain ⟨t, rfl⟩ := ru
  obtain ⟨z, its, n, r, hl, e⟩ := I.lstM hH
  obtain ⟨w, hw, rw'⟩ := r.get hy
  refine call_meets F.slot_list_pop ⟨_, e, rfl⟩ F.entry_list_pop (F.args_list_pop_2 _ _)
    (MeetsSeq.list_pop_at l its.toArray n i t k w (fitsIndex_both h1 h2) (by rw [List.size_toArray, ← hl]; exact hk) (by rw [← Array.getElem?_toList]; exact hw) (by rw [List.size_toArray]; omega)) ⟨e, ?_⟩
  refine ⟨y, _, I.lset (its' := its.eraseIdx k) hH e ?_ (r.eraseIdx k) ?_, rw', q⟩
  · show its.toArray.eraseIdxIfInBounds k = (its.eraseIdx k).toArray
    rw [List.eraseIdxIfInBounds_toArray]
  · have := len_erase xs k
    omega

def rReverse : V → List V → Hp → VK → Prop := fun x vs H Q => ∃ l xs, x = .ref l ∧ vs = [] ∧ H l = some (.lst xs) ∧ Q .non (upd H l (.lst xs.reverse))
theorem mt_reverse : MtM X "list.reverse" rReverse := by
  intro pins s σ H x vs v us Q I rx rv h
  obtain ⟨l, xs, rfl, rfl, hH, q⟩ := h
  cases rx
  have hus := rv.zero
  subst hus
  obtain ⟨z, its, n, r, hl, e⟩ := I.lstM hH
  refine call_meets F.slot_list_reverse ⟨_, e, rfl⟩ F.entry_list_reverse (F.args_list_reverse_1 _) (AutoSeq1.list_reverse_list_0 l its.toArray n (by rw [List.size_toArray]; omega)) ⟨e, ?_⟩
  refine ⟨.non, _, I.lset (its' := its.reverse) hH e (by simp) r.reverse ?_, rfl, q⟩
  rw [List.length_reverse]
  omega

def rClear : V → List V → Hp → VK → Prop := fun x vs H Q => ∃ l xs, x = .ref l ∧ vs = [] ∧ H l = some (.lst xs) ∧ Q .non (upd H l (.lst []))
theorem mt_clear : MtM X "list.clear" rClear := by
  intro pins s σ H x vs v us Q I rx rv h
  obtain ⟨l, xs, rfl, rfl, hH, q⟩ := h
  cases rx
  have hus := rv.zero
  subst hus
  obtain ⟨z, its, n, r, hl, e⟩ := I.lstM hH
  refine call_meets F.slot_list_clear ⟨_, e, rfl⟩ F.entry_list_clear (F.args_list_clear_1 _) (AutoSeq1.list_clear_list_0 l its.toArray n (by rw [List.size_toArray]; omega)) ⟨e, ?_⟩
  exact ⟨.non, _, I.lset (its' := []) (ys := []) hH e rfl .nil (Nat.zero_le _), rfl, q⟩

/-! ### list + list, list += list, list * int -/
def rCat : R2 := fun x y H Q => ∃ l b xs zs, x = .ref l ∧ y = .ref b ∧ H l = some (.lst xs) ∧ H b = some (.lst zs) ∧ xs.length + zs.length ≤ sizeLine ∧ ∀ p, H p = none → Q (.ref p) (upd H p (.lst (xs ++ zs)))
theorem op_cat : OpR X (binaryOp .Add) rCat := by
  intro pins s σ H x y v u Q I rx ry h
  obtain ⟨l, b, xs, zs, rfl, rfl, hH, hB, hz, q⟩ := h
  cases rx
  cases ry
  obtain ⟨z, its, n, r, hl, e⟩ := I.lstM hH
  obtain ⟨z2, its2, n2, r2, hl2, e2⟩ := I.lstM hB
  refine PySem.P.add_list e e2 ?_ (by rw [List.size_toArray, List.size_toArray]; omega)
  have ea : its.toArray ++ its2.toArray = (its ++ its2).toArray := by simp
  rw [ea]
  exact ⟨.ref _, _, I.lnew (t' := s.toks) (r.append r2) (by rw [List.length_append]; omega), rfl, q _ I.fresh⟩
/-- a list times an int (a negative one is nothing) -/
def rRep : R2 := fun x y H Q => ∃ l k xs, x = .ref l ∧ y = .int k ∧ H l = some (.lst xs) ∧ -(2 ^ 63) ≤ k ∧ k < 2 ^ 63 ∧ xs.length * k.toNat ≤ sizeLine ∧
  ∀ p, H p = none → Q (.ref p) (upd H p (.lst (List.replicate k.toNat xs).flatten))
theorem len_rep {α : Type} (xs : List α) (k : Nat) : (List.replicate k xs).flatten.length = k * xs.length := by
  induction k with
  | zero => simp
  | succ k ih => rw [List.replicate_succ, List.flatten_cons, List.length_append, ih, Nat.succ_mul, Nat.add_comm]
theorem op_rep : OpR X (binaryOp .Mult) rRep := by
  intro pins s σ H x y v u Q I rx ry h
  obtain ⟨l, k, xs, rfl, rfl, hH, h1, h2, hz, q⟩ := h
  cases rx
  obtain ⟨t, rfl⟩ := ry
  obtain ⟨z, its, n, r, hl, e⟩ := I.lstM hH
  have hlen : its.toArray.size * k.toNat ≤ sizeLine := by rw [List.size_toArray, ← hl]; exact hz
  have hcap : ¬ its.toArray.size * k.toNat > (2 ^ 63 - 1) / 8 := by
    have : (sizeLine : Nat) ≤ (2 ^ 63 - 1) / 8 := by decide
    omega
  have hfit : ¬ (!Builtin.List.listFitsIndex k) = true := by
    rw [fitsIndex_both h1 h2]
    exact Bool.false_ne_true
  have hlong : ¬ Builtin.List.listTooLong (its.toArray.size * k.toNat) = true := by
    rw [notLongL hlen]
    exact Bool.false_ne_true
  have hnew : List.foldl (fun x1 x2 => x1 ++ x2) #[] (List.replicate (if its.toArray.isEmpty = true then 0 else k.toNat) its.toArray) = (List.replicate k.toNat its).flatten.toArray := by
    have f0 : ∀ m : Nat, List.foldl (fun x1 x2 => x1 ++ x2) #[] (List.replicate m its.toArray) = (List.replicate m its).flatten.toArray := fun m => by
      have := foldl_rep its m []
      rw [List.nil_append] at this
      exact this
    rw [f0]
    cases its with
    | nil => simp
    | cons a r' => rw [if_neg (by simp)]
  refine wpAny_binaryOp_repeat_ref (T := "list") (U := "int") (by decide) ⟨_, e, rfl⟩ (fun s' => typeIs_int s' k t) noFill_list_mul F.fills_int_mul F.slot_int_rmul repeat_list F.slot_int_index.lookup
    (call_meets F.slot_int_rmul (typeIs_int s k t) F.entry_int_rmul (F.args_int_rmul_2 _ _) (int___rmul___int_list k t l its.toArray n)
      ⟨e, rfl, ⟨_, e, rfl⟩, call_meets F.slot_list_mul ⟨_, e, rfl⟩ F.entry_list_mul (F.args_list_mul_2 _ _) (AutoListH.list___mul___list_int_3 l its.toArray n k t hfit hcap hlong) ⟨e, ?_⟩⟩)
  rw [hnew]
  exact ⟨.ref _, _, I.lnew (t' := s.toks) (r.rep k.toNat) (by rw [len_rep, Nat.mul_comm]; exact hz), rfl, q _ I.fresh⟩

/-! ### del xs[i] -/
theorem del_list {pins : List (Addr × Obj)} {s : Shared} {σ : St} {H : Hp} {l : Addr} {xs : List V} {i : Int} {t : Tok} {k : Nat} {Q : Unit → Shared → Prop} (I : Inv X pins σ H s) (hH : H l = some (.lst xs))
    (h1 : -(2 ^ 63) ≤ i) (h2 : i < 2 ^ 63) (hk : seqIndex? i xs.length = some k) (h : ∀ s', Inv X pins σ (upd H l (.lst (xs.eraseIdx k))) s' → Q () s') :
    wpAny (model X.prog X.w) X.A (delItem (.ref l) (.int i t)) Q X.xe s := by
  obtain ⟨z, its, n, r, hl, e⟩ := I.lstM hH
  refine PySem.P.delItem_list (k := k) e (fitsIndex_both h1 h2) (by rw [List.size_toArray, ← hl]; exact hk) (h _ ?_) (by rw [List.size_toArray]; omega)
  refine I.lset (its' := its.eraseIdx k) (t' := s.toks) hH e ?_ (r.eraseIdx k) ?_
  · show its.toArray.eraseIdxIfInBounds k = (its.eraseIdx k).toArray
    rw [List.eraseIdxIfInBounds_toArray]
  · have := len_erase xs k
    omega
end

/-! ### xs[a:b] = ys -/
section
variable {prog : Program} {w : World} {A : Around} {E : Value → Shared → Prop} {s : Shared}
theorem splice_eq (its its2 : List Value) (a c : Nat) : its.toArray.extract 0 a ++ its2.toArray ++ its.toArray.extract c its.toArray.size = (its.take a ++ its2 ++ its.drop c).toArray := by
  apply Array.toList_inj.mp
  first
    | (simp
       exact List.take_of_length_le (by simp))
    | simp [List.take_of_length_le]
    | simp
theorem bounds_run {a c n : Nat} (hac : a ≤ c) (hc : c ≤ n) : sliceBounds (some (a : Int)) (some (c : Int)) none n = ((a : Int), (c : Int), 1) := by
  simp only [sliceBounds, Option.getD_none]
  have h1 : ¬ ((a : Int) < 0) := by omega
  have h2 : ¬ ((c : Int) < 0) := by omega
  simp only [h1, h2, if_false, show (1 : Int) > 0 by decide, if_true]
  congr 1
  · omega
  · congr 1; omega
set_option maxRecDepth 100000 in
/-- list.__setitem__ with a slice of step one and another list -/
theorem setItem_slice {l b sl : Addr} {items new : Array Value} {n n2 : Nat} {vl vu : Value} {a c : Nat} {Q : Unit → Shared → Prop}
    (e : s.heap.get? l = some { cls := .type "list", data := .seq items n }) (e2 : s.heap.get? b = some { cls := .type "list", data := .seq new n2 }) (hne : l ≠ b)
    (hs : s.heap.IsSliceOf sl vl vu .none) (pl : IsPart vl (some (a : Int))) (pu : IsPart vu (some (c : Int))) (hac : a ≤ c) (hc : c ≤ items.size)
    (hsz : items.size + new.size ≤ sizeLine) (h : Q () { s with heap := s.heap.update l (Obj.mapSeq fun xs => xs.extract 0 a ++ new ++ xs.extract c xs.size) }) :
    wpAny (model prog w) A (setItem (.ref l) (.ref sl) (.ref b)) Q E s := by
  have hl : s.heap.IsList l items := PySem.IsL.isList e
  have hb : s.heap.IsList b new := PySem.IsL.isList e2
  obtain ⟨os, hos, hcs, hds⟩ := id hs
  have hTs : s.TypeIs (.ref sl) "slice" := ⟨os, hos, hcs⟩
  have hstep : ¬ ((rawPart none == rawInt 0) = true) := Bool.false_ne_true
  have hsame : Builtin.List.listSameRef (.ref l) (.ref b) = false := by
    unfold Builtin.List.listSameRef
    exact beq_eq_false_iff_ne.mpr hne
  have hmax : (max (a : Int) (c : Int)).toNat = c := by omega
  have hz' : ((fun xs : Array Value => xs.extract 0 a ++ new ++ xs.extract c xs.size) items).size ≤ sizeLine + 1 := by
    simp only [Array.size_append, Array.size_extract]
    omega
  unfold setItem
  try with_reducible refine wpAny_holding ?_
  first | refine wpAny_bind (wpAny_pure ?_) | skip
  refine wpAny_bind (wpAny_sequenceKey hl.typeIs (by decide) ?_)
  refine wpAny_bind (wpAny_callSpecial?_slot (name := Str.ofString "__setitem__") hl.typeIs slot_list_setitem
    (wpAny_call_entry slot_list_setitem hl.typeIs entry_list_setitem ?_ (args_list_setitem _ _ _)))
  show wpAny _ _ (Builtin.List.listSubscript? (.ref sl) >>= _) _ _ s
  refine wpAny_bind ?_
  unfold Builtin.List.listSubscript?
  refine wpAny_bind (wpAny_specialOf hTs slice_no_index ?_)
  simp only [Option.isNone_none, if_true]
  refine wpAny_pure ?_
  show wpAny _ _ (typeOf (.ref sl) >>= _) _ _ s
  refine wpAny_bind (wpAny_typeOf hTs ?_)
  first
    | rw [if_neg (by decide)]
    | refine PySem.W.KFB.if_not (by decide) ?_
  rw [listSliceParts_eq]
  refine wpAny_bind (wpAny_bind (wpAny_field hos hds (x := .none) rfl (wpAny_bind (wpAny_listPart .none ?_))))
  rw [if_neg hstep]
  refine wpAny_bind (wpAny_field hos hds (x := vl) rfl (wpAny_bind (wpAny_listPart pl ?_)))
  refine wpAny_bind (wpAny_field hos hds (x := vu) rfl (wpAny_bind (wpAny_listPart pu (wpAny_pure ?_))))
  first
    | simp only [hsame, Bool.false_eq_true, if_false]
    | refine PySem.W.KFB.if_not hsame ?_
    | (dsimp only
       rw [if_neg (by rw [hsame]; exact Bool.false_ne_true)])
  refine wpAny_bind (m := Builtin.List.listAllItems (.ref b) "must assign iterable to extended slice") ?_
  unfold Builtin.List.listAllItems
  refine wpAny_bind (wpAny_typeOf hb.typeIs ?_)
  first
    | refine PySem.W.KFB.if_so (by decide) ?_
    | rw [if_pos (by decide)]
    | simp only [beq_self_eq_true, Bool.true_or, if_true]
  unfold Builtin.List.listItems
  refine wpAny_bind (wpAny_seqItems e2 rfl (wpAny_pure ?_))
  refine wpAny_bind (wpAny_bind (wpAny_seqItems e rfl (wpAny_pure ?_)))
  refine wpAny_bind (wpAny_of_eq ((sliceIndices_raw (some (a : Int)) (some (c : Int)) none items.size (by simp)).trans (congrArg (pure : Int × Int × Int → Sem (Int × Int × Int)) (bounds_run hac hc))) ?_)
  show wpAny _ _ (if ((1 : Int) == 1) = true then _ else _) _ _ s
  rw [if_pos (by decide)]
  refine wpAny_bind (wpAny_rule ?_)
  first
    | simp only [notLongL hsz, Bool.false_eq_true, if_false]
    | refine PySem.W.KFB.if_not (notLongL hsz) ?_
  first | refine wpAny_bind (wpAny_pure ?_) | skip
  show wpAny _ _ (updateSeq l (fun xs => xs.extract 0 ((a : Int)).toNat ++ new ++ xs.extract (max (a : Int) (c : Int)).toNat xs.size) >>= _) _ _ s
  rw [hmax, Int.toNat_natCast]
  refine wpAny_bind (wpAny_updateSeq (hz := Nat.le_trans (Nat.le_add_right _ _) hsz) (_hz' := hz') e rfl ?_)
  refine wpAny_bind (wpAny_letGo ?_)
  first
    | exact wpAny_bind (wpAny_pure (wpAny_pure ⟨.none, rfl, wpAny_pure h⟩))
    | exact wpAny_pure ⟨.none, rfl, wpAny_pure h⟩
end

section
variable {X : Cx}
/-- xs[a:c] = ys of another list, at the value level: sl is the slice object that was just made -/
theorem set_slice {pins : List (Addr × Obj)} {s : Shared} {σ : St} {H : Hp} {l b sl : Addr} {xs ys : List V} {a c : Int} {vl vu : Value} {Q : Unit → Shared → Prop} (I : Inv X pins σ H s)
    (hH : H l = some (.lst xs)) (hB : H b = some (.lst ys)) (hne : l ≠ b) (hs : s.heap.IsSliceOf sl vl vu .none) (ra : RelV (.int a) vl) (rc : RelV (.int c) vu) (h0 : 0 ≤ a) (hac : a ≤ c) (hc : c ≤ xs.length)
    (hz : xs.length + ys.length ≤ sizeLine) (h : ∀ s', Inv X pins σ (upd H l (.lst (xs.take a.toNat ++ ys ++ xs.drop c.toNat))) s' → Q () s') :
    wpAny (model X.prog X.w) X.A (setItem (.ref l) (.ref sl) (.ref b)) Q X.xe s := by
  obtain ⟨ta, rfl⟩ := ra
  obtain ⟨tc, rfl⟩ := rc
  obtain ⟨z, its, n, r, hl, e⟩ := I.lstM hH
  obtain ⟨z2, its2, n2, r2, hl2, e2⟩ := I.lstM hB
  obtain ⟨a', rfl⟩ := Int.eq_ofNat_of_zero_le h0
  obtain ⟨c', rfl⟩ := Int.eq_ofNat_of_zero_le (Int.le_trans h0 hac)
  simp only [Int.toNat_natCast] at h
  refine setItem_slice (a := a') (c := c') e e2 hne hs (.int _ _) (.int _ _) (by omega) (by rw [List.size_toArray]; omega) (by rw [List.size_toArray, List.size_toArray]; omega) (h _ ?_)
  refine I.lset (its' := its.take a' ++ its2 ++ its.drop c') (t' := s.toks) hH e ?_ (Vals.append (Vals.append (r.take _) r2) (r.drop _)) ?_
  · exact splice_eq its its2 a' c'
  · rw [List.length_append, List.length_append, List.length_take, List.length_drop]
    omega
end
end L2

namespace Att
open PySem PySem.W PySem.Calls PyProof.Rows

/-! ### the script -/
theorem ints_of_wellAll {P : Params} {h : Heap} : ∀ (ns : List Int) (vs : List Value), WellAll P h vs (ns.map WData.int) → IntsAre vs ns := by
  intro ns
  induction ns with
  | nil =>
    intro vs w
    rw [List.map_nil] at w
    cases w
    exact .nil
  | cons n ns ih =>
    intro vs w
    rw [List.map_cons] at w
    cases w with
    | cons a b =>
      cases a
      exact .cons _ _ (ih _ b)

theorem script_of {l : OpenLaw} {n : Nat} (hn : l.most = some n) {P : Params} {h : Heap} {args : List WData} {vals : List Value}
    (hpre : l.row.toRowW.claim.pre args = true) (hwl : WellAll P h vals args) :
    ∃ a vs ns, vals = [Value.ref a] ∧ args = [WData.list (ns.map WData.int)] ∧ h.get? a = some { cls := .type "list", data := .seq vs.toArray } ∧ IntsAre vs ns ∧ ns.length ≤ n := by
  have hsh : WShape.hasAll [] args [.list .int] = true := (pre_splitW hpre).1
  have hc : l.pre.holds [] { args := args } = true := (pre_splitW hpre).2
  obtain ⟨d, r, rfl, h1, h2⟩ := hasAllW_cons hsh
  obtain rfl := hasAllW_nil h2
  obtain ⟨xs, rfl, h3⟩ := hasW_list h1
  obtain ⟨ns, rfl⟩ := items_int h3
  have hlen : ns.length ≤ n := by
    unfold OpenLaw.pre at hc
    have h4 : (WTm.not (.lt (.lit (.int (n : Int))) (.len (.arg 0)))).holds [] { args := [.list (ns.map .int)] } = true := by
      have h4 := (holds_andW hc).1
      rw [hn] at h4
      exact h4
    have h5 := condW_of h4 (w_not (w_lt w_lit (w_len_list (w_arg rfl))))
    rw [List.length_map] at h5
    refine Nat.le_of_not_lt fun q => ?_
    have q' : (n : Int) < ((ns.length : Nat) : Int) := by omega
    first
      | (rw [decide_eq_true q'] at h5; exact absurd h5 (by decide))
      | (simp at h5; omega)
  cases hwl with
  | cons w1 w2 =>
    cases w2
    cases w1 with
    | list ho hall => exact ⟨_, _, ns, rfl, rfl, ho, ints_of_wellAll ns _ hall, hlen⟩

theorem post_true (l : OpenLaw) (args : List WData) : l.row.toRowW.claim.post args (.bool true) args = true :=
  postW_of (r := l.row.toRowW) (X := (true == true))
    (show WShape.has [] (.bool true) .bool = true by first | rfl | decide | simp [WShape.has, WShape.arms, WShape.armsAll])
    (show (WTm.eq .res (.lit (.bool true))).value [] { args := args, res := some (.bool true), after := args } = some (.bool (true == true)) from w_eq_bool (w_res rfl) w_lit) rfl

/-! ### the attachment: holds_open's last premise (the goal 'hc' behind k_head) from a wpAny of the law's body -/
theorem attach {l : OpenLaw} {n : Nat} {q : Program} {loose : List Str} {XP : (Str → Option Value) → Heap → Prop} {YP : World → Heap → Prop} {d : DefRec} {x : Str}
    (hn : l.most = some n) (hdf : d.params.defaults = [])
    (hbind : ∀ pm cd doc v : Value, bindArgs (docDef d.name d.params d.body d.scope pm cd doc) ⟨[v], []⟩ = pure [(x, v)])
    (hx : d.scope.names.lookup x = some .local ∨ d.scope.names.lookup x = some .cell)
    (hk : d.scope.kind = .function) (hco : d.scope.isCoroutine = false) (hgen : d.scope.isGenerator = false)
    (body : ∀ (w : World) (s₀ s₁ s : Shared) (mg mb : Str → Option Value) (fa : Addr) (o : Obj) (pm cd doc : Value) (a : Addr) (vs : List Value) (ns : List Int),
      Ground q loose [] XP w s₀ mg mb s₁.heap → YP w s₁.heap →
      s₁.heap.get? fa = some o → o.data = .func (docDef d.name d.params d.body d.scope pm cd doc) → s₁.heap.CodeRec cd d.name → mg d.name = some (.ref fa) →
      s₁.heap.get? a = some { cls := .type "list", data := .seq vs.toArray } → IntsAre vs ns → ns.length ≤ n →
      s.gens = #[] → s.os = s₁.os →
      Fr s₁.heap s₁.heap.objs.size s.heap (bindL (envOfC d.name d.scope s₁.heap.objs.size fa cd).kindOf [(x, .ref a)] fun _ => none) →
      Cl s₁.heap.objs.size (cellsFrom (s₁.heap.objs.size + 1) d.scope.names []) s.heap (bindC (envOfC d.name d.scope s₁.heap.objs.size fa cd).kindOf [(x, .ref a)] fun _ => none) →
      wpAny (model l.prog w) (callerA.deeper (envOfC d.name d.scope s₁.heap.objs.size fa cd)) (execs d.body (envOfC d.name d.scope s₁.heap.objs.size fa cd))
        (fun f s' => f = .ret (.bool true) ∧ OldK s₁.heap s'.heap ∧ s'.os = s₁.os ∧ AllBare s'.gens) (fun _ _ => False) s) :
    WalkO q loose XP YP l.row.toRowW d [] (fun f vs => PySem.call f vs) := by
  intro w s₀ s₁ mg mb G Y fa o pm cd doc dV kV ho hd hcd hD hmg hg args vals as hpre hlay hrd hwl hlo
  obtain rfl : dV = .none := Dflts.none hD hdf
  obtain rfl : kV = .none := Dflts.noKw hD
  obtain ⟨a, vs, ns, rfl, rfl, hobj, hints, hlen⟩ := script_of hn hpre hwl
  refine enter_call ?_
  refine call_cells_ret (o := o) (by rw [depth_caller]; decide) ho (fd_plain hd) G.T.nolimit hcd (hbind pm cd doc (.ref a)) (fun y hy => ?_) (fun h₁ tk F X => ?_) hco hgen hk
  · obtain rfl : y = (x, Value.ref a) := List.mem_singleton.mp hy
    rcases hx with e | e
    · exact .inl e
    · exact .inr ⟨e, cellsFrom_some _ _ _ (.inl e)⟩
  · refine wpAny_mono (body w s₀ s₁ { s₁ with heap := h₁, toks := tk } mg mb fa o pm cd doc a vs ns G Y ho (fd_plain hd) hcd hmg hobj hints hlen hg rfl F X) (fun f s' hq => ?_) (fun _ _ hq => hq)
    obtain ⟨rfl, h2, h3, h4⟩ := hq
    exact ⟨.inl ⟨.bool true, .bool true, [], rfl, fun _ => rfl, .bool true, post_true l _, fun _ => ⟨List.Pairwise.nil, fun _ hm => (nomatch hm)⟩⟩, h2, h3, h4⟩

/-- the same from a codeAny of the CALL (for a layer whose function contracts speak of calls) -/
theorem attach_call {l : OpenLaw} {n : Nat} {q : Program} {loose : List Str} {XP : (Str → Option Value) → Heap → Prop} {YP : World → Heap → Prop} {d : DefRec}
    (hn : l.most = some n) (hdf : d.params.defaults = [])
    (call : ∀ (w : World) (s₀ s₁ : Shared) (mg mb : Str → Option Value) (fa : Addr) (o : Obj) (pm cd doc : Value) (a : Addr) (vs : List Value) (ns : List Int),
      Ground q loose [] XP w s₀ mg mb s₁.heap → YP w s₁.heap →
      s₁.heap.get? fa = some o → o.data = .func (docDef d.name d.params d.body d.scope pm cd doc) → s₁.heap.CodeRec cd d.name → mg d.name = some (.ref fa) →
      s₁.heap.get? a = some { cls := .type "list", data := .seq vs.toArray } → IntsAre vs ns → ns.length ≤ n → s₁.gens = #[] →
      codeAny (model l.prog w) callerA (.call (.ref fa) ⟨[.ref a], []⟩) (fun r s' => r = .ok (.ret (.bool true)) ∧ OldK s₁.heap s'.heap ∧ s'.os = s₁.os ∧ AllBare s'.gens) s₁) :
    WalkO q loose XP YP l.row.toRowW d [] (fun f vs => PySem.call f vs) := by
  intro w s₀ s₁ mg mb G Y fa o pm cd doc dV kV ho hd hcd hD hmg hg args vals as hpre hlay hrd hwl hlo
  obtain rfl : dV = .none := Dflts.none hD hdf
  obtain rfl : kV = .none := Dflts.noKw hD
  obtain ⟨a, vs, ns, rfl, rfl, hobj, hints, hlen⟩ := script_of hn hpre hwl
  refine enter_call (codeAny_mono (call w s₀ s₁ mg mb fa o pm cd doc a vs ns G Y ho (fd_plain hd) hcd hmg hobj hints hlen hg) fun r s' hq => ?_)
  obtain ⟨rfl, h2, h3, h4⟩ := hq
  exact ⟨.inl ⟨.bool true, .bool true, [], rfl, fun _ => rfl, .bool true, post_true l _, fun _ => ⟨List.Pairwise.nil, fun _ hm => (nomatch hm)⟩⟩, h2, h3, h4⟩

/-- the same where the top left finished generators (o_head chose holds_openN): nothing may have changed at all and no generator may be left -/
theorem attachN {l : OpenLaw} {n : Nat} {q : Program} {loose : List Str} {XP : (Str → Option Value) → Heap → Prop} {YP : World → Heap → Prop} {d : DefRec} {x : Str}
    (hn : l.most = some n) (hdf : d.params.defaults = [])
    (hbind : ∀ pm cd doc v : Value, bindArgs (docDef d.name d.params d.body d.scope pm cd doc) ⟨[v], []⟩ = pure [(x, v)])
    (hx : d.scope.names.lookup x = some .local ∨ d.scope.names.lookup x = some .cell)
    (hk : d.scope.kind = .function) (hco : d.scope.isCoroutine = false) (hgen : d.scope.isGenerator = false)
    (body : ∀ (w : World) (s₀ s₁ s : Shared) (mg mb : Str → Option Value) (fa : Addr) (o : Obj) (pm cd doc : Value) (a : Addr) (vs : List Value) (ns : List Int),
      Ground q loose [] XP w s₀ mg mb s₁.heap → YP w s₁.heap →
      s₁.heap.get? fa = some o → o.data = .func (docDef d.name d.params d.body d.scope pm cd doc) → s₁.heap.CodeRec cd d.name → mg d.name = some (.ref fa) →
      s₁.heap.get? a = some { cls := .type "list", data := .seq vs.toArray } → IntsAre vs ns → ns.length ≤ n →
      s.gens = #[] → s.os = s₁.os →
      Fr s₁.heap s₁.heap.objs.size s.heap (bindL (envOfC d.name d.scope s₁.heap.objs.size fa cd).kindOf [(x, .ref a)] fun _ => none) →
      Cl s₁.heap.objs.size (cellsFrom (s₁.heap.objs.size + 1) d.scope.names []) s.heap (bindC (envOfC d.name d.scope s₁.heap.objs.size fa cd).kindOf [(x, .ref a)] fun _ => none) →
      wpAny (model l.prog w) (callerA.deeper (envOfC d.name d.scope s₁.heap.objs.size fa cd)) (execs d.body (envOfC d.name d.scope s₁.heap.objs.size fa cd))
        (fun f s' => f = .ret (.bool true) ∧ (∀ b o, s₁.heap.get? b = some o → s'.heap.get? b = some o) ∧ s'.os = s₁.os ∧ s'.gens = #[]) (fun _ _ => False) s) :
    WalkN q loose XP YP l.row.toRowW d [] (fun f vs => PySem.call f vs) := by
  intro w s₀ s₁ mg mb G Y fa o pm cd doc dV kV ho hd hcd hD hmg hg args vals as hpre hlay hrd hwl hlo
  obtain rfl : dV = .none := Dflts.none hD hdf
  obtain rfl : kV = .none := Dflts.noKw hD
  obtain ⟨a, vs, ns, rfl, rfl, hobj, hints, hlen⟩ := script_of hn hpre hwl
  refine enter_callW ?_
  refine call_cells_ret (o := o) (by rw [depth_caller]; decide) ho (fd_plain hd) G.T.nolimit hcd (hbind pm cd doc (.ref a)) (fun y hy => ?_) (fun h₁ tk F X => ?_) hco hgen hk
  · obtain rfl : y = (x, Value.ref a) := List.mem_singleton.mp hy
    rcases hx with e | e
    · exact .inl e
    · exact .inr ⟨e, cellsFrom_some _ _ _ (.inl e)⟩
  · refine wpAny_mono (body w s₀ s₁ { s₁ with heap := h₁, toks := tk } mg mb fa o pm cd doc a vs ns G Y ho (fd_plain hd) hcd hmg hobj hints hlen hg rfl F X) (fun f s' hq => ?_) (fun _ _ hq => hq)
    obtain ⟨rfl, h2, h3, h4⟩ := hq
    exact ⟨.inl ⟨.bool true, .bool true, [], rfl, fun _ => rfl, .bool true, post_true l _, fun _ => ⟨List.Pairwise.nil, fun _ hm => (nomatch hm)⟩⟩, h2, h3, h4⟩

/-! ### rules over ANY heap (no ledger) from facts about the written part K: the library's own take a ledger (News) for what they write -/
section
variable {prog : Program} {w : World} {A : Around} {E : Value → Shared → Prop} {s : Shared} {K : Frag}

/-- a def of the module, or a method (qual 'C.m'), entered: the frame is the next address; cells behind it -/
theorem call_fn {R : Result → Shared → Prop} {name qual : Str} {params : Arguments} {body : List Stmt} {scope : Scope} {dV kV doc pm cdv ct oc : Value} {an od : Option Addr} {osl : Array (Option Value)} {f : Addr} {args : Args} {binds : List (Str × Value)}
    (X : K.In s.heap) (hlim : s.heap.NoLimit) (ho : K.lookup f = some ⟨oc, od, .func (fnOf name qual params body scope dV kV doc pm an cdv ct), osl⟩) (hcd : codeIn K cdv qual = true) (hroom : A.depth < recursionLimit)
    (hbind : BindsTo s (fnOf name qual params body scope dV kV doc pm an cdv ct) args binds)
    (hkind : (binds.all fun y => scope.names.lookup y.1 == some .local || scope.names.lookup y.1 == some .cell) = true)
    (h : ∀ s₁, InCallC s s.heap.objs.size (bindL (envOfC qual scope s.heap.objs.size f cdv).kindOf binds fun _ => none) (cellsFrom (s.heap.objs.size + 1) scope.names [])
        (bindC (envOfC qual scope s.heap.objs.size f cdv).kindOf binds fun _ => none) s₁ →
      wpAny (model prog w) (A.deeper (envOfC qual scope s.heap.objs.size f cdv)) (execs body (envOfC qual scope s.heap.objs.size f cdv))
        (fun fl s' => R (.ok (.ret (match fl with | .ret v => v | _ => .none))) s')
        (fun e s' => wpAny (model prog w) (A.deeper (envOfC qual scope s.heap.objs.size f cdv)) (leaving (envOfC qual scope s.heap.objs.size f cdv) e) (fun _ s'' => R (.error e) s'') (fun e' s'' => R (.error e') s'') s') s₁)
    (hco : scope.isCoroutine = false) (hgen : scope.isGenerator = false) (hk : scope.kind = .function) : codeAny (model prog w) A (.call (.ref f) args) R s := by
  refine codeAny_call_function hroom (X _ _ ho) rfl hco hgen rfl (codeRec_of X hcd) (hbind _ _ _ _ ?_)
  refine wpAny_newFunctionEnv_cells hk (kindsX hkind _) fun env he s₁ x => ?_
  subst he
  exact ⟨hlim.keeps x.toInCall.keep, codeAny_func (h s₁ x)⟩

/-- C(..): dict at size, instance at size + 1, then __init__ -/
theorem make_obj {R : Result → Shared → Prop} {C fI : Addr} {rest : List Value} {kw : List (Str × Value)}
    (X : K.In s.heap) (hm : makesIn K C = true) (hi : findIn K (.ref C) "__init__" = some (some (.ref fI))) (hf : isFn K (.ref fI) = true)
    (h : codeAny (model prog w) (A.under (.builtin "type.__call__" ⟨.ref C :: rest, kw⟩)) (.call (.ref fI) ⟨.ref (s.heap.objs.size + 1) :: rest, kw⟩) (InitBack (s.heap.objs.size + 1) R)
      { s with heap := (s.heap.push emptyDict).push (instObj C s.heap.objs.size) }) : codeAny (model prog w) A (.call (.ref C) ⟨rest, kw⟩) R s := by
  obtain ⟨hh, g, d, t, os⟩ := s
  exact make_core (makes_of X hm) (looks_findIn X hi) (fun self => bind_fn X self (beq_iff_eq.mp hf)) (.inl rfl) h

/-- x.name where the instance's dict holds the name and the class does not -/
theorem get_field {x C : Addr} {ox : Obj} {es : List DictEntry} {n : Nat} {name : Str} {expr : Bool} {v : Value} {Q : Value → Shared → Prop}
    (X : K.In s.heap) (I : PySem.W.InstAt s.heap x ox C (some (dictOf es n))) (hg : plainGet K C name = true) (hh : hasDictIn K C = true) (ha : findIn K (.ref C) name = some none)
    (hl : getL name es = some (some v)) (hv : handedIn v = true) (h : Q v { s with toks := s.toks + 1 }) : wpAny (model prog w) A (getAttr (.ref x) name expr) Q E s :=
  get_value X I (plainGet_of hg).1 (findObj_own hh ha rfl hl) hv h

/-- x.m(..): the method found in the class -/
theorem get_method {x C f : Addr} {ox : Obj} {es : List DictEntry} {n : Nat} {name : Str} {pl : Sem Bool} {Q : Value × List Value → Shared → Prop}
    (X : K.In s.heap) (I : PySem.W.InstAt s.heap x ox C (some (dictOf es n))) (hg : plainGet K C name = true) (hf : findIn K (.ref C) name = some (some (.ref f))) (ht : isFn K (.ref f) = true)
    (hl : getL name es = some none) (h : Q (.ref f, [.ref x]) s) : wpAny (model prog w) A (getMethod (.ref x) name pl) Q E s :=
  method_fn X I (plainGet_of hg).1 (plainGet_of hg).2 hf (beq_iff_eq.mp ht) (by show (lookIn name (dictOf es n)).map _ = _; rw [lookIn_dict, hl]; rfl) h

/-! the whole heap as the ledger: makes every rule that writes through a ledger a rule over any heap -/
def noObjs (h : Heap) : Heap := { h with objs := #[] }
theorem noObjs_get (h : Heap) (b : Addr) : (noObjs h).get? b = none := by
  cases e : (noObjs h).get? b with
  | none => rfl
  | some o => exact absurd (Heap.lt_size e) (Nat.not_lt_zero _)
def ledger (h : Heap) (L d : Addr) : List (Addr × Obj) := (List.range h.objs.size).filterMap fun a => if a = L ∨ a = d then none else (h.get? a).map fun o => (a, o)
theorem mem_ledger {h : Heap} {L d a : Addr} {o : Obj} : (a, o) ∈ ledger h L d ↔ a ≠ L ∧ a ≠ d ∧ h.get? a = some o := by
  unfold ledger
  rw [List.mem_filterMap]
  constructor
  · rintro ⟨b, _, e⟩
    split at e
    · cases e
    · rename_i hb
      obtain ⟨o', ho, e'⟩ := Option.map_eq_some_iff.mp e
      cases e'
      exact ⟨fun q => hb (.inl q), fun q => hb (.inr q), ho⟩
  · rintro ⟨n1, n2, ho⟩
    refine ⟨a, List.mem_range.mpr (Heap.lt_size ho), ?_⟩
    rw [if_neg (show ¬ (a = L ∨ a = d) from fun q => q.elim n1 n2), ho] <;> rfl
theorem news_ledger {h : Heap} {L d : Addr} {od : Obj} (hne : d ≠ L) (ho : h.get? d = some od) : News (noObjs h) L h ([] ++ (d, od) :: ledger h L d) := by
  rintro ⟨a, o⟩ hp
  rcases List.mem_cons.mp hp with e | hp
  · cases e
    exact ⟨ho, hne, noObjs_get _ _⟩
  · obtain ⟨n1, n2, e⟩ := mem_ledger.mp hp
    exact ⟨e, n1, noObjs_get _ _⟩
theorem fr_all {h : Heap} {L : Addr} {m : Str → Option Value} (n : h.Ns L m) : Fr (noObjs h) L h m :=
  ⟨n, fun b o e => (by rw [noObjs_get] at e; cases e), Nat.zero_le _⟩
/-- Upd of the head entry (for append_K, setItem_K ..) -/
theorem upd_ledger {h : Heap} {L d : Addr} {o o' : Obj} : Upd d o o' ((d, o) :: ledger h L d) ((d, o') :: ledger h L d) :=
  .head fun ⟨_, _⟩ hp => (mem_ledger.mp hp).2.1

/-- x.name = v over any heap: L is any namespace of the heap (the frame's, say): its map stays, its object is not told; all else but the dict stays -/
theorem set_field {x C dx L : Addr} {ox : Obj} {m : Str → Option Value} {es es' : List DictEntry} {n n' : Nat} {name : Str} {v : Value} {Q : Unit → Shared → Prop}
    (X : K.In s.heap) (I : PySem.W.InstAt s.heap x ox C (some (dictOf es n))) (hd : ox.dict = some dx) (hL : s.heap.Ns L m) (hne : dx ≠ L)
    (hs : findIn K (.ref C) "__setattr__" = some (some (.builtin "object.__setattr__"))) (hp : plainOver K C = true) (ht : takerIn K C name = some none) (hh : hasDictIn K C = true) (hl : (getL name es).isSome = true)
    (e : (putL name (PyData.keyHash w.params name) (.str name (s.toks + 1)) v es, putN name es n) = (es', n')) (hz : es'.length ≤ 1000)
    (h : ∀ h' : Heap, h'.Ns L m → h'.get? dx = some (dictOf es' n') → (∀ b o, b ≠ dx → b ≠ L → s.heap.get? b = some o → h'.get? b = some o) → Q () { s with heap := h', toks := s.toks + 2 }) :
    wpAny (model prog w) A (setAttr (.ref x) name v) Q E s := by
  obtain ⟨e1, e2⟩ := Prod.mk.inj e
  have hdx : s.heap.get? dx = some (dictOf es n) := by
    have := I.dict
    rw [hd] at this
    exact this
  refine set_plain X I hs (osa_dict (s := { s with toks := s.toks + 1 }) (h₀ := noObjs s.heap) (L := L) (m := m) (od := dictOf es n) (od' := dictOf es' n') (es := es') (n := n') (pre := []) (post := ledger s.heap L dx)
    (fr_all hL) (news_ledger hne hdx) X I hd hp ht hh hl (fun _ q => nomatch q) (fun ⟨_, _⟩ q => (mem_ledger.mp q).2.1) (by rw [putName_dict, e1, e2]) rfl hz fun h' F' N' => ?_)
  exact h h' F'.ns (N'.get (List.Mem.head _)) fun b o n1 n2 ho => N'.get (List.Mem.tail _ (mem_ledger.mpr ⟨n2, n1, ho⟩))
end
end Att

namespace L2
open PySem PySem.Spec PyProof.Rows

theorem vals_ints : ∀ {vs : List Value} {ns : List Int}, IntsAre vs ns → Vals (ns.map V.int) vs
  | _, _, .nil => .nil
  | _, _, .cons n t h => .cons ⟨t, rfl⟩ (vals_ints h)

/-- nothing is tracked but the script, known to the object (or it is an object of the module) -/
def Only (H : Hp) : Prop := ∀ b, H b = none ∨ ∃ o xs, H b = some (.frz o (.lst xs))

/-- THE HEAD: the law's promise, at the heap behind the top. F, the promise of the law's def, may use that base is part of the heap (so K.In base, base.Ns mainGlobals mg stand in Mod) -/
theorem law_call {P : Program} {w : World} {K : PySem.W.Frag} {mg mb : Str → Option Value} {CX : CXT} {k : Nat} {fa a : Addr} {fd : FuncData} {x : Str} {sp : Sp} {s₁ : Shared} {vs : List Value} {ns : List Int}
    (KX : K.In s₁.heap) (hns : s₁.heap.Ns mainGlobals mg) (hb : s₁.heap.Ns builtinsNs mb) (hbb : ∀ x : Str, x ≠ "__name__" → mb x = bootBuiltins x) (hlim : s₁.heap.NoLimit) (hg : s₁.gens = #[])
    (ha : s₁.heap.get? a = some { cls := .type "list", data := .seq vs.toArray }) (hi : IntsAre vs ns) (hl : ns.length ≤ sizeLine) (hr : Room k callerA)
    (F : ∀ base : Heap, K.In base → base.Ns mainGlobals mg → FnOk P w K mg base CX k fa fd [x] sp) (hbind : ∀ (s : Shared) (u : Value), BindsTo s fd ⟨[u], []⟩ [(x, u)])
    (hsp : ∀ H : Hp, Only H → SqL K H a (ns.map V.int) → sp [.ref a] H (fun v _ => v = .bl true) fun _ _ _ => False)
    (hCX : ∀ H e s', CX [] H s₁ (fun _ _ _ => False) e s' → False) :
    codeAny (model P w) callerA (.call (.ref fa) ⟨[.ref a], []⟩) (fun r s' => r = .ok (.ret (.bool true)) ∧ OldK s₁.heap s'.heap ∧ s'.os = s₁.os ∧ AllBare s'.gens) s₁ := by
  have rv := vals_ints hi
  have lenV := hi.length
  -- from an abstract heap in which nothing but the script may be tracked
  have core : ∀ H : Hp, Only H → SqL K H a (ns.map V.int) → HOk P w H s₁.heap → (∀ b, H b ≠ none → b = a) → (H a ≠ none → K.lookup a = none) →
      codeAny (model P w) callerA (.call (.ref fa) ⟨[.ref a], []⟩) (fun r s' => r = .ok (.ret (.bool true)) ∧ OldK s₁.heap s'.heap ∧ s'.os = s₁.os ∧ AllBare s'.gens) s₁ := by
    intro H hO hS hok hA hK
    have base_of : ∀ {b : Addr} {o : Obj}, s₁.heap.get? b = some o → H b = none → (hidT s₁.heap H).get? b = some o := fun e n => hidT_get e n
    have noA : ∀ {b : Addr} {o : Obj} {es : Array DictEntry} {ep : Nat}, s₁.heap.get? b = some o → o.data = .dict es ep → H b = none := fun {b o es ep} e d => by
      cases q : H b with
      | none => rfl
      | some u =>
        have e' : b = a := hA b (by rw [q]; simp)
        subst e'
        rw [ha] at e; cases e
        have d' : Data.seq vs.toArray _ = Data.dict es ep := d
        cases d'
    have nsK : ∀ {b : Addr} {m : Str → Option Value}, s₁.heap.Ns b m → (hidT s₁.heap H).Ns b m := fun {b m} ⟨o, es, ep, e, d, r⟩ => ⟨o, es, ep, base_of e (noA e d), d, r⟩
    have hKb : K.In (hidT s₁.heap H) := fun b o e => base_of (KX b o e) (by
      cases q : H b with
      | none => rfl
      | some u =>
        have e' : b = a := hA b (by rw [q]; simp)
        subst e'
        rw [hK (by rw [q]; simp)] at e; cases e)
    have hM : Mod K mg (hidT s₁.heap H) := ⟨hKb, nsK hns, ⟨mb, nsK hb, hbb⟩, let ⟨mc, h1, h2⟩ := hlim; ⟨mc, nsK h1, h2⟩⟩
    have e0 : Env0 P w K mg (hidT s₁.heap H) callerA [] s₁ H := ⟨rfl, hM, fun b o e => of_hidT e, Nat.le_of_eq (hidT_size _ _), trivial, fun b hb => absurd (show b ∈ ([] : List Addr) from hb) (by simp), hok, .of_eq hg⟩
    refine codeAny_mono ((F _ hKb (nsK hns)).run callerA [] s₁ H ⟨[.ref a], []⟩ [.ref a] [.ref a] _ _ hr e0 (hbind s₁ (.ref a)) (.cons rfl .nil) (hsp H hO hS)) fun r s' h => ?_
    cases r with
    | error e => exact (hCX H e s' h).elim
    | ok fl =>
      cases fl with
      | next => exact False.elim h
      | brk => exact False.elim h
      | cont => exact False.elim h
      | ret u =>
        obtain ⟨v, H', os, bare, un, hok', r', q⟩ := h
        have q' : v = .bl true := q
        subst q'
        obtain rfl : u = Value.bool true := r'
        refine ⟨rfl, OldK.of_keep fun b o e => ?_, os, bare⟩
        cases q : H b with
        | none => exact un.keep b o e q (by intro z; exact absurd (show b ∈ ([] : List Addr) from z) (by simp)) (by simp)
        | some u =>
          rcases hO b with z | ⟨ob, xs, z⟩
          · rw [q] at z; cases z
          · have z2 := un.frzs b ob _ z
            obtain ⟨e1, _⟩ := hok b _ z
            obtain ⟨e2, _⟩ := hok' b _ z2
            rw [e] at e1; cases e1
            exact e2
  cases hk : K.lookup a with
  | some o =>
    -- the script is one of the module's own objects
    have e := KX a o hk
    rw [ha] at e
    cases e
    refine core (fun _ => none) (fun _ => .inl rfl) (.inr ⟨_, vs.toArray, _, hk, rfl, rfl, rfl, by rw [List.size_toArray, lenV]; exact hl, by simpa using rv⟩) (fun b u z => by have z' : (none : Option HO) = some u := z; cases z') (fun b z => absurd rfl z) fun z => absurd rfl z
  | none =>
    refine core (fun b => if b = a then some (.frz { cls := .type "list", data := .seq vs.toArray } (.lst (ns.map V.int))) else none) (fun b => ?_) (.inl (.inr ⟨{ cls := .type "list", data := .seq vs.toArray }, if_pos rfl⟩)) (fun b u z => ?_) (fun b z => ?_) fun _ => hk
    · by_cases hb : b = a
      · exact .inr ⟨_, _, if_pos hb⟩
      · exact .inl (if_neg hb)
    · by_cases hb : b = a
      · have z' := (if_pos hb).symm.trans z
        cases z'
        subst hb
        exact ⟨ha, by rw [List.length_map]; exact hl, vs, _, rv, ha⟩
      · have z' := (if_neg hb).symm.trans z
        cases z'
    · by_cases hb : b = a
      · exact hb
      · exact absurd (if_neg hb) z
end L2

namespace L2
open PySem PySem.Spec PyProof.Rows

abbrev KOf {K : PySem.W.Frag} {h : Heap} (_ : K.In h) : PySem.W.Frag := K

/-- the goal that k_head leaves (case hc), from the law's promise. F gives the function object fd (K's own) once, then the promise over every base -/
theorem walk_of {l : PySem.W.OpenLaw} {n k : Nat} {q : Program} {loose : List Str} {XP : (Str → Option Value) → Heap → Prop} {YP : World → Heap → Prop} {d : DefRec} {K : Params → PySem.W.Frag} {CX : World → CXT} {sp : World → Sp} {x : Str}
    (hn : l.most = some n) (hn2 : n ≤ sizeLine) (hdf : d.params.defaults = []) (hr : Room k callerA)
    (hY : ∀ (w : World) (h : Heap), YP w h → (K w.params).In h)
    (F : ∀ (w : World) (mg : Str → Option Value) (fa : Addr) (h : Heap), (K w.params).In h → h.Ns mainGlobals mg → mg d.name = some (.ref fa) →
      ∃ fd : FuncData, (∀ (s : Shared) (u : Value), BindsTo s fd ⟨[u], []⟩ [(x, u)]) ∧
        ∀ base : Heap, (K w.params).In base → base.Ns mainGlobals mg → FnOk l.prog w (K w.params) mg base (CX w) k fa fd [x] (sp w))
    (hsp : ∀ (w : World) (H : Hp) (a : Addr) (ns : List Int), ns.length ≤ n → Only H → SqL (K w.params) H a (ns.map V.int) → sp w [.ref a] H (fun v _ => v = .bl true) fun _ _ _ => False)
    (hCX : ∀ (w : World) (H : Hp) (s : Shared) (e : Value) (s' : Shared), CX w [] H s (fun _ _ _ => False) e s' → False) :
    PySem.W.WalkO q loose XP YP l.row.toRowW d [] (fun f vs => PySem.call f vs) := by
  refine Att.attach_call hn hdf fun w s₀ s₁ mg mb fa o pm cd doc a vs ns G Y ho hd hcd hmg hobj hints hlen hg => ?_
  have KX := hY w _ Y
  obtain ⟨fd, hb, hF⟩ := F w mg fa _ KX G.T.g hmg
  exact law_call KX G.T.g G.T.b G.T.builtins G.T.nolimit hg hobj hints (Nat.le_trans hlen hn2) hr hF hb (fun H hO hS => hsp w H a ns hlen hO hS) fun H e s' => hCX w H s₁ e s'
/-- the same where the promise hangs on the written part alone: (sp := My.sp_law), no hole under a binder -/
theorem walk_ofK {l : PySem.W.OpenLaw} {n k : Nat} {q : Program} {loose : List Str} {XP : (Str → Option Value) → Heap → Prop} {YP : World → Heap → Prop} {d : DefRec} {K : Params → PySem.W.Frag} {CX : CXT} {sp : PySem.W.Frag → Sp} {x : Str}
    (hn : l.most = some n) (hn2 : n ≤ sizeLine) (hdf : d.params.defaults = []) (hr : Room k callerA)
    (hY : ∀ (w : World) (h : Heap), YP w h → (K w.params).In h)
    (F : ∀ (w : World) (mg : Str → Option Value) (fa : Addr) (h : Heap), (K w.params).In h → h.Ns mainGlobals mg → mg d.name = some (.ref fa) →
      ∃ fd : FuncData, (∀ (s : Shared) (u : Value), BindsTo s fd ⟨[u], []⟩ [(x, u)]) ∧
        ∀ base : Heap, (K w.params).In base → base.Ns mainGlobals mg → FnOk l.prog w (K w.params) mg base CX k fa fd [x] (sp (K w.params)))
    (hsp : ∀ (K : PySem.W.Frag) (H : Hp) (a : Addr) (ns : List Int), ns.length ≤ n → Only H → SqL K H a (ns.map V.int) → sp K [.ref a] H (fun v _ => v = .bl true) fun _ _ _ => False)
    (hCX : ∀ (H : Hp) (s : Shared) (e : Value) (s' : Shared), CX [] H s (fun _ _ _ => False) e s' → False) :
    PySem.W.WalkO q loose XP YP l.row.toRowW d [] (fun f vs => PySem.call f vs) :=
  walk_of (K := K) (CX := fun _ => CX) (sp := fun w => sp (K w.params)) hn hn2 hdf hr hY F (fun w H a ns h1 h2 h3 => hsp (K w.params) H a ns h1 h2 h3) fun _ H s e s' => hCX H s e s'
end L2

/- THE LAST THEOREM (shape; LID, My.* are yours):
   My.Adr: a structure of the addresses that your layer names (classes, functions); My.Txt K t: a structure (Prop) of the equations over K;
   My.txt_mk : {K} {implicit addresses ..} (e1 : nsIn K mainGlobals "law" = some (some (.ref f))) (e2 : K.lookup f = some ⟨oc, od, .func (fnOf "law" "law" params body scope dV kV doc pm an cdv ct), sl⟩) (e3 : codeIn K cdv "law" = true) .. : ∃ t, My.Txt K t

set_option maxRecDepth 100000 in
set_option maxHeartbeats 0 in
theorem PySem.Challenge.cw_LID_holds : PySem.Challenge.rw_LID.Holds := by
  w_on; o_law; k_head; (case hw => w_witness2)
  k_fill
  refine L2.walk_of (l := PySem.Challenge.rw_LID) (n := 63) (k := 40) (x := "script") (CX := fun w => ..) (sp := fun _ => My.sp_law) rfl (by decide) rfl ⟨rfl, by decide, by decide⟩ (fun w h Y => PySem.W.kIn_of Y) ?F ?S ?C
  case F =>
    intro w mg fa h KX G hmg
    have T : ∃ t, My.Txt (L2.KOf KX) t := by
      dsimp only [L2.KOf]                          -- K must stand as «<heap const> w.params» for k_is
      refine' My.txt_mk ?e1 ?e2 ?e3 ..
      (case e1 => PySem.W.k_is)                    -- in the order: a name -> its address -> its object -> its parts
      (case e2 => PySem.W.k_is)
      ..
    obtain ⟨t, T⟩ := T
    have e0 := hmg.symm.trans (PySem.W.mg_of KX G T.law)
    cases e0                                       -- fa is the law's own address
    exact ⟨_, fun s u => .of_eq rfl, fun base kb nb => My.law_fn T kb nb⟩     -- if «.of_eq rfl» comes too early: refine' ⟨_, ?b, fun base kb nb => My.law_fn T kb nb⟩; exact fun s u => .of_eq rfl
  case S => exact fun w H a ns hl hO hS => ..
  case C => exact ..
(the tactic k_is has no namespace: write k_is) -/

/-! SHORT WORDS over the layer: a def of the text, its body, what a loop and a test want. -/
namespace L2
open PySem PySem.Spec PyProof.Rows

/-! ### the text by places -/
/-- the j-th statement of a class's body -/
def inClass (s : Stmt) (j : Nat) : Stmt := match s with
  | .ClassDef _ _ _ body _ _ _ _ _ _ _ => body.getD j (.Pass ⟨0, 0, 0, 0⟩)
  | _ => .Pass ⟨0, 0, 0, 0⟩
def defArgs (s : Stmt) : Arguments := match s with
  | .FunctionDef _ a _ _ _ _ _ _ _ _ => a
  | _ => { posonlyargs := [], args := [], vararg := none, kwonlyargs := [], kw_defaults := [], kwarg := none, defaults := [] }
def defBody (s : Stmt) : List Stmt := match s with
  | .FunctionDef _ _ b _ _ _ _ _ _ _ => b
  | _ => []
def defScope (s : Stmt) : Scope := match s with
  | .FunctionDef _ _ _ _ _ _ sc _ _ _ => sc
  | _ => { kind := .function, names := [], isGenerator := false, isCoroutine := false }

/-! ### no exception leaves a def -/
abbrev CX0 : CXT := fun _ _ _ _ _ _ => False
abbrev E0 : XK := fun _ _ _ => False
theorem pass0 {X : Cx} : Passes CX0 X E0 := fun _ _ _ _ _ _ _ h => h.elim

/-! ### a def (or method) of the text as it stands behind the top -/
structure Fun (K : PySem.W.Frag) (x qual : Str) (st : Stmt) (f : Addr) (fd : FuncData) : Prop where
  ex : ∃ (oc : Value) (od : Option Addr) (kV doc pm : Value) (an : Option Addr) (cdv ct : Value) (osl : Array (Option Value)),
    fd = PySem.W.fnOf x qual (defArgs st) (defBody st) (defScope st) .none kV doc pm an cdv ct ∧ K.lookup f = some ⟨oc, od, .func fd, osl⟩ ∧ PySem.W.codeIn K cdv qual = true
  kp : PySem.W.keepIn K (.ref f) = true
section
variable {P : Program} {w : World} {K : PySem.W.Frag} {mg : Str → Option Value} {base : Heap}
/-- THE RULE for a def: its body as a term of rules, and the reading of that term -/
theorem Fun.ok {x qual : Str} {st : Stmt} {f : Addr} {fd : FuncData} {N ps : List Str} {k : Nat} {sp : Sp} (F : Fun K x qual st f fd) (S : FnScope N ps (defScope st)) (len : ∀ vs H Q E, sp vs H Q E → vs.length = ps.length)
    (hbody : ∀ (cdv : Value) (A : Around) (outer : List Env) (s : Shared) (H : Hp) (vs : List V) (Q : VK) (E : XK), Room k (A.deeper (envOfC qual (defScope st) s.heap.objs.size f cdv)) → sp vs H Q E →
      ∃ t, PSs (cxOf CX0 P w K mg base N qual (defScope st) f cdv A outer s H E).nox (defBody st) t ∧ t { nx := fun _ H' => Q .non H', rt := Q } (start N vs) H) : FnOk P w K mg base CX0 (k + 1) f fd ps sp := by
  obtain ⟨oc, od, kV, doc, pm, an, cdv, ct, osl, rfl, lk, hcd⟩ := F.ex
  refine fn_of lk hcd S len fun A outer s H vs Q E hr hsp => ?_
  obtain ⟨t, h, q⟩ := hbody cdv A outer s H vs Q E hr hsp
  exact ⟨t, h.nox, q⟩
/-- how its arguments bind (no defaults): h is «fun _ _ _ _ _ _ us hl => match us, hl with | [_, _], _ => rfl», one _ a parameter -/
theorem Fun.binds {x qual : Str} {st : Stmt} {f : Addr} {fd : FuncData} {ps : List Str} (F : Fun K x qual st f fd)
    (h : ∀ (kV doc pm : Value) (an : Option Addr) (cdv ct : Value) (us : List Value), us.length = ps.length → bindArgs (PySem.W.fnOf x qual (defArgs st) (defBody st) (defScope st) .none kV doc pm an cdv ct) ⟨us, []⟩ = pure (ps.zip us)) : Binds K fd ps [] := by
  obtain ⟨oc, od, kV, doc, pm, an, cdv, ct, osl, rfl, lk, hcd⟩ := F.ex
  exact .all (h kV doc pm an cdv ct)
theorem fun_mk {x qual : Str} {st : Stmt} {f : Addr} {oc : Value} {od an : Option Addr} {osl : Array (Option Value)} {kV doc pm cdv ct : Value} (l : K.lookup f = some ⟨oc, od, .func (PySem.W.fnOf x qual (defArgs st) (defBody st) (defScope st) .none kV doc pm an cdv ct), osl⟩)
    (c : PySem.W.codeIn K cdv qual = true) (k : PySem.W.keepIn K (.ref f) = true) : Fun K x qual st f (PySem.W.fnOf x qual (defArgs st) (defBody st) (defScope st) .none kV doc pm an cdv ct) := ⟨⟨oc, od, kV, doc, pm, an, cdv, ct, osl, rfl, l, c⟩, k⟩
end
theorem hu_of {A : Around} {k : Nat} (hr : Room k A) : A.units + 1 < cLine := Nat.lt_of_le_of_lt (Nat.add_le_add_left (by decide : 1 ≤ 64) _) hr.units
theorem small1000 {n : Nat} (h : n ≤ 1000) : n < sizeLine := Nat.lt_of_le_of_lt h (by decide)

/-! ### expressions in short: the name that stands in the i-th slot -/
section
variable {X : Cx}
theorem pv (i : Nat) {x : Str} {pos : Pos} (hN : X.N[i]? = some x := by rfl) (hv : Vis X.env.scope x := by first | exact Or.inl rfl | exact Or.inr (Or.inl rfl) | exact Or.inr (Or.inr rfl)) (hd : (x == ("__debug__" : Str)) = false := by decide)
    (hcd : (x == ("__classdict__" : Str)) = false := by decide) : PE X (.Name x pos) (tVar i) := pe_var hN hv hd hcd
end

/-! ### tests -/
theorem iteF {A B : Prop} (h : B) : if false = true then A else B := by
  rw [if_neg Bool.false_ne_true]
  exact h
theorem iteT {A B : Prop} (h : A) : if true = true then A else B := by
  rw [if_pos rfl]
  exact h
theorem ite2 {c A B : Prop} [Decidable c] (h1 : c → A) (h2 : ¬ c → B) : if c then A else B := by
  by_cases h : c
  · rw [if_pos h]
    exact h1 h
  · rw [if_neg h]
    exact h2 h
theorem iteNS {c A B : Prop} [Decidable c] (hc : c) (h : B) : if (!decide c) = true then A else B := by
  rw [decide_eq_true hc]
  exact iteF h

/-! ### heaps -/
/-- all that was tracked is as it was -/
def Same (H H' : Hp) : Prop := ∀ b o, H b = some o → H' b = some o
theorem Same.refl (H : Hp) : Same H H := fun _ _ h => h
theorem Same.trans {H H1 H2 : Hp} (a : Same H H1) (b : Same H1 H2) : Same H H2 := fun c o h => b c o (a c o h)
theorem Same.free {H H' : Hp} (e : Same H H') {l : Addr} (h : H' l = Option.none) : H l = Option.none := by
  cases q : H l with
  | none => rfl
  | some o =>
    rw [e l o q] at h
    cases h
theorem Same.seq {K : PySem.W.Frag} {H H' : Hp} {a : Addr} {xs : List V} (e : Same H H') (h : SqL K H a xs) : SqL K H' a xs := by
  rcases h with (h | ⟨o, h⟩) | h
  · exact .inl (.inl (e _ _ h))
  · exact .inl (.inr ⟨o, e _ _ h⟩)
  · exact .inr h

end L2

namespace L2
open PySem PySem.Spec PyProof.Rows

/-! ### lists of pairs as tables -/
section
variable {κ : Type} [DecidableEq κ]
def valV (kvs : List (κ × V)) (k : κ) : Option V := (kvs.find? fun kv => decide (kv.1 = k)).map (·.2)
/-- in its place, or at the end -/
def putK (kvs : List (κ × V)) (k : κ) (v : V) : List (κ × V) :=
  if (kvs.any fun kv => decide (kv.1 = k)) = true then kvs.map (fun kv => if kv.1 = k then (kv.1, v) else kv) else kvs ++ [(k, v)]
def dropK (kvs : List (κ × V)) (k : κ) : List (κ × V) := kvs.filter fun kv => decide (kv.1 ≠ k)

theorem valV_nil {k : κ} : valV ([] : List (κ × V)) k = none := rfl
theorem valV_pos {p : κ × V} {r : List (κ × V)} {k : κ} (e : p.1 = k) : valV (p :: r) k = some p.2 := by simp [valV, List.find?_cons, e]
theorem valV_neg {p : κ × V} {r : List (κ × V)} {k : κ} (e : ¬ p.1 = k) : valV (p :: r) k = valV r k := by simp [valV, List.find?_cons, e]
theorem valV_any (k : κ) : ∀ kvs : List (κ × V), (kvs.any fun kv => decide (kv.1 = k)) = (valV kvs k).isSome
  | [] => rfl
  | p :: r => by
    rw [List.any_cons]
    by_cases e : p.1 = k
    · simp only [valV_pos e, decide_eq_true e, Bool.true_or, Option.isSome_some]
    · rw [valV_neg e, decide_eq_false e, Bool.false_or]; exact valV_any k r
theorem valV_map (k j : κ) (y : V) : ∀ kvs : List (κ × V), valV (kvs.map fun kv => if kv.1 = k then (kv.1, y) else kv) j = (valV kvs j).map fun x => if j = k then y else x
  | [] => rfl
  | p :: r => by
    have ih := valV_map k j y r
    rw [List.map_cons]
    by_cases h : p.1 = k
    · rw [if_pos h]
      by_cases e : p.1 = j
      · rw [valV_pos (p := (p.1, y)) e, valV_pos e, Option.map_some, if_pos (e.symm.trans h)]
      · rw [valV_neg (p := (p.1, y)) e, valV_neg e, ih]
    · rw [if_neg h]
      by_cases e : p.1 = j
      · rw [valV_pos (p := p) e, valV_pos e, Option.map_some, if_neg (fun z => h (e.trans z))]
      · rw [valV_neg (p := p) e, valV_neg e, ih]
theorem valV_snoc (k j : κ) (y : V) : ∀ kvs : List (κ × V), valV kvs k = none → valV (kvs ++ [(k, y)]) j = if j = k then some y else valV kvs j
  | [], _ => by
    by_cases e : k = j
    · rw [if_pos e.symm]; exact valV_pos (p := (k, y)) e
    · rw [if_neg (fun z => e z.symm)]; exact valV_neg (p := (k, y)) e
  | p :: r, hn => by
    rw [List.cons_append]
    have hk : ¬ p.1 = k := fun z => by rw [valV_pos z] at hn; cases hn
    rw [valV_neg hk] at hn
    have ih := valV_snoc k j y r hn
    by_cases e : p.1 = j
    · rw [valV_pos e, valV_pos e, if_neg (fun z => hk (e.trans z))]
    · rw [valV_neg e, valV_neg e, ih]
theorem valV_put (kvs : List (κ × V)) (k j : κ) (y : V) : valV (putK kvs k y) j = if j = k then some y else valV kvs j := by
  unfold putK
  by_cases a : (kvs.any fun kv => decide (kv.1 = k)) = true
  · rw [if_pos a, valV_map]
    rw [valV_any] at a
    by_cases e : j = k
    · obtain ⟨x, hx⟩ := Option.isSome_iff_exists.mp a
      rw [if_pos e, e, hx, Option.map_some, if_pos rfl]
    · rw [if_neg e]
      cases valV kvs j with
      | none => rfl
      | some x => rw [Option.map_some, if_neg e]
  · rw [if_neg a]
    refine valV_snoc k j y kvs ?_
    rw [valV_any] at a
    cases q : valV kvs k with
    | none => rfl
    | some x => rw [q] at a; exact (a rfl).elim
theorem length_putK (kvs : List (κ × V)) (k : κ) (v : V) : (putK kvs k v).length ≤ kvs.length + 1 := by
  unfold putK
  split
  · rw [List.length_map]; omega
  · rw [List.length_append, List.length_cons, List.length_nil]; omega
theorem putK_new {kvs : List (κ × V)} {k : κ} (v : V) (h : valV kvs k = none) : putK kvs k v = kvs ++ [(k, v)] := by
  unfold putK
  rw [valV_any, h]
  exact if_neg (by decide)

theorem RelO.isSome_eq {o : Option V} {u : Option Value} (r : RelO o u) : o.isSome = u.isSome := by
  cases o with
  | none => cases u with
    | none => rfl
    | some _ => exact (show False from r).elim
  | some _ => cases u with
    | none => exact (show False from r).elim
    | some _ => rfl
theorem RelO.getD {o : Option V} {u : Option Value} {d : V} {d' : Value} (r : RelO o u) (rd : RelV d d') : RelV (o.getD d) (u.getD d') := by
  cases o with
  | none => cases u with
    | none => exact rd
    | some _ => exact (show False from r).elim
  | some _ => cases u with
    | none => exact (show False from r).elim
    | some _ => exact r

/-- raw tables of the same keys -/
theorem KV.val {kvs : List (κ × V)} {vs : List (κ × Value)} (r : KV kvs vs) (k : κ) : RelO (valV kvs k) (valueAt vs k) := by
  unfold KV at r
  induction r with
  | nil => exact True.intro
  | @cons p q ps qs h t ih =>
    obtain ⟨h1, h2⟩ := h
    by_cases e : p.1 = k
    · have e' : q.1 = k := h1.symm.trans e
      have b : valueAt (q :: qs) k = some q.2 := by simp [valueAt, List.find?_cons, e']
      rw [valV_pos e, b]; exact h2
    · have e' : ¬ q.1 = k := fun z => e (h1.trans z)
      have b : valueAt (q :: qs) k = valueAt qs k := by simp [valueAt, List.find?_cons, e']
      rw [valV_neg e, b]; exact ih
theorem KV.any {kvs : List (κ × V)} {vs : List (κ × Value)} (r : KV kvs vs) (k : κ) : (kvs.any fun kv => decide (kv.1 = k)) = vs.any fun kv => decide (kv.1 = k) := by
  unfold KV at r
  induction r with
  | nil => rfl
  | cons h t ih => rw [List.any_cons, List.any_cons, ih, h.1]
theorem KV.repl {kvs : List (κ × V)} {vs : List (κ × Value)} (r : KV kvs vs) (k : κ) {y : V} {u : Value} (ry : RelV y u) :
    KV (kvs.map fun kv => if kv.1 = k then (kv.1, y) else kv) (vs.map fun kv => if kv.1 = k then (kv.1, u) else kv) := by
  unfold KV at r ⊢
  induction r with
  | nil => exact .nil
  | @cons p q ps qs h t ih =>
    rw [List.map_cons, List.map_cons]
    refine .cons ?_ ih
    obtain ⟨h1, h2⟩ := h
    by_cases e : p.1 = k
    · rw [if_pos e, if_pos (h1.symm.trans e)]; exact ⟨h1, ry⟩
    · rw [if_neg e, if_neg (fun z => e (h1.trans z))]; exact ⟨h1, h2⟩
theorem KV.put {kvs : List (κ × V)} {vs : List (κ × Value)} (r : KV kvs vs) (k : κ) {y : V} {u : Value} (ry : RelV y u) : KV (putK kvs k y) (stored vs k u) := by
  unfold putK stored
  rw [r.any k]
  by_cases e : (vs.any fun kv => decide (kv.1 = k)) = true
  · rw [if_pos e, if_pos e]; exact r.repl k ry
  · rw [if_neg e, if_neg e]; exact Paired.snoc r ⟨rfl, ry⟩
theorem KV.drop {kvs : List (κ × V)} {vs : List (κ × Value)} (r : KV kvs vs) (k : κ) : KV (dropK kvs k) (without vs k) := by
  unfold KV at r ⊢
  unfold dropK without
  induction r with
  | nil => exact .nil
  | @cons p q ps qs h t ih =>
    obtain ⟨h1, h2⟩ := h
    rw [List.filter_cons, List.filter_cons]
    by_cases e : p.1 = k
    · have a : ¬ decide (p.1 ≠ k) = true := by simp [e]
      have b : ¬ decide (q.1 ≠ k) = true := by simp [h1.symm.trans e]
      rw [if_neg a, if_neg b]; exact ih
    · have e' : ¬ q.1 = k := fun z => e (h1.trans z)
      have a : decide (p.1 ≠ k) = true := by simp [e]
      have b : decide (q.1 ≠ k) = true := by simp [e']
      rw [if_pos a, if_pos b]; exact .cons ⟨h1, h2⟩ ih
theorem KV.keys {kvs : List (κ × V)} {vs : List (κ × Value)} (r : KV kvs vs) : kvs.map (·.1) = vs.map (·.1) := by
  unfold KV at r
  induction r with
  | nil => rfl
  | cons h t ih => rw [List.map_cons, List.map_cons, ih, h.1]
theorem KV.length {kvs : List (κ × V)} {vs : List (κ × Value)} (r : KV kvs vs) : kvs.length = vs.length := Paired.length r
theorem dropK_le (kvs : List (κ × V)) (k : κ) : (dropK kvs k).length ≤ kvs.length := List.length_filter_le _ _
end


/-! ### a tracked dict, its keys ints and texts or tuples of these -/
theorem kV_is {P : Program} {w : World} {k : Key} {u : Value} (r : RelV (kV k) u) : (mixKind P w).is k u = true := by
  cases k with
  | inl i => obtain ⟨t, e⟩ := (show ∃ t, u = Value.int i t from r); subst e; exact mixKind_int P w i t
  | inr x => obtain ⟨t, e⟩ := (show ∃ t, u = Value.str x t from r); subst e; exact mixKind_str P w x t
theorem kV_inj {a b : Key} (e : kV a = kV b) : a = b := by
  cases a with
  | inl i => cases b with
    | inl j => have e' : V.int i = V.int j := e; injection e' with e'; rw [e']
    | inr y => exact nomatch (show V.int i = V.str y from e)
  | inr x => cases b with
    | inl j => exact nomatch (show V.str x = V.int j from e)
    | inr y => have e' : V.str x = V.str y := e; injection e' with e'; rw [e']
theorem kVs_inj : ∀ {a b : List Key}, a.map kV = b.map kV → a = b
  | [], [], _ => rfl
  | [], _ :: _, e => by simp at e
  | _ :: _, [], e => by simp at e
  | x :: xs, y :: ys, e => by
    rw [List.map_cons, List.map_cons] at e
    injection e with e1 e2
    rw [kV_inj e1, kVs_inj e2]
theorem items_are {P : Program} {w : World} : ∀ {ks : List Key} {us : List Value}, Vals (ks.map kV) us → ItemsAre (mixKind P w) ks us
  | [], _, r => by rw [List.map_nil] at r; cases r; exact .nil
  | k :: ks, _, r => by
    rw [List.map_cons] at r
    cases r with
    | cons h t => exact .cons (kV_is h) (items_are t)

/-- raw entries of a dict with tuple keys -/
abbrev KT (H : Hp) : List (List Key × V) → List (List Key × Addr × Value) → Prop := Paired fun p q => p.1 = q.1 ∧ H q.2.1 = some (.tup (p.1.map kV)) ∧ RelV p.2 q.2.2
theorem KT.val {H : Hp} {kvs : List (List Key × V)} {xs : List (List Key × Addr × Value)} (r : KT H kvs xs) (k : List Key) : RelO (valV kvs k) ((atKey xs k).map (·.2)) := by
  induction r with
  | nil => exact True.intro
  | @cons p q ps qs h t ih =>
    obtain ⟨h1, _, h2⟩ := h
    by_cases e : p.1 = k
    · have e' : q.1 = k := h1.symm.trans e
      have b : atKey (q :: qs) k = some q.2 := by simp [atKey, List.find?_cons, e']
      rw [valV_pos e, b]; exact h2
    · have e' : ¬ q.1 = k := fun z => e (h1.trans z)
      have b : atKey (q :: qs) k = atKey qs k := by simp [atKey, List.find?_cons, e']
      rw [valV_neg e, b]; exact ih
theorem KT.repl {H : Hp} {kvs : List (List Key × V)} {xs : List (List Key × Addr × Value)} (r : KT H kvs xs) (k : List Key) {y : V} {u : Value} (ry : RelV y u) :
    KT H (kvs.map fun kv => if kv.1 = k then (kv.1, y) else kv) (xs.map (putAt k u)) := by
  induction r with
  | nil => exact .nil
  | @cons p q ps qs h t ih =>
    rw [List.map_cons, List.map_cons]
    refine .cons ?_ ih
    obtain ⟨h1, h2, h3⟩ := h
    unfold putAt
    by_cases e : p.1 = k
    · rw [if_pos e, if_pos (h1.symm.trans e)]; exact ⟨h1, h2, ry⟩
    · rw [if_neg e, if_neg (fun z => e (h1.trans z))]; exact ⟨h1, h2, h3⟩
theorem KT.put {H : Hp} {kvs : List (List Key × V)} {xs : List (List Key × Addr × Value)} (r : KT H kvs xs) (k : List Key) {b : Addr} {y : V} {u : Value} (hb : H b = some (.tup (k.map kV))) (ry : RelV y u) :
    KT H (putK kvs k y) (storedH xs k b u) := by
  have e : (kvs.any fun kv => decide (kv.1 = k)) = (atKey xs k).isSome := by
    rw [valV_any, (r.val k).isSome_eq, Option.isSome_map]
  unfold putK storedH
  rw [e]
  by_cases q : (atKey xs k).isSome = true
  · rw [if_pos q, if_pos q]; exact r.repl k ry
  · rw [if_neg q, if_neg q]; exact Paired.snoc r ⟨rfl, hb, ry⟩
theorem KT.keeps {H H' : Hp} {kvs : List (List Key × V)} {xs : List (List Key × Addr × Value)} (r : KT H kvs xs) (ht : ∀ b ys, H b = some (.tup ys) → H' b = some (.tup ys)) : KT H' kvs xs :=
  Paired.mapP r fun _ _ z => ⟨z.1, ht _ _ z.2.1, z.2.2⟩

section
variable {P : Program} {w : World} {H : Hp} {h : Heap} {a : Addr}
theorem rd_of {u : HO} (ok : HOk P w H h) (e : Rd H a u) : ObjOk P w H h a u := e.ok ok
theorem dk_rd {kvs : List (Key × V)} (ok : HOk P w H h) (e : Rd H a (.dK kvs)) : kvs.length ≤ sizeLine ∧ (a == sysModules) = false ∧ ∃ vs, KV kvs vs ∧ h.DictOf (mixKind P w) a vs :=
  show ObjOk P w H h a (.dK kvs) from rd_of ok e
theorem dk_of {kvs : List (Key × V)} (ok : HOk P w H h) (e : H a = some (.dK kvs)) : kvs.length ≤ sizeLine ∧ (a == sysModules) = false ∧ ∃ vs, KV kvs vs ∧ h.DictOf (mixKind P w) a vs := dk_rd ok (.inl e)
/-- a tracked tuple of ints and texts is a key -/
theorem key_of {ks : List Key} (ok : HOk P w H h) (e : H a = some (.tup (ks.map kV))) : (tupleKind (mixKind P w)).is h ks a := by
  obtain ⟨_, its, r, o, h1, h2, n, h3⟩ := (show ObjOk P w H h a (.tup (ks.map kV)) from ok a _ e)
  exact ⟨o, its.toArray, n, h1, h2, h3, by simpa using items_are r⟩
theorem dt_rd {kvs : List (List Key × V)} (ok : HOk P w H h) (e : Rd H a (.dT kvs)) : kvs.length ≤ sizeLine ∧ (a == sysModules) = false ∧
    ∃ xs, KT H kvs xs ∧ h.DictOfH (tupleKind (mixKind P w)) a xs := by
  obtain ⟨z, y, xs, r, o, es, ep, h1, h2, h3, h4, h5⟩ := (show ObjOk P w H h a (.dT kvs) from rd_of ok e)
  refine ⟨z, y, xs, r, o, es, ep, h1, h2, h3, h4, fun x hx => ?_, h5⟩
  have all : ∀ {l : List (List Key × V)} {m : List (List Key × Addr × Value)}, KT H l m → ∀ x ∈ m, (tupleKind (mixKind P w)).is h x.1 x.2.1 := by
    intro l m q
    induction q with
    | nil => intro x hx; exact nomatch hx
    | @cons p q ps qs hq t ih =>
      intro x hx
      rcases List.mem_cons.mp hx with e | hx
      · subst e
        exact key_of ok (by rw [← hq.1]; exact hq.2.1)
      · exact ih x hx
  exact all r x hx
theorem dt_of {kvs : List (List Key × V)} (ok : HOk P w H h) (e : H a = some (.dT kvs)) : kvs.length ≤ sizeLine ∧ (a == sysModules) = false ∧
    ∃ xs, KT H kvs xs ∧ h.DictOfH (tupleKind (mixKind P w)) a xs := dt_rd ok (.inl e)
end

/-- what the dict at a holds at the key y -/
def DGet (H : Hp) (a : Addr) (y : V) (r : Option V) : Prop :=
  (∃ kvs k, Rd H a (.dK kvs) ∧ y = kV k ∧ r = valV kvs k) ∨ ∃ kvs k b, Rd H a (.dT kvs) ∧ y = .ref b ∧ H b = some (.tup (k.map kV)) ∧ r = valV kvs k
/-- the heap behind a[y] = v -/
def DPut (H : Hp) (a : Addr) (y v : V) (H' : Hp) : Prop :=
  (∃ kvs k, H a = some (.dK kvs) ∧ y = kV k ∧ kvs.length < sizeLine ∧ H' = upd H a (.dK (putK kvs k v))) ∨
  ∃ kvs k b, H a = some (.dT kvs) ∧ y = .ref b ∧ H b = some (.tup (k.map kV)) ∧ kvs.length < sizeLine ∧ H' = upd H a (.dT (putK kvs k v))
theorem DGet.k {H : Hp} {a : Addr} {kvs : List (Key × V)} {k : Key} (e : H a = some (.dK kvs)) : DGet H a (kV k) (valV kvs k) := .inl ⟨kvs, k, .inl e, rfl, rfl⟩
theorem DGet.t {H : Hp} {a b : Addr} {kvs : List (List Key × V)} {k : List Key} (e : H a = some (.dT kvs)) (eb : H b = some (.tup (k.map kV))) : DGet H a (.ref b) (valV kvs k) := .inr ⟨kvs, k, b, .inl e, rfl, eb, rfl⟩
theorem DPut.k {H : Hp} {a : Addr} {kvs : List (Key × V)} {k : Key} {v : V} (e : H a = some (.dK kvs)) (hl : kvs.length < sizeLine) : DPut H a (kV k) v (upd H a (.dK (putK kvs k v))) := .inl ⟨kvs, k, e, rfl, hl, rfl⟩
theorem DPut.t {H : Hp} {a b : Addr} {kvs : List (List Key × V)} {k : List Key} {v : V} (e : H a = some (.dT kvs)) (eb : H b = some (.tup (k.map kV))) (hl : kvs.length < sizeLine) :
    DPut H a (.ref b) v (upd H a (.dT (putK kvs k v))) := .inr ⟨kvs, k, b, e, rfl, eb, hl, rfl⟩


section
variable {X : Cx} {pins : List (Addr × Obj)} {σ : St} {H : Hp} {s : Shared} {a : Addr} {y v : V} {u r : Value} {o : Option V} {A : Around} {E : Value → Shared → Prop}

theorem Inv.big (I : Inv X pins σ H s) : sysModules < s.heap.objs.size := by
  have h : mainGlobals < s.heap.objs.size := (I.mod.glob.keeps I.bk).lt
  exact Nat.lt_trans (by decide) h

/-- d[y], there -/
theorem d_getItem {Q : Value → Shared → Prop} (hu : A.units + 1 < cLine) (I : Inv X pins σ H s) (g : DGet H a y (some v)) (ry : RelV y u) (h : ∀ w' s', Inv X pins σ H s' → RelV v w' → Q w' s') :
    wpAny (model X.prog X.w) A (getItem (.ref a) u) Q E s := by
  rcases g with ⟨kvs, k, e, ey, l⟩ | ⟨kvs, k, b, e, ey, eb, l⟩
  · subst ey
    obtain ⟨z, hd, vs, rel, dd⟩ := dk_rd I.hok e
    obtain ⟨w', hw, rw'⟩ := RelO.some_of (v := v) (o := valueAt vs k) (by rw [l]; exact rel.val k)
    exact wpAny_getItem_of (kV_is ry) dd.mapOf hw (h w' _ (I.tok _) rw')
  · subst ey
    cases (show u = Value.ref b from ry)
    obtain ⟨z, hd, xs, rel, dd⟩ := dt_rd I.hok e
    obtain ⟨w', hw, rw'⟩ := RelO.some_of (v := v) (o := (atKey xs k).map (·.2)) (by rw [l]; exact rel.val k)
    obtain ⟨p, hp, hp2⟩ := Option.map_eq_some_iff.mp hw
    refine wpAny_getItem_heap (tupleKind_room_in1 hu) (key_of I.hok eb) dd hp ?_
    rw [hp2]
    exact h w' _ (I.tok _) rw'
/-- y in d -/
theorem d_in {Q : Value → Shared → Prop} (hu : A.units + 1 < cLine) (I : Inv X pins σ H s) (g : DGet H a y o) (ry : RelV y u) (h : ∀ s', Inv X pins σ H s' → Q (.bool o.isSome) s') :
    wpAny (model X.prog X.w) A (compareOp .In u (.ref a)) Q E s := by
  rcases g with ⟨kvs, k, e, ey, l⟩ | ⟨kvs, k, b, e, ey, eb, l⟩
  · subst ey
    obtain ⟨z, hd, vs, rel, dd⟩ := dk_rd I.hok e
    refine wpAny_in_of (kV_is ry) hd dd.mapOf ?_
    rw [← (rel.val k).isSome_eq, ← l]
    exact h _ (I.tok _)
  · subst ey
    cases (show u = Value.ref b from ry)
    obtain ⟨z, hd, xs, rel, dd⟩ := dt_rd I.hok e
    refine wpAny_in_heap (tupleKind_room_in1 hu) (key_of I.hok eb) hd dd ?_
    have q := (rel.val k).isSome_eq
    rw [Option.isSome_map] at q
    rw [← q, ← l]
    exact h _ (I.tok _)
theorem d_notIn {Q : Value → Shared → Prop} (hu : A.units + 1 < cLine) (I : Inv X pins σ H s) (g : DGet H a y o) (ry : RelV y u) (h : ∀ s', Inv X pins σ H s' → Q (.bool (!o.isSome)) s') :
    wpAny (model X.prog X.w) A (compareOp .NotIn u (.ref a)) Q E s := by
  rcases g with ⟨kvs, k, e, ey, l⟩ | ⟨kvs, k, b, e, ey, eb, l⟩
  · subst ey
    obtain ⟨z, hd, vs, rel, dd⟩ := dk_rd I.hok e
    refine wpAny_notIn_of (kV_is ry) hd dd.mapOf ?_
    rw [← (rel.val k).isSome_eq, ← l]
    exact h _ (I.tok _)
  · subst ey
    cases (show u = Value.ref b from ry)
    obtain ⟨z, hd, xs, rel, dd⟩ := dt_rd I.hok e
    refine wpAny_notIn_heap (tupleKind_room_in1 hu) (key_of I.hok eb) hd dd ?_
    have q := (rel.val k).isSome_eq
    rw [Option.isSome_map] at q
    rw [← q, ← l]
    exact h _ (I.tok _)
/-- a dict's object is replaced -/
theorem d_write {h' : Heap} {t' : Nat} {ob : HO} (I : Inv X pins σ H s) (mu : Mut (H a)) (hs : Heap.SameBut a s.heap h') (he : ∃ q, h'.get? a = some q) (new : ObjOk X.prog X.w (upd H a ob) h' a ob) :
    Inv X pins σ (upd H a ob) { s with heap := h', toks := t' } :=
  I.write (x := a) (e := a) mu (.inl rfl) (fun b q hb z => (hs.2 b hb).trans z) he new
theorem dk_new {P : Program} {w : World} {H' : Hp} {h' : Heap} {kvs : List (Key × V)} {vs : List (Key × Value)} (z : kvs.length ≤ sizeLine) (hd : (a == sysModules) = false) (rel : KV kvs vs) (dd : h'.DictOf (mixKind P w) a vs) :
    ObjOk P w H' h' a (.dK kvs) := ⟨z, hd, vs, rel, dd⟩
/-- d[y] = v -/
theorem d_setItem {H' : Hp} {Q : Unit → Shared → Prop} (hu : A.units + 1 < cLine) (I : Inv X pins σ H s) (g : DPut H a y v H') (ry : RelV y u) (rv : RelV v r) (h : ∀ s', Inv X pins σ H' s' → Q () s') :
    wpAny (model X.prog X.w) A (setItem (.ref a) u r) Q E s := by
  rcases g with ⟨kvs, k, e, ey, l, eH⟩ | ⟨kvs, k, b, e, ey, eb, l, eH⟩
  · subst ey eH
    obtain ⟨z, hd, vs, rel, dd⟩ := dk_of I.hok e
    have hz : vs.length ≤ sizeLine := by rw [← rel.length]; exact z
    have hl : (putK kvs k v).length ≤ sizeLine := by have := length_putK kvs k v; omega
    refine wpAny_setItem_pairs (hsz := hz) (kV_is ry) dd fun h' dd' hs => h _ ?_
    have he : ∃ q, h'.get? a = some q := let ⟨q, _, _, hq, _⟩ := dd'; ⟨q, hq⟩
    exact d_write I (by rw [e]; exact True.intro) hs he (dk_new hl hd (rel.put k rv) dd')
  · subst ey eH
    cases (show u = Value.ref b from ry)
    obtain ⟨z, hd, xs, rel, dd⟩ := dt_of I.hok e
    have hz : xs.length ≤ sizeLine := by rw [← Paired.length rel]; exact z
    have hl : (putK kvs k v).length ≤ sizeLine := by have := length_putK kvs k v; omega
    refine wpAny_setItem_heap (hsz := hz) (tupleKind_room_in1 hu) (key_of I.hok eb) dd fun h' dd' hs => h _ ?_
    obtain ⟨q, es, ep, hq, h2, h3, h4, _, h5⟩ := dd'
    refine d_write I (by rw [e]; exact True.intro) hs ⟨q, hq⟩ ⟨hl, hd, _, (rel.put k eb rv).keeps fun c ys ec => ?_, q, es, ep, hq, h2, h3, h4, h5⟩
    rw [upd_ne (ne_of ec e (fun z => nomatch z))]
    exact ec
end

section
variable {X : Cx} {pins : List (Addr × Obj)} {σ : St} {H : Hp} {s : Shared} {a : Addr} {kvs : List (Key × V)} {k : Key} {u : Value} {A : Around} {E : Value → Shared → Prop}
/-- del d[k] -/
theorem d_delItem {Q : Unit → Shared → Prop} (I : Inv X pins σ H s) (e : H a = some (.dK kvs)) (ry : RelV (kV k) u) (l : (valV kvs k).isSome = true) (h : ∀ s', Inv X pins σ (upd H a (.dK (dropK kvs k))) s' → Q () s') :
    wpAny (model X.prog X.w) A (delItem (.ref a) u) Q E s := by
  obtain ⟨z, hd, vs, rel, dd⟩ := dk_of I.hok e
  refine wpAny_delItem_slot dd.typeIs (by decide) PySem.F.slot_dict_delitem
    (call_meetsIn PySem.F.slot_dict_delitem dd.typeIs PySem.F.entry_dict_delitem (PySem.F.args_dict_delitem_2 _ _) (meets_dict_delitem_pairs (mixKind X.prog X.w) a (kV_is ry)) ⟨vs, dd, by rw [← rel.length]; exact z, by rw [← (rel.val k).isSome_eq]; exact l, fun h' dd' hs => h _ ?_⟩)
  have he : ∃ q, h'.get? a = some q := let ⟨q, _, _, hq, _⟩ := dd'; ⟨q, hq⟩
  exact d_write I (by rw [e]; exact True.intro) hs he (dk_new (Nat.le_trans (dropK_le kvs k) z) hd (rel.drop k) dd')
/-- d.pop(k[, x]), there -/
theorem d_pop {v : V} {more : List Value} {Q : Value → Shared → Prop} (I : Inv X pins σ H s) (e : H a = some (.dK kvs)) (ry : RelV (kV k) u) (l : valV kvs k = some v) (hm : more = [] ∨ ∃ x, more = [x])
    (h : ∀ w' s', Inv X pins σ (upd H a (.dK (dropK kvs k))) s' → RelV v w' → Q w' s') : wpAny (model X.prog X.w) A (call (.builtin "dict.pop") (.ref a :: u :: more)) Q E s := by
  obtain ⟨z, hd, vs, rel, dd⟩ := dk_of I.hok e
  obtain ⟨w', hw, rw'⟩ := RelO.some_of (v := v) (o := valueAt vs k) (by rw [← l]; exact rel.val k)
  have hp : (keyPart u).isSome = true := by
    cases k with
    | inl i => obtain ⟨t, q⟩ := (show ∃ t, u = Value.int i t from ry); subst q; rfl
    | inr x => obtain ⟨t, q⟩ := (show ∃ t, u = Value.str x t from ry); subst q; rfl
  have ha : argsOk "dict.pop" ⟨.ref a :: u :: more, []⟩ := by
    rcases hm with q | ⟨x, q⟩
    · subst q; exact PySem.F.args_dict_pop_2 _ _
    · subst q; exact PySem.F.args_dict_pop_3 _ _ _
  refine call_meetsIn PySem.F.slot_dict_pop dd.typeIs PySem.F.entry_dict_pop ha (meets_dict_pop_there (mixKind X.prog X.w) a (kV_is ry) more hm hp)
    ⟨vs, w', dd, by rw [← rel.length]; exact z, hw, fun h' dd' hs => h w' _ ?_ rw'⟩
  have he : ∃ q, h'.get? a = some q := let ⟨q, _, _, hq, _⟩ := dd'; ⟨q, hq⟩
  exact d_write I (by rw [e]; exact True.intro) hs he (dk_new (Nat.le_trans (dropK_le kvs k) z) hd (rel.drop k) dd')
/-- d.pop(k, x), not there -/
theorem d_popD {r : Value} {Q : Value → Shared → Prop} (I : Inv X pins σ H s) (e : H a = some (.dK kvs)) (ry : RelV (kV k) u) (l : valV kvs k = none) (h : ∀ s', Inv X pins σ H s' → Q r s') :
    wpAny (model X.prog X.w) A (call (.builtin "dict.pop") [.ref a, u, r]) Q E s := by
  obtain ⟨z, hd, vs, rel, dd⟩ := dk_of I.hok e
  have hn : valueAt vs k = none := RelO.none_of (by rw [← l]; exact rel.val k)
  have hp : (keyPart u).isSome = true := by
    cases k with
    | inl i => obtain ⟨t, q⟩ := (show ∃ t, u = Value.int i t from ry); subst q; rfl
    | inr x => obtain ⟨t, q⟩ := (show ∃ t, u = Value.str x t from ry); subst q; rfl
  exact call_meetsIn PySem.F.slot_dict_pop dd.typeIs PySem.F.entry_dict_pop (PySem.F.args_dict_pop_3 _ _ _) (meets_dict_pop_default (mixKind X.prog X.w) a (kV_is ry) hd hp r) ⟨vs, dd, hn, h _ (I.tok _)⟩
/-- d.clear() -/
theorem d_clear {Q : Value → Shared → Prop} (I : Inv X pins σ H s) (e : H a = some (.dK kvs)) (h : ∀ s', Inv X pins σ (upd H a (.dK [])) s' → Q .none s') : wpAny (model X.prog X.w) A (call (.builtin "dict.clear") [.ref a]) Q E s := by
  obtain ⟨z, hd, vs, rel, dd⟩ := dk_of I.hok e
  refine call_meetsIn PySem.F.slot_dict_clear dd.typeIs PySem.F.entry_dict_clear (PySem.F.args_dict_clear_1 _) (meets_dict_clear (mixKind X.prog X.w) a) ⟨vs, dd, by rw [← rel.length]; exact z, fun h' dd' hs => h _ ?_⟩
  have he : ∃ q, h'.get? a = some q := let ⟨q, _, _, hq, _⟩ := dd'; ⟨q, hq⟩
  exact d_write (t' := s.toks) I (by rw [e]; exact True.intro) hs he (dk_new (Nat.zero_le _) hd .nil dd')
/-- len(d) -/
theorem d_len {Q : Value → Shared → Prop} (I : Inv X pins σ H s) (e : Rd H a (.dK kvs)) (h : ∀ t s', Inv X pins σ H s' → Q (.int kvs.length t) s') : wpAny (model X.prog X.w) A (call (.builtin "len") [.ref a]) Q E s := by
  obtain ⟨z, hd, vs, rel, dd⟩ := dk_rd I.hok e
  refine call_len_dict hd dd (by rw [← rel.length]; rw [sizeLine_eq] at z; omega) ?_
  rw [← rel.length]
  exact h _ _ (I.tok _)
/-- if d -/
theorem d_truth {Q : Bool → Shared → Prop} (I : Inv X pins σ H s) (e : Rd H a (.dK kvs)) (h : ∀ s', Inv X pins σ H s' → Q (!kvs.isEmpty) s') : wpAny (model X.prog X.w) A (truthy (.ref a)) Q E s := by
  obtain ⟨z, hd, vs, rel, dd⟩ := dk_rd I.hok e
  refine wpAny_truthy_dict hd dd (by rw [← rel.length]; rw [sizeLine_eq] at z; omega) ?_
  have q : kvs.isEmpty = vs.isEmpty := by cases rel <;> rfl
  rw [← q]
  exact h _ (I.tok _)
end


/-! ### readings and rules -/
/-- the element of a subscription, not a slice -/
def NoSl (i : Expr) : Prop := ∀ ov iv, subscripted i false ov iv = operate [ov, iv] (getItem ov iv)
theorem subD_of {prog : Program} {w : World} {A : Around} {E : Value → Shared → Prop} {s : Shared} {env : Env} {value slice : Expr} {pos : Pos} {T id : String} {Q : Value → Shared → Prop}
    (hl : typeLookup (.type T) "__getitem__" = pure (some (.builtin id))) (hs : NoSl slice)
    (h : wpAny (model prog w) A (eval value env) (fun o s₁ => wpAny (model prog w) A (eval slice env) (fun i s₂ => s₂.TypeIs o T ∧ wpAny (model prog w) A (getItem o i) Q E s₂) E s₁) E s) :
    wpAny (model prog w) A (eval (.Subscript value slice pos) env) Q E s := by
  refine Subscript_ (wpAny_mono h (fun o s₁ h₁ => wpAny_mono h₁ (fun i s₂ h₂ => ?_) fun _ _ x => x) fun _ _ x => x)
  obtain ⟨hT, h₂⟩ := h₂
  unfold subscriptTail
  refine wpAny_bind ?_
  rw [getitemInPython_of_ne hT.not_modules]
  refine wpAny_bind (wpAny_specialOf hT hl ?_)
  have fin : wpAny (model prog w) A (subscripted slice false o i) (fun r s₃ => wpAny (model prog w) A (letTemporaryGo value o r >>= fun _ => pure r) Q E s₃) E s₂ := by
    rw [hs o i]
    exact wpAny_operating (wpAny_mono h₂ (fun r s₃ h₃ => wpAny_bind (wpAny_letTemporaryGo (wpAny_pure h₃))) fun _ _ x => x)
  first
    | exact wpAny_pure (wpAny_bind fin)
    | exact wpAny_bind (wpAny_pure (wpAny_bind fin))
    | exact wpAny_bind fin

theorem dict_typeIs {X : Cx} {pins : List (Addr × Obj)} {σ : St} {H : Hp} {s : Shared} {a : Addr} {y : V} {o : Option V} (I : Inv X pins σ H s) (g : DGet H a y o) : s.TypeIs (.ref a) "dict" := by
  rcases g with ⟨kvs, k, e, _, _⟩ | ⟨kvs, k, b, e, _, _, _⟩
  · obtain ⟨_, _, vs, _, dd⟩ := dk_rd I.hok e
    exact dd.typeIs
  · obtain ⟨_, _, xs, _, dd⟩ := dt_rd I.hok e
    exact dd.typeIs
theorem dict_noDict {X : Cx} {pins : List (Addr × Obj)} {σ : St} {H : Hp} {s : Shared} {a : Addr} {y : V} {o : Option V} (I : Inv X pins σ H s) (g : DGet H a y o) :
    ∀ b, Value.ref a = .ref b → ∃ ob, s.heap.get? b = some ob ∧ ob.dict = none := fun b q => by
  cases q
  rcases g with ⟨kvs, k, e, _, _⟩ | ⟨kvs, k, b, e, _, _, _⟩
  · obtain ⟨_, _, vs, _, ob, _, _, h1, h2, _⟩ := dk_rd I.hok e
    exact ⟨ob, h1, h2.2.1⟩
  · obtain ⟨_, _, xs, _, ob, _, _, h1, h2, _⟩ := dt_rd I.hok e
    exact ⟨ob, h1, h2.2.1⟩

/-- d[y] -/
def tDGet (td ty : TE) : TE := fun σ H Q => td σ H fun x H1 => ty σ H1 fun y H2 => ∃ a v, x = .ref a ∧ DGet H2 a y (some v) ∧ Q v H2
/-- y in d, y not in d -/
def tDIn (ty td : TE) : TE := fun σ H Q => ty σ H fun y H1 => td σ H1 fun x H2 => ∃ a o, x = .ref a ∧ DGet H2 a y o ∧ Q (.bl o.isSome) H2
def tDNotIn (ty td : TE) : TE := fun σ H Q => ty σ H fun y H1 => td σ H1 fun x H2 => ∃ a o, x = .ref a ∧ DGet H2 a y o ∧ Q (.bl (!o.isSome)) H2
/-- d[y] = v -/
def sDPut (td ty tv : TE) : TS := fun D σ H => tv σ H fun v H1 => td σ H1 fun x H2 => ty σ H2 fun y H3 => ∃ a H4, x = .ref a ∧ DPut H3 a y v H4 ∧ D.nx σ H4
/-- d[y] op= v -/
def sDAug (td ty tv : TE) (rd : V → V → Hp → VK → Prop) : TS := fun D σ H => td σ H fun x H1 => ty σ H1 fun y H2 => ∃ a v, x = .ref a ∧ DGet H2 a y (some v) ∧
  tv σ H2 fun y2 H3 => rd v y2 H3 fun z H4 => ∃ H5, DPut H4 a y z H5 ∧ D.nx σ H5
/-- del d[y] -/
def sDDel (td ty : TE) : TS := fun D σ H => td σ H fun x H1 => ty σ H1 fun y H2 => ∃ a kvs k, x = .ref a ∧ H2 a = some (.dK kvs) ∧ y = kV k ∧ (valV kvs k).isSome = true ∧ D.nx σ (upd H2 a (.dK (dropK kvs k)))

section
variable {X : Cx} {o i e value : Expr} {pos pos' tpos : Pos} {td ty tv : TE}
theorem pe_dget (hu : X.A.units + 1 < cLine) (ho : PE X o td) (hi : PE X i ty) (hs : NoSl i) : PE X (.Subscript o i pos) (tDGet td ty) := by
  intro pins s σ H Q I h
  refine subD_of PySem.F.slot_dict_getitem.lookup hs (thn (ho pins s σ H _ I h) fun u s1 ⟨x, H1, I1, rx, q1⟩ => thn (hi pins s1 σ H1 _ I1 q1) fun iv s2 ⟨y, H2, I2, ry, a, v, ex, g, q2⟩ => ?_)
  subst ex
  obtain rfl : u = Value.ref a := rx
  exact ⟨dict_typeIs I2 g, d_getItem hu I2 g ry fun w' s3 I3 rw' => ⟨v, H2, I3, rw', q2⟩⟩
theorem pc_din (hu : X.A.units + 1 < cLine) (hi : PE X i ty) (ho : PE X o td) : PC X .In i o (tDIn ty td) := by
  intro pins s σ H Q I h
  refine thn (hi pins s σ H _ I h) fun iv s1 ⟨y, H1, I1, ry, q1⟩ => thn (ho pins s1 σ H1 _ I1 q1) fun u s2 ⟨x, H2, I2, rx, a, ov, ex, g, q2⟩ => ?_
  subst ex
  obtain rfl : u = Value.ref a := rx
  exact d_in hu I2 g ry fun s3 I3 => ⟨.bl ov.isSome, H2, I3, rfl, q2⟩
theorem pc_dnotin (hu : X.A.units + 1 < cLine) (hi : PE X i ty) (ho : PE X o td) : PC X .NotIn i o (tDNotIn ty td) := by
  intro pins s σ H Q I h
  refine thn (hi pins s σ H _ I h) fun iv s1 ⟨y, H1, I1, ry, q1⟩ => thn (ho pins s1 σ H1 _ I1 q1) fun u s2 ⟨x, H2, I2, rx, a, ov, ex, g, q2⟩ => ?_
  subst ex
  obtain rfl : u = Value.ref a := rx
  exact d_notIn hu I2 g ry fun s3 I3 => ⟨.bl (!ov.isSome), H2, I3, rfl, q2⟩
theorem ps_dput (hu : X.A.units + 1 < cLine) (ho : PE X o td) (hi : PE X i ty) (hv : PE X value tv) (hs : swapsWith value (some (.Subscript o i pos')) pos.line X.env = pure false) :
    PS X (.Assign [.Subscript o i pos'] value pos) (sDPut td ty tv) := by
  intro pins s σ H D I h
  refine wpAny_Assign_Subscript (thn (hv pins s σ H _ I h) fun r s1 ⟨v, H1, I1, rv, q1⟩ => thn (ho pins s1 σ H1 _ I1 q1) fun u s2 ⟨x, H2, I2, rx, q2⟩ => thn (hi pins s2 σ H2 _ I2 q2) fun iv s3 ⟨y, H3, I3, ry, a, H4, ex, g, q3⟩ => ?_) hs
  subst ex
  obtain rfl : u = Value.ref a := rx
  exact d_setItem hu I3 g ry rv fun s4 I4 => ⟨σ, H4, I4, q3⟩
theorem ps_daug {op : Operator} {rd : V → V → Hp → VK → Prop} (hu : X.A.units + 1 < cLine) (ho : PE X o td) (hi : PE X i ty) (hv : PE X value tv) (hop : InOp X op rd)
    (ha : ∀ ov iv new, augStore i ov iv new = (do holding [new, ov, iv] (setItem ov iv new); release [new, ov, iv] []; pure .next)) : PS X (.AugAssign (.Subscript o i tpos) op value pos) (sDAug td ty tv rd) := by
  intro pins s σ H D I h
  refine wpAny_AugAssign_SubscriptAny (thn (ho pins s σ H _ I h) fun u s1 ⟨x, H1, I1, rx, q1⟩ => thn (hi pins s1 σ H1 _ I1 q1) fun iv s2 ⟨y, H2, I2, ry, a, v, ex, g, q2⟩ => ?_) ha
  subst ex
  obtain rfl : u = Value.ref a := rx
  refine d_getItem hu I2 g ry fun w' s3 I3 rw' => thn (hv pins s3 σ H2 _ I3 q2) fun w2 s4 ⟨y2, H3, I4, ry2, q3⟩ => thn (hop pins s4 σ H3 v y2 w' w2 _ I4 rw' ry2 q3) fun w3 s5 ⟨z, H4, I5, rz, H5, g5, q4⟩ => ?_
  exact d_setItem hu I5 g5 ry rz fun s6 I6 => ⟨σ, H5, I6, q4⟩
theorem ps_ddel (ho : PE X o td) (hi : PE X i ty) : PS X (.Delete [.Subscript o i tpos] pos) (sDDel td ty) := by
  intro pins s σ H D I h
  refine wpAny_Delete (wpAny_deleteEach_cons (wpAny_delete_Subscript (thn (ho pins s σ H _ I h) fun u s1 ⟨x, H1, I1, rx, q1⟩ => thn (hi pins s1 σ H1 _ I1 q1) fun iv s2 ⟨y, H2, I2, ry, a, kvs, k, ex, e, ey, l, q2⟩ => ?_)))
  subst ex ey
  obtain rfl : u = Value.ref a := rx
  exact d_delItem I2 e ry l fun s3 I3 => wpAny_deleteEach_nil ⟨σ, _, I3, q2⟩
end


/-! ### displays -/
theorem dk_empty {P : Program} {w : World} {H : Hp} (h : Heap) (hb : sysModules < h.objs.size) : ObjOk P w H (h.push { cls := .type "dict", data := .dict #[] }) h.objs.size (.dK []) :=
  ⟨Nat.zero_le _, beq_eq_false_iff_ne.mpr (Ne.symm (Nat.ne_of_lt hb)), [], .nil, Heap.DictOf.new h⟩
theorem dt_empty {P : Program} {w : World} {H : Hp} (h : Heap) (hb : sysModules < h.objs.size) : ObjOk P w H (h.push { cls := .type "dict", data := .dict #[] }) h.objs.size (.dT []) :=
  ⟨Nat.zero_le _, beq_eq_false_iff_ne.mpr (Ne.symm (Nat.ne_of_lt hb)), [], .nil, _, #[], 0, Heap.get?_push_size _ rfl, ⟨rfl, rfl, rfl⟩, rfl, rfl, List.nodup_nil⟩
/-- {}, to be a dict of the kind that is wanted -/
def tDNewK : TE := fun _ H Q => ∀ p, H p = none → Q (.ref p) (upd H p (.dK []))
def tDNewT : TE := fun _ H Q => ∀ p, H p = none → Q (.ref p) (upd H p (.dT []))
section
variable {X : Cx} {pos : Pos}
theorem pe_dnewK : PE X (.Dict [] [] pos) tDNewK := fun pins s σ H Q I h =>
  wpAny_Dict_empty ⟨.ref s.heap.objs.size, _, I.laid (a := s.heap.objs.size) (o := .dK []) (t' := s.toks) (fun _ _ q => Heap.get?_push_of_some _ q) (Nat.le_refl _) (dk_empty s.heap I.big), rfl, h _ (I.hok.fresh (Nat.le_refl _))⟩
theorem pe_dnewT : PE X (.Dict [] [] pos) tDNewT := fun pins s σ H Q I h =>
  wpAny_Dict_empty ⟨.ref s.heap.objs.size, _, I.laid (a := s.heap.objs.size) (o := .dT []) (t' := s.toks) (fun _ _ q => Heap.get?_push_of_some _ q) (Nat.le_refl _) (dt_empty s.heap I.big), rfl, h _ (I.hok.fresh (Nat.le_refl _))⟩
end

/-- the pairs of a display, from the left -/
def tPairs : List (TE × TE) → St → Hp → (List (V × V) → Hp → Prop) → Prop
  | [], _, H, Q => Q [] H
  | (tk, tv) :: r, σ, H, Q => tk σ H fun x H1 => tv σ H1 fun y H2 => tPairs r σ H2 fun ps H3 => Q ((x, y) :: ps) H3
abbrev VV : List (V × V) → List (Value × Value) → Prop := Paired fun p q => RelV p.1 q.1 ∧ RelV p.2 q.2
def PPs (X : Cx) (pos : Pos) (keys : List (Option Expr)) (values : List Expr) (trs : List (TE × TE)) : Prop :=
  ∀ (pins : List (Addr × Obj)) (s : Shared) (σ : St) (H : Hp) (Q : List (V × V) → Hp → Prop), Inv X pins σ H s → tPairs trs σ H Q →
    wpAny (model X.prog X.w) X.A (evalPairs (pairTrees keys values X.env pos)) (fun vs s' => ∃ ps H', Inv X pins σ H' s' ∧ VV ps vs ∧ Q ps H') X.xe s
theorem pps_nil {X : Cx} {pos : Pos} : PPs X pos [] [] [] := fun pins s σ H Q I h => pairTrees_nil_walk ⟨[], H, I, .nil, h⟩
theorem pps_cons {X : Cx} {pos : Pos} {k v : Expr} {ks : List (Option Expr)} {vs : List Expr} {tk tv : TE} {trs : List (TE × TE)} (hk : PE X k tk) (hv : PE X v tv) (hr : PPs X pos ks vs trs) :
    PPs X pos (some k :: ks) (v :: vs) ((tk, tv) :: trs) := fun pins s σ H Q I h =>
  pairTrees_cons_walk (thn (hk pins s σ H _ I h) fun u s1 ⟨x, H1, I1, rx, q1⟩ => thn (hv pins s1 σ H1 _ I1 q1) fun w2 s2 ⟨y, H2, I2, ry, q2⟩ =>
    thn (hr pins s2 σ H2 _ I2 q2) fun ws s3 ⟨ps, H3, I3, rel, q3⟩ => ⟨(x, y) :: ps, H3, I3, .cons ⟨rx, ry⟩ rel, q3⟩)

def mergeK (kvs more : List (Key × V)) : List (Key × V) := more.foldl (fun acc kv => putK acc kv.1 kv.2) kvs
theorem KV.merge : ∀ {more : List (Key × V)} {rs : List (Key × Value)} {kvs : List (Key × V)} {vs : List (Key × Value)}, KV more rs → KV kvs vs → KV (mergeK kvs more) (merged vs rs) := by
  intro more rs kvs vs r
  unfold KV at r
  induction r generalizing kvs vs with
  | nil => intro q; exact q
  | @cons p q ps qs h t ih =>
    intro r0
    have e : KV (putK kvs p.1 p.2) (stored vs q.1 q.2) := by
      have := r0.put p.1 h.2
      rw [← h.1]; exact this
    exact ih e
theorem length_mergeK : ∀ (more kvs : List (Key × V)), (mergeK kvs more).length ≤ kvs.length + more.length
  | [], kvs => by show kvs.length ≤ kvs.length + 0; omega
  | p :: r, kvs => by
    have h1 := length_mergeK r (putK kvs p.1 p.2)
    have h2 := length_putK kvs p.1 p.2
    show (mergeK (putK kvs p.1 p.2) r).length ≤ _
    rw [List.length_cons]; omega
theorem carries_of {P : Program} {w : World} : ∀ {kvs : List (Key × V)} {ws : List (Value × Value)}, VV (kvs.map fun kv => (kV kv.1, kv.2)) ws → ∃ rs, Carries (mixKind P w) ws rs ∧ KV kvs rs
  | [], _, r => by rw [List.map_nil] at r; cases r; exact ⟨[], True.intro, .nil⟩
  | p :: kvs, _, r => by
    rw [List.map_cons] at r
    cases r with
    | @cons a b as bs h t =>
      obtain ⟨rs, c, q⟩ := carries_of (P := P) (w := w) t
      obtain ⟨b1, b2⟩ := b
      exact ⟨(p.1, b2) :: rs, ⟨kV_is h.1, rfl, c⟩, .cons ⟨rfl, h.2⟩ q⟩
/-- {k: v, ..} with keys ints and texts; the new dict stands empty while the pairs are made -/
def tDisp (trs : List (TE × TE)) : TE := fun σ H Q => ∀ p, H p = none → tPairs trs σ (upd H p (.dK [])) fun ps H2 => H2 p = some (.dK []) ∧ ∃ kvs : List (Key × V), ps = kvs.map (fun kv => (kV kv.1, kv.2)) ∧ kvs.length ≤ 15 ∧ Q (.ref p) (upd H2 p (.dK (mergeK [] kvs)))
theorem pe_disp {X : Cx} {pos : Pos} {keys : List (Option Expr)} {values : List Expr} {trs : List (TE × TE)} (h : PPs X pos keys values trs) (hall : keys.all (·.isSome) = true) (hl : keys.length = values.length) (h0 : keys ≠ [])
    (h15 : keys.length ≤ 15) : PE X (.Dict keys values pos) (tDisp trs) := by
  intro pins s σ H Q I q
  have hn := I.hok.fresh (Nat.le_refl s.heap.objs.size)
  have I1 := I.laid (a := s.heap.objs.size) (o := .dK []) (h' := s.heap.push { cls := .type "dict", data := .dict #[] }) (t' := s.toks) (fun _ _ q => Heap.get?_push_of_some _ q) (Nat.le_refl _) (dk_empty s.heap I.big)
  refine wpAny_Dict_walk (knd := mixKind X.prog X.w) hall hl h0 h15 (thn (h pins _ σ _ _ I1 (q _ hn)) fun ws s2 ⟨ps, H2, I2, rel, e, kvs, ep, lk, q2⟩ => ?_)
  subst ep
  obtain ⟨rs, c, rk⟩ := carries_of (P := X.prog) (w := X.w) rel
  obtain ⟨z, hd, vs0, r0, dd⟩ := dk_of I2.hok e
  cases r0
  refine ⟨rs, c, dd, fun h' dd' hs => ⟨.ref s.heap.objs.size, _, ?_, rfl, q2⟩⟩
  have hz : (mergeK [] kvs).length ≤ sizeLine := by
    have h1 := length_mergeK kvs []
    rw [List.length_nil] at h1
    rw [sizeLine_eq]; omega
  have he : ∃ q, h'.get? s.heap.objs.size = some q := let ⟨q, _, _, hq, _⟩ := dd'; ⟨q, hq⟩
  exact d_write I2 (by rw [e]; exact True.intro) hs he (dk_new hz hd (rk.merge .nil) dd')


/-! ### methods -/
/-- a method call o.m(e) of a built-in, with one argument: what must be seen of the text -/
structure M1 (X : Cx) (o : Expr) (m : Str) (apos : Pos) (e : Expr) (cpos : Pos) : Prop where
  base : attributeBase o m X.env (eval o X.env) = eval o X.env
  few : ((backTo cpos (starEach [e] X.env)).all (fun x => !x.1) && (backToKw cpos (keywordEach [] X.env)).all (fun x => x.1.isSome)
    && decide (([e] : List Expr).length + ([] : List Keyword).length + (if ([] : List Keyword).isEmpty then 0 else 1) < 30)) = true
  line : (apos.endLine == cpos.line) = true
  trees : backTo cpos (starEach [e] X.env) = [(false, eval e X.env)]
structure M2 (X : Cx) (o : Expr) (m : Str) (apos : Pos) (e f : Expr) (cpos : Pos) : Prop where
  base : attributeBase o m X.env (eval o X.env) = eval o X.env
  few : ((backTo cpos (starEach [e, f] X.env)).all (fun x => !x.1) && (backToKw cpos (keywordEach [] X.env)).all (fun x => x.1.isSome)
    && decide (([e, f] : List Expr).length + ([] : List Keyword).length + (if ([] : List Keyword).isEmpty then 0 else 1) < 30)) = true
  line : (apos.endLine == cpos.line) = true
  trees : backTo cpos (starEach [e, f] X.env) = [(false, eval e X.env), (false, eval f X.env)]

/-- a is a dict, whatever its keys -/
def IsD (H : Hp) (a : Addr) : Prop := (∃ kvs, Rd H a (.dK kvs)) ∨ ∃ kvs, Rd H a (.dT kvs)
theorem isD_at {X : Cx} {pins : List (Addr × Obj)} {σ : St} {H : Hp} {s : Shared} {a : Addr} (I : Inv X pins σ H s) (d : IsD H a) :
    s.TypeIs (.ref a) "dict" ∧ (∀ b, Value.ref a = .ref b → ∃ ob, s.heap.get? b = some ob ∧ ob.dict = none) ∧ (a == sysModules) = false := by
  rcases d with ⟨kvs, e⟩ | ⟨kvs, e⟩
  · obtain ⟨_, hd, vs, _, dd⟩ := dk_rd I.hok e
    refine ⟨dd.typeIs, fun b q => ?_, hd⟩
    cases q
    obtain ⟨ob, _, _, h1, h2, _⟩ := dd
    exact ⟨ob, h1, h2.2.1⟩
  · obtain ⟨_, hd, xs, _, dd⟩ := dt_rd I.hok e
    refine ⟨dd.typeIs, fun b q => ?_, hd⟩
    cases q
    obtain ⟨ob, _, _, h1, h2, _⟩ := dd
    exact ⟨ob, h1, h2.2.1⟩

section
variable {X : Cx} {pins : List (Addr × Obj)} {σ : St} {H : Hp} {s : Shared} {a : Addr} {y d : V} {u r : Value} {o : Option V} {A : Around} {E : Value → Shared → Prop}
/-- d.get(y) -/
theorem d_get1 {Q : Value → Shared → Prop} (hu : A.units + 1 < cLine) (I : Inv X pins σ H s) (g : DGet H a y o) (ry : RelV y u) (h : ∀ w' s', Inv X pins σ H s' → RelV (o.getD .non) w' → Q w' s') :
    wpAny (model X.prog X.w) A (call (.builtin "dict.get") [.ref a, u]) Q E s := by
  rcases g with ⟨kvs, k, e, ey, l⟩ | ⟨kvs, k, b, e, ey, eb, l⟩
  · subst ey
    obtain ⟨z, hd, vs, rel, dd⟩ := dk_rd I.hok e
    refine call_meetsIn PySem.F.slot_dict_get dd.typeIs PySem.F.entry_dict_get (PySem.F.args_dict_get_2 _ _) (meets_dict_get (mixKind X.prog X.w) a (kV_is ry) hd) ⟨_, dd.mapOf, h _ _ (I.tok _) ?_⟩
    rw [l]
    exact (rel.val k).getD rfl
  · subst ey
    cases (show u = Value.ref b from ry)
    obtain ⟨z, hd, xs, rel, dd⟩ := dt_rd I.hok e
    refine call_meetsIn PySem.F.slot_dict_get dd.typeIs PySem.F.entry_dict_get (PySem.F.args_dict_get_2 _ _) (meetsH_dict_get (tupleKind (mixKind X.prog X.w)) a b hd) ⟨tupleKind_room_in1 hu, k, xs, key_of I.hok eb, dd, h _ _ (I.tok _) ?_⟩
    rw [l]
    exact (rel.val k).getD rfl
/-- d.get(y, x) -/
theorem d_get2 {Q : Value → Shared → Prop} (hu : A.units + 1 < cLine) (I : Inv X pins σ H s) (g : DGet H a y o) (ry : RelV y u) (rd : RelV d r) (h : ∀ w' s', Inv X pins σ H s' → RelV (o.getD d) w' → Q w' s') :
    wpAny (model X.prog X.w) A (call (.builtin "dict.get") [.ref a, u, r]) Q E s := by
  rcases g with ⟨kvs, k, e, ey, l⟩ | ⟨kvs, k, b, e, ey, eb, l⟩
  · subst ey
    obtain ⟨z, hd, vs, rel, dd⟩ := dk_rd I.hok e
    refine call_meetsIn PySem.F.slot_dict_get dd.typeIs PySem.F.entry_dict_get (PySem.F.args_dict_get_3 _ _ _) (meets_dict_get_default (mixKind X.prog X.w) a (kV_is ry) hd r) ⟨_, dd.mapOf, h _ _ (I.tok _) ?_⟩
    rw [l]
    exact (rel.val k).getD rd
  · subst ey
    cases (show u = Value.ref b from ry)
    obtain ⟨z, hd, xs, rel, dd⟩ := dt_rd I.hok e
    refine call_meetsIn PySem.F.slot_dict_get dd.typeIs PySem.F.entry_dict_get (PySem.F.args_dict_get_3 _ _ _) (meetsH_dict_get_default (tupleKind (mixKind X.prog X.w)) a b hd r) ⟨tupleKind_room_in1 hu, k, xs, key_of I.hok eb, dd, h _ _ (I.tok _) ?_⟩
    rw [l]
    exact (rel.val k).getD rd
end

def tDGet1 (td ty : TE) : TE := fun σ H Q => td σ H fun x H1 => ∃ a, x = .ref a ∧ IsD H1 a ∧ ty σ H1 fun y H2 => ∃ o, DGet H2 a y o ∧ Q (o.getD .non) H2
def tDGet2 (td ty tx : TE) : TE := fun σ H Q => td σ H fun x H1 => ∃ a, x = .ref a ∧ IsD H1 a ∧ ty σ H1 fun y H2 => tx σ H2 fun z H3 => ∃ o, DGet H3 a y o ∧ Q (o.getD z) H3
/-- d.pop(k): there; d.pop(k, x): there or not -/
def tDPop1 (td ty : TE) : TE := fun σ H Q => td σ H fun x H1 => ∃ a, x = .ref a ∧ IsD H1 a ∧ ty σ H1 fun y H2 => ∃ kvs k v, H2 a = some (.dK kvs) ∧ y = kV k ∧ valV kvs k = some v ∧ Q v (upd H2 a (.dK (dropK kvs k)))
def tDPop2 (td ty tx : TE) : TE := fun σ H Q => td σ H fun x H1 => ∃ a, x = .ref a ∧ IsD H1 a ∧ ty σ H1 fun y H2 => tx σ H2 fun z H3 => ∃ kvs k, H3 a = some (.dK kvs) ∧ y = kV k ∧
  (∀ v, valV kvs k = some v → Q v (upd H3 a (.dK (dropK kvs k)))) ∧ (valV kvs k = none → Q z H3)
section
variable {X : Cx} {o e f : Expr} {apos cpos : Pos} {td ty tx : TE}
theorem pe_dget1 (hu : X.A.units + 1 < cLine) (ho : PE X o td) (he : PE X e ty) (m : M1 X o "get" apos e cpos) : PE X (.Call (.Attribute o "get" apos) [e] [] cpos) (tDGet1 td ty) := by
  intro pins s σ H Q I h
  refine wpAny_Call_method m.base m.few m.line PySem.F.plainAttrs_dict PySem.F.slot_dict_get PySem.F.type_dict_get (thn (ho pins s σ H _ I h) fun u s1 ⟨x, H1, I1, rx, a, ex, d, q1⟩ => ?_)
  subst ex
  obtain rfl : u = Value.ref a := rx
  obtain ⟨t1, t2, _⟩ := isD_at I1 d
  refine ⟨t1, t2, ?_⟩
  rw [m.trees]
  refine Calls.callWith_builtin rfl (Calls.evalArgs_plain (Calls.spliced_cons (thn (he pins s1 σ H1 _ I1 q1) fun iv s2 ⟨y, H2, I2, ry, ov, g, q2⟩ => Calls.spliced_nil ?_)))
  exact d_get1 hu I2 g ry fun w' s3 I3 rw' => ⟨_, H2, I3, rw', q2⟩
theorem pe_dget2 (hu : X.A.units + 1 < cLine) (ho : PE X o td) (he : PE X e ty) (hf : PE X f tx) (m : M2 X o "get" apos e f cpos) : PE X (.Call (.Attribute o "get" apos) [e, f] [] cpos) (tDGet2 td ty tx) := by
  intro pins s σ H Q I h
  refine wpAny_Call_method m.base m.few m.line PySem.F.plainAttrs_dict PySem.F.slot_dict_get PySem.F.type_dict_get (thn (ho pins s σ H _ I h) fun u s1 ⟨x, H1, I1, rx, a, ex, d, q1⟩ => ?_)
  subst ex
  obtain rfl : u = Value.ref a := rx
  obtain ⟨t1, t2, _⟩ := isD_at I1 d
  refine ⟨t1, t2, ?_⟩
  rw [m.trees]
  refine Calls.callWith_builtin rfl (Calls.evalArgs_plain (Calls.spliced_cons (thn (he pins s1 σ H1 _ I1 q1) fun iv s2 ⟨y, H2, I2, ry, q2⟩ =>
    Calls.spliced_cons (thn (hf pins s2 σ H2 _ I2 q2) fun fv s3 ⟨z, H3, I3, rz, ov, g, q3⟩ => Calls.spliced_nil ?_))))
  exact d_get2 hu I3 g ry rz fun w' s4 I4 rw' => ⟨_, H3, I4, rw', q3⟩
theorem pe_dpop1 (ho : PE X o td) (he : PE X e ty) (m : M1 X o "pop" apos e cpos) : PE X (.Call (.Attribute o "pop" apos) [e] [] cpos) (tDPop1 td ty) := by
  intro pins s σ H Q I h
  refine wpAny_Call_method m.base m.few m.line PySem.F.plainAttrs_dict PySem.F.slot_dict_pop PySem.F.type_dict_pop (thn (ho pins s σ H _ I h) fun u s1 ⟨x, H1, I1, rx, a, ex, d, q1⟩ => ?_)
  subst ex
  obtain rfl : u = Value.ref a := rx
  obtain ⟨t1, t2, _⟩ := isD_at I1 d
  refine ⟨t1, t2, ?_⟩
  rw [m.trees]
  refine Calls.callWith_builtin rfl (Calls.evalArgs_plain (Calls.spliced_cons (thn (he pins s1 σ H1 _ I1 q1) fun iv s2 ⟨y, H2, I2, ry, kvs, k, v, ea, ey, l, q2⟩ => Calls.spliced_nil ?_)))
  subst ey
  exact d_pop I2 ea ry l (.inl rfl) fun w' s3 I3 rw' => ⟨v, _, I3, rw', q2⟩
theorem pe_dpop2 (ho : PE X o td) (he : PE X e ty) (hf : PE X f tx) (m : M2 X o "pop" apos e f cpos) : PE X (.Call (.Attribute o "pop" apos) [e, f] [] cpos) (tDPop2 td ty tx) := by
  intro pins s σ H Q I h
  refine wpAny_Call_method m.base m.few m.line PySem.F.plainAttrs_dict PySem.F.slot_dict_pop PySem.F.type_dict_pop (thn (ho pins s σ H _ I h) fun u s1 ⟨x, H1, I1, rx, a, ex, d, q1⟩ => ?_)
  subst ex
  obtain rfl : u = Value.ref a := rx
  obtain ⟨t1, t2, _⟩ := isD_at I1 d
  refine ⟨t1, t2, ?_⟩
  rw [m.trees]
  refine Calls.callWith_builtin rfl (Calls.evalArgs_plain (Calls.spliced_cons (thn (he pins s1 σ H1 _ I1 q1) fun iv s2 ⟨y, H2, I2, ry, q2⟩ =>
    Calls.spliced_cons (thn (hf pins s2 σ H2 _ I2 q2) fun fv s3 ⟨z, H3, I3, rz, kvs, k, ea, ey, q3, q4⟩ => Calls.spliced_nil ?_))))
  subst ey
  cases l : valV kvs k with
  | some v => exact d_pop I3 ea ry l (.inr ⟨fv, rfl⟩) fun w' s4 I4 rw' => ⟨v, _, I4, rw', q3 v l⟩
  | none => exact d_popD I3 ea ry l fun s4 I4 => ⟨z, H3, I4, rz, q4 l⟩
end

/-! ### dict(d): a copy -/
section
variable {X : Cx} {pins : List (Addr × Obj)} {σ : St} {H : Hp} {s : Shared} {a : Addr} {kvs : List (Key × V)} {A : Around} {E : Value → Shared → Prop}
theorem d_copyOf {Q : Value → Shared → Prop} (I : Inv X pins σ H s) (e : Rd H a (.dK kvs)) (h : ∀ p s', H p = none → Inv X pins σ (upd H p (.dK kvs)) s' → Q (.ref p) s') : wpAny (model X.prog X.w) A (call (.type "dict") [.ref a]) Q E s := by
  obtain ⟨z, hd, vs, rel, dd⟩ := dk_rd I.hok e
  refine kt_call_dict hd dd (by rw [← rel.length]; exact z) fun h' dd' hs => ?_
  refine h _ _ (I.hok.fresh (Nat.le_refl _)) (I.laid (a := s.heap.objs.size) (o := .dK kvs) (t' := s.toks) (fun b q hq => ?_) (Nat.le_refl _) (dk_new z (beq_eq_false_iff_ne.mpr (Ne.symm (Nat.ne_of_lt I.big))) rel dd'))
  exact (hs.2 b (Nat.ne_of_lt (Heap.lt_size hq))).trans (Heap.get?_push_of_some _ hq)
end


section
variable {X : Cx} {pins : List (Addr × Obj)} {σ : St} {H : Hp} {s : Shared} {a : Addr} {y : V} {u : Value} {A : Around} {E : Value → Shared → Prop}
/-- d[y], not there: a KeyError -/
theorem d_missing {Q : Value → Shared → Prop} (hu : A.units + 1 < cLine) (hh : A.handled = none) (I : Inv X pins σ H s) (g : DGet H a y none) (ry : RelV y u)
    (h : ∀ h' e t', Heap.NewExc s.heap h' e "KeyError" → E (.ref e) { s with heap := h', toks := t' }) : wpAny (model X.prog X.w) A (getItem (.ref a) u) Q E s := by
  rcases g with ⟨kvs, k, e, ey, l⟩ | ⟨kvs, k, b, e, ey, eb, l⟩
  · subst ey
    obtain ⟨z, hd, vs, rel, dd⟩ := dk_rd I.hok e
    have hn : valueAt vs k = none := RelO.none_of (by rw [l]; exact rel.val k)
    exact wpAny_getItem_missing_of (kV_is ry) hd hh dd.mapOf hn fun h' ex ne => h h' ex _ ne
  · subst ey
    cases (show u = Value.ref b from ry)
    obtain ⟨z, hd, xs, rel, dd⟩ := dt_rd I.hok e
    have hn : (atKey xs k).map (·.2) = none := RelO.none_of (by rw [l]; exact rel.val k)
    exact wpAny_getItem_missing_heap (tupleKind_room_in1 hu) (key_of I.hok eb) hd hh dd (Option.map_eq_none_iff.mp hn) fun h' ex ne => h h' ex _ ne
end
end L2


set_option maxHeartbeats 1000000
/-! A pure reading of the programs: data without addresses, expressions and statements as functions. -/
namespace Pu
/-- data -/
inductive D where
  | non | bl (b : Bool) | int (i : Int) | str (s : List Nat) | tup (xs : List D) | lst (xs : List D)
  /-- a dict, its keys and its values in their order -/
  | dct (ks vs : List D)
  /-- an instance of the class c, the names of its fields, their values -/
  | ins (c : String) (ns : List String) (xs : List D)
  /-- an exception of the class c, the names of its fields, their values -/
  | exn (c : String) (ns : List String) (xs : List D)
/-- what comes of a run: a value, an exception, or nothing that is known -/
inductive R (α : Type) where
  | ok (a : α) | exc (x : D) | bad
@[inline] def R.bind {α β : Type} (r : R α) (f : α → R β) : R β := match r with
  | .ok a => f a
  | .exc x => .exc x
  | .bad => .bad
theorem R.bind_ok {α β : Type} (a : α) (f : α → R β) : (R.ok a).bind f = f a := rfl
theorem R.ok_of {α β : Type} {r : R α} {f : α → R β} {b : β} (h : r.bind f = .ok b) : ∃ a, r = .ok a ∧ f a = .ok b := by
  cases r with
  | ok a => exact ⟨a, rfl, h⟩
  | exc x => exact nomatch h
  | bad => exact nomatch h
noncomputable section
open Classical in
def guardR {α : Type} (c : Prop) (r : R α) : R α := if c then r else .bad
theorem guardR_pos {α : Type} {c : Prop} {r : R α} (h : c) : guardR c r = r := if_pos h
theorem guardR_of {α : Type} {c : Prop} {r : R α} {a : α} (h : guardR c r = .ok a) : c ∧ r = .ok a := by
  unfold guardR at h
  split at h
  · exact ⟨by assumption, h⟩
  · exact nomatch h
/-- a slot: a value, or a list of the frame's own that may be changed -/
inductive Sl where
  | v (d : D) | o (xs : List D)
abbrev PSt := List (Option Sl)
abbrev Ex := PSt → R D
inductive Fl where
  | nx (st : PSt) | rt (d : D) | bk (st : PSt) | ct (st : PSt)
abbrev Bd := PSt → R Fl

/-- how long texts and lists may grow here -/
@[irreducible] def big : Nat := 10000000
theorem big_eq : big = 10000000 := by unfold big; rfl
theorem le_big {n : Nat} (h : n ≤ 10000000) : n ≤ big := by rw [big_eq]; exact h
theorem lt_big {n : Nat} (h : n < 10000000) : n < big := by rw [big_eq]; exact h
theorem le_bigI {n : Int} (h : n ≤ 10000000) : n ≤ (big : Int) := by rw [big_eq]; exact h
theorem ge_bigI {n : Int} (h : -10000000 ≤ n) : -(big : Int) ≤ n := by rw [big_eq]; exact h
/-! ### operations -/
def sIx (n d : Nat) : Option Int → Nat
  | none => d
  | some v => if v < 0 then (v + (n : Int)).toNat else min v.toNat n
def ixN (n : Nat) (i : Int) : Option Nat := if 0 ≤ i then (if i < n then some i.toNat else none) else if -(n : Int) ≤ i then some (i + n).toNat else none
def atI {α : Type} (xs : List α) (i : Int) : Option α := (ixN xs.length i).bind fun j => xs[j]?
def cut {α : Type} (xs : List α) (lo hi : Option Int) : List α := (xs.drop (sIx xs.length 0 lo)).take (sIx xs.length xs.length hi - sIx xs.length 0 lo)
def rep {α : Type} (n : Nat) (xs : List α) : List α := (List.replicate n xs).flatten
def ofO {α : Type} : Option α → R α
  | some a => .ok a
  | none => .bad
abbrev Op2 := D → D → R D
def dAdd : Op2
  | .int i, .int j => .ok (.int (i + j))
  | .str x, .str y => guardR (x.length + y.length ≤ big) (.ok (.str (x ++ y)))
  | .lst x, .lst y => guardR (x.length + y.length ≤ big) (.ok (.lst (x ++ y)))
  | _, _ => .bad
def dSub : Op2
  | .int i, .int j => .ok (.int (i - j))
  | _, _ => .bad
def dMul : Op2
  | .int i, .int j => guardR ((-18446744073709551616 < i ∧ i < 18446744073709551616) ∨ (-18446744073709551616 < j ∧ j < 18446744073709551616)) (.ok (.int (i * j)))
  | .str x, .int j => guardR (x.length * j.toNat ≤ big ∧ -4611686018427387904 ≤ j ∧ j < 4611686018427387904) (.ok (.str (rep j.toNat x)))
  | _, _ => .bad
def dFdiv : Op2
  | .int i, .int j => guardR (0 < j ∧ j < 1073741824) (.ok (.int (i / j)))
  | _, _ => .bad
def dMod : Op2
  | .int i, .int j => guardR (0 < j) (.ok (.int (i % j)))
  | _, _ => .bad
def dPow : Op2
  | .int i, .int j => guardR (0 ≤ j ∧ j ≤ 1000000 ∧ i.natAbs < 18446744073709551616) (.ok (.int (i ^ j.toNat)))
  | _, _ => .bad
def dNeg : D → R D
  | .int i => .ok (.int (-i))
  | _ => .bad
def dIx : Op2
  | .lst x, .int i => ofO (atI x i)
  | .tup x, .int i => ofO (atI x i)
  | .str x, .int i => guardR (x.length ≤ big) (ofO ((atI x i).map fun c => .str [c]))
  | _, _ => .bad
mutual
def eqD : D → D → Bool
  | .non, .non => true
  | .bl a, .bl b => a == b
  | .bl a, .int j => (if a then (1 : Int) else 0) == j
  | .int i, .bl b => i == (if b then (1 : Int) else 0)
  | .int i, .int j => i == j
  | .str x, .str y => x == y
  | .tup x, .tup y => eqDs x y
  | .lst x, .lst y => eqDs x y
  | _, _ => false
def eqDs : List D → List D → Bool
  | [], [] => true
  | a :: x, b :: y => eqD a b && eqDs x y
  | _, _ => false
end
mutual
def dep : D → Nat
  | .tup x => deps x + 1
  | .lst x => deps x + 1
  | .non => 0
  | .bl _ => 0
  | .int _ => 0
  | .str _ => 0
  | .dct _ _ => 0
  | .ins _ _ _ => 0
  | .exn _ _ _ => 0
def deps : List D → Nat
  | [] => 0
  | a :: x => max (dep a) (deps x)
end
mutual
/-- data whose == goes by their parts: no dict, no object in them -/
def plain : D → Bool
  | .tup x => plains x
  | .lst x => plains x
  | .non => true
  | .bl _ => true
  | .int _ => true
  | .str _ => true
  | .dct _ _ => false
  | .ins _ _ _ => false
  | .exn _ _ _ => false
def plains : List D → Bool
  | [] => true
  | a :: x => plain a && plains x
end
def lexN : List Nat → List Nat → Bool
  | [], [] => false
  | [], _ :: _ => true
  | _ :: _, [] => false
  | a :: x, b :: y => if a = b then lexN x y else decide (a < b)
def dEq : Op2 := fun a b => guardR (dep a ≤ 64 ∧ plain a = true ∧ plain b = true) (.ok (.bl (eqD a b)))
def dNe : Op2 := fun a b => guardR (dep a ≤ 64 ∧ plain a = true ∧ plain b = true) (.ok (.bl (!eqD a b)))
/-- tuples by their items: the first two that differ -/
def lexD : List D → List D → R Bool
  | [], [] => .ok false
  | [], _ :: _ => .ok true
  | _ :: _, [] => .ok false
  | a :: x, b :: y => if eqD a b = true then lexD x y else match a, b with
    | .int i, .int j => .ok (decide (i < j))
    | .str s, .str t => .ok (decide (s < t))
    | _, _ => .bad
def dLt : Op2
  | .int i, .int j => .ok (.bl (decide (i < j)))
  | .str s, .str t => .ok (.bl (decide (s < t)))
  | .tup x, .tup y => guardR (deps x ≤ 60 ∧ plains x = true ∧ plains y = true) ((lexD x y).bind fun b => .ok (.bl b))
  | _, _ => .bad
def dLe : Op2
  | .int i, .int j => .ok (.bl (decide (i ≤ j)))
  | _, _ => .bad
def dGt : Op2
  | .int i, .int j => .ok (.bl (decide (j < i)))
  | _, _ => .bad
def dGe : Op2
  | .int i, .int j => .ok (.bl (decide (j ≤ i)))
  | _, _ => .bad
def dLen : D → R D
  | .lst x => .ok (.int x.length)
  | .tup x => .ok (.int x.length)
  | .str x => guardR (x.length ≤ big) (.ok (.int x.length))
  | _ => .bad
/-- a value of a built-in kind -/
def bltD : D → Bool
  | .ins _ _ _ => false
  | .exn _ _ _ => false
  | _ => true
def isN : D → Bool
  | .non => true
  | _ => false
def isSt : D → Bool
  | .str _ => true
  | _ => false
def isBl : D → Bool
  | .bl _ => true
  | _ => false
def isIn : D → Bool
  | .bl _ => true
  | .int _ => true
  | _ => false
def isTu : D → Bool
  | .tup _ => true
  | _ => false
def isDc : D → Bool
  | .dct _ _ => true
  | _ => false
def isLs : D → Bool
  | .lst _ => true
  | _ => false

/-! ### texts -/
/-- the first place from lo on at which y stands in x -/
def findN (x y : List Nat) (lo : Nat) : Option Nat := (List.range' lo (x.length + 1 - lo)).find? fun i => decide (i + y.length ≤ x.length) && ((x.drop i).take y.length == y)
def ofFind : Option Nat → Int
  | some i => i
  | none => -1
/-- the outer signs that are in y are left out -/
def stripN (x y : List Nat) : List Nat := (((x.dropWhile fun c => y.contains c).reverse).dropWhile fun c => y.contains c).reverse
abbrev Mop := D → List D → R D
def mFind : Mop
  | .str x, [.str y] => .ok (.int (ofFind (findN x y 0)))
  | .str x, [.str y, .int i] => guardR (0 ≤ i) (.ok (.int (ofFind (findN x y i.toNat))))
  | _, _ => .bad
def mIndex : Mop
  | .str x, [.str y] => (ofO (findN x y 0)).bind fun i => .ok (.int i)
  | _, _ => .bad
def mStrip : Mop
  | .str x, [.str y] => guardR (x.length ≤ big) (.ok (.str (stripN x y)))
  | _, _ => .bad
def mEnds : Mop
  | .str x, [.str y] => .ok (.bl (decide (y.length ≤ x.length) && (x.drop (x.length - y.length) == y)))
  | _, _ => .bad
def dMax2 : D → D → R D
  | .int i, .int j => .ok (.int (if j > i then j else i))
  | _, _ => .bad
def dMin2 : D → D → R D
  | .int i, .int j => .ok (.int (if j < i then j else i))
  | _, _ => .bad
/-- x in y -/
def inD (x : D) (ys : List D) : Bool := ys.any fun y => eqD y x
def dIn : D → D → R D
  | x, .lst ys => guardR (deps ys ≤ 60 ∧ plain x = true ∧ plains ys = true) (.ok (.bl (inD x ys)))
  | x, .tup ys => guardR (deps ys ≤ 60 ∧ plain x = true ∧ plains ys = true) (.ok (.bl (inD x ys)))
  | .str x, .str y => .ok (.bl (findN y x 0).isSome)
  | _, _ => .bad
def dNotIn : D → D → R D
  | x, .lst ys => guardR (deps ys ≤ 60 ∧ plain x = true ∧ plains ys = true) (.ok (.bl (!inD x ys)))
  | x, .tup ys => guardR (deps ys ≤ 60 ∧ plain x = true ∧ plains ys = true) (.ok (.bl (!inD x ys)))
  | .str x, .str y => .ok (.bl (!(findN y x 0).isSome))
  | _, _ => .bad
/-- is: beside None, True, False -/
def dIs : D → D → R D
  | x, .non => .ok (.bl (isN x))
  | .bl a, .bl b => .ok (.bl (a == b))
  | _, _ => .bad
def dIsNot : D → D → R D
  | x, .non => .ok (.bl (!isN x))
  | .bl a, .bl b => .ok (.bl (!(a == b)))
  | _, _ => .bad

/-! ### expressions -/
def eVar (i : Nat) : Ex := fun st => match st[i]? with
  | some (some (.v d)) => .ok d
  | _ => .bad
/-- read at once, not kept -/
def ePeek (i : Nat) : Ex := fun st => match st[i]? with
  | some (some (.v d)) => .ok d
  | some (some (.o xs)) => .ok (.lst xs)
  | _ => .bad
def eC (d : D) : Ex := fun _ => .ok d
def e2 (op : Op2) (f g : Ex) : Ex := fun st => (f st).bind fun x => (g st).bind fun y => op x y
def e1 (op : D → R D) (f : Ex) : Ex := fun st => (f st).bind op
def eB (p : D → Bool) (f : Ex) : Ex := fun st => (f st).bind fun x => guardR (bltD x = true) (.ok (.bl (p x)))
def onB {α : Type} (d : D) (f : Bool → R α) : R α := match d with
  | .bl b => f b
  | _ => .bad
theorem onB_of {α : Type} {d : D} {f : Bool → R α} {a : α} (h : onB d f = .ok a) : ∃ b, d = .bl b ∧ f b = .ok a := by
  cases d <;> first | exact ⟨_, rfl, h⟩ | exact nomatch h
def eAnd (f g : Ex) : Ex := fun st => (f st).bind fun x => onB x fun b => if b = true then g st else .ok (.bl false)
def eOr (f g : Ex) : Ex := fun st => (f st).bind fun x => onB x fun b => if b = true then .ok (.bl true) else g st
def eNot (f : Ex) : Ex := fun st => (f st).bind fun x => onB x fun b => .ok (.bl (!b))
def eIf (c f g : Ex) : Ex := fun st => (c st).bind fun x => onB x fun b => if b = true then f st else g st
abbrev Exs := PSt → R (List D)
def aNil : Exs := fun _ => .ok []
def aCons (f : Ex) (r : Exs) : Exs := fun st => (f st).bind fun x => (r st).bind fun xs => .ok (x :: xs)
def eTup (r : Exs) : Ex := fun st => (r st).bind fun xs => guardR (xs.length ≤ big) (.ok (.tup xs))
def eLst (r : Exs) : Ex := fun st => (r st).bind fun xs => guardR (xs.length ≤ big) (.ok (.lst xs))
def eCall (p : List D → R D) (r : Exs) : Ex := fun st => (r st).bind p
/-- o.m(..) of a text -/
def eMt (m : Mop) (f : Ex) (r : Exs) : Ex := fun st => (f st).bind fun x => (r st).bind fun xs => m x xs
def inI (d : D) {α : Type} (f : Int → R α) : R α := match d with
  | .int i => f i
  | _ => .bad
theorem inI_of {α : Type} {d : D} {f : Int → R α} {a : α} (h : inI d f = .ok a) : ∃ i, d = .int i ∧ f i = .ok a := by
  cases d <;> first | exact ⟨_, rfl, h⟩ | exact nomatch h
abbrev ExO := PSt → R (Option Int)
def oNone : ExO := fun _ => .ok none
def oSome (f : Ex) : ExO := fun st => (f st).bind fun x => inI x fun i => .ok (some i)
def dSl (x : D) (lo hi : Option Int) : R D := match x with
  | .lst xs => .ok (.lst (cut xs lo hi))
  | .str xs => guardR (xs.length ≤ big) (.ok (.str (cut xs lo hi)))
  | _ => .bad
def eSl (f : Ex) (lo hi : ExO) : Ex := fun st => (f st).bind fun x => (lo st).bind fun l => (hi st).bind fun h => dSl x l h

/-! ### what a loop goes through, what it stores into -/
abbrev ItE := PSt → R (List D)
def itE (f : Ex) : ItE := fun st => (f st).bind fun x => match x with
  | .lst xs => .ok xs
  | .tup xs => .ok xs
  | .str xs => guardR (xs.length ≤ big) (.ok (xs.map fun c => .str [c]))
  | _ => .bad
def rangeD (lo : Int) (n : Nat) : List D := (List.range n).map fun (k : Nat) => .int (lo + (k : Int))
def itR1 (f : Ex) : ItE := fun st => (f st).bind fun x => inI x fun j => guardR (-(big : Int) ≤ j ∧ j ≤ (big : Int)) (.ok (rangeD 0 j.toNat))
def itR2 (f g : Ex) : ItE := fun st => (f st).bind fun x => (g st).bind fun y => inI x fun i => inI y fun j => guardR (-(big : Int) ≤ i ∧ i ≤ (big : Int) ∧ -(big : Int) ≤ j ∧ j ≤ (big : Int)) (.ok (rangeD i (j - i).toNat))
abbrev Tg := D → PSt → R PSt
def tgN (i : Nat) : Tg := fun d st => .ok (st.set i (some (.v d)))
def setAll : List Nat → List D → PSt → R PSt
  | [], [], st => .ok st
  | i :: is, d :: ds, st => setAll is ds (st.set i (some (.v d)))
  | _, _, _ => .bad
def tgT (is : List Nat) : Tg := fun d st => match d with
  | .tup xs => setAll is xs st
  | .lst xs => setAll is xs st
  | _ => .bad
def compR (tg : Tg) (c f : Ex) (st : PSt) : List D → R (List D)
  | [] => .ok []
  | d :: ds => (tg d st).bind fun s1 => (c s1).bind fun x => onB x fun b => if b = true then (f s1).bind fun y => (compR tg c f st ds).bind fun ys => .ok (y :: ys) else compR tg c f st ds
def clr (is : List Nat) (st : PSt) : PSt := is.foldl (fun s i => s.set i none) st
/-- is: the block's own names -/
def eComp (is : List Nat) (tg : Tg) (it : ItE) (c f : Ex) : Ex := fun st => (it st).bind fun xs => guardR (xs.length ≤ big) ((compR tg c f (clr is st) xs).bind fun ys => .ok (.lst ys))
def eTrue : Ex := fun _ => .ok (.bl true)

/-! ### statements -/
def onNx (r : R Fl) (f : PSt → R Fl) : R Fl := r.bind fun x => match x with
  | .nx st => f st
  | .rt d => .ok (.rt d)
  | .bk st => .ok (.bk st)
  | .ct st => .ok (.ct st)
def sNext : Bd := fun st => .ok (.nx st)
def sSeq (a b : Bd) : Bd := fun st => onNx (a st) b
def sSet (i : Nat) (f : Ex) : Bd := fun st => (f st).bind fun d => .ok (.nx (st.set i (some (.v d))))
def sSetO (i : Nat) (f : Ex) : Bd := fun st => (f st).bind fun d => match d with
  | .lst xs => .ok (.nx (st.set i (some (.o xs))))
  | _ => .bad
def sTgt (tg : Tg) (f : Ex) : Bd := fun st => (f st).bind fun d => (tg d st).bind fun s1 => .ok (.nx s1)
def sApp (i : Nat) (f : Ex) : Bd := fun st => (f st).bind fun d => match st[i]? with
  | some (some (.o xs)) => guardR (xs.length < big) (.ok (.nx (st.set i (some (.o (xs ++ [d]))))))
  | _ => .bad
def sPut (i : Nat) (g f : Ex) : Bd := fun st => (f st).bind fun d => (g st).bind fun x => inI x fun j => match st[i]? with
  | some (some (.o xs)) => (ofO (ixN xs.length j)).bind fun k => .ok (.nx (st.set i (some (.o (xs.set k d)))))
  | _ => .bad
def fz1 (st : PSt) (i : Nat) : PSt := match st[i]? with
  | some (some (.o xs)) => st.set i (some (.v (.lst xs)))
  | _ => st
def sFz (is : List Nat) (b : Bd) : Bd := fun st => b (is.foldl fz1 st)
def sRet (f : Ex) : Bd := fun st => (f st).bind fun d => .ok (.rt d)
def sRetN : Bd := fun _ => .ok (.rt .non)
def sBrk : Bd := fun st => .ok (.bk st)
def sCt : Bd := fun st => .ok (.ct st)
def sExp (f : Ex) : Bd := fun st => (f st).bind fun _ => .ok (.nx st)
def sIf (c : Ex) (a b : Bd) : Bd := fun st => (c st).bind fun x => onB x fun q => if q = true then a st else b st
def forR (tg : Tg) (body : Bd) : List D → PSt → R Fl
  | [], st => .ok (.nx st)
  | d :: ds, st => (tg d st).bind fun s1 => (body s1).bind fun x => match x with
    | .nx s2 => forR tg body ds s2
    | .ct s2 => forR tg body ds s2
    | .bk s2 => .ok (.nx s2)
    | .rt v => .ok (.rt v)
def sFor (tg : Tg) (it : ItE) (body : Bd) : Bd := fun st => (it st).bind fun xs => forR tg body xs st
def whileR (c : Ex) (body : Bd) : Nat → PSt → R Fl
  | 0, _ => .bad
  | n + 1, st => (c st).bind fun x => onB x fun q => if q = true then (body st).bind fun x => (match x with
    | .nx s2 => whileR c body n s2
    | .ct s2 => whileR c body n s2
    | .bk s2 => .ok (.nx s2)
    | .rt v => .ok (.rt v)) else .ok (.nx st)
def sWhile (n : Nat) (c : Ex) (body : Bd) : Bd := fun st => whileR c body n st
/-- a def: np parameters, n names in all -/
def runD (np n : Nat) (b : Bd) (ds : List D) : R D :=
  guardR (ds.length = np) ((b (ds.map (fun d => some (.v d)) ++ List.replicate (n - np) none)).bind fun x => match x with
    | .nx _ => .ok .non
    | .rt d => .ok d
    | _ => .bad)
end
end Pu

/-! What simp needs to run a pure reading. -/
namespace Pu
@[simp] theorem bg0 : 0 ≤ big := le_big (by decide)
@[simp] theorem bl0 : 0 < big := lt_big (by decide)
@[simp] theorem bi0 : (0 : Int) ≤ (big : Int) := le_bigI (by decide)
@[simp] theorem bj0 : -(big : Int) ≤ (0 : Int) := ge_bigI (by decide)
@[simp] theorem bg1 : 1 ≤ big := le_big (by decide)
@[simp] theorem bl1 : 1 < big := lt_big (by decide)
@[simp] theorem bi1 : (1 : Int) ≤ (big : Int) := le_bigI (by decide)
@[simp] theorem bj1 : -(big : Int) ≤ (1 : Int) := ge_bigI (by decide)
@[simp] theorem bg2 : 2 ≤ big := le_big (by decide)
@[simp] theorem bl2 : 2 < big := lt_big (by decide)
@[simp] theorem bi2 : (2 : Int) ≤ (big : Int) := le_bigI (by decide)
@[simp] theorem bj2 : -(big : Int) ≤ (2 : Int) := ge_bigI (by decide)
@[simp] theorem bg3 : 3 ≤ big := le_big (by decide)
@[simp] theorem bl3 : 3 < big := lt_big (by decide)
@[simp] theorem bi3 : (3 : Int) ≤ (big : Int) := le_bigI (by decide)
@[simp] theorem bj3 : -(big : Int) ≤ (3 : Int) := ge_bigI (by decide)
@[simp] theorem bg4 : 4 ≤ big := le_big (by decide)
@[simp] theorem bl4 : 4 < big := lt_big (by decide)
@[simp] theorem bi4 : (4 : Int) ≤ (big : Int) := le_bigI (by decide)
@[simp] theorem bj4 : -(big : Int) ≤ (4 : Int) := ge_bigI (by decide)
@[simp] theorem bg5 : 5 ≤ big := le_big (by decide)
@[simp] theorem bl5 : 5 < big := lt_big (by decide)
@[simp] theorem bi5 : (5 : Int) ≤ (big : Int) := le_bigI (by decide)
@[simp] theorem bj5 : -(big : Int) ≤ (5 : Int) := ge_bigI (by decide)
@[simp] theorem bg6 : 6 ≤ big := le_big (by decide)
@[simp] theorem bl6 : 6 < big := lt_big (by decide)
@[simp] theorem bi6 : (6 : Int) ≤ (big : Int) := le_bigI (by decide)
@[simp] theorem bj6 : -(big : Int) ≤ (6 : Int) := ge_bigI (by decide)
@[simp] theorem bg7 : 7 ≤ big := le_big (by decide)
@[simp] theorem bl7 : 7 < big := lt_big (by decide)
@[simp] theorem bi7 : (7 : Int) ≤ (big : Int) := le_bigI (by decide)
@[simp] theorem bj7 : -(big : Int) ≤ (7 : Int) := ge_bigI (by decide)
@[simp] theorem bg8 : 8 ≤ big := le_big (by decide)
@[simp] theorem bl8 : 8 < big := lt_big (by decide)
@[simp] theorem bi8 : (8 : Int) ≤ (big : Int) := le_bigI (by decide)
@[simp] theorem bj8 : -(big : Int) ≤ (8 : Int) := ge_bigI (by decide)
@[simp] theorem bg9 : 9 ≤ big := le_big (by decide)
@[simp] theorem bl9 : 9 < big := lt_big (by decide)
@[simp] theorem bi9 : (9 : Int) ≤ (big : Int) := le_bigI (by decide)
@[simp] theorem bj9 : -(big : Int) ≤ (9 : Int) := ge_bigI (by decide)
@[simp] theorem bg10 : 10 ≤ big := le_big (by decide)
@[simp] theorem bl10 : 10 < big := lt_big (by decide)
@[simp] theorem bi10 : (10 : Int) ≤ (big : Int) := le_bigI (by decide)
@[simp] theorem bj10 : -(big : Int) ≤ (10 : Int) := ge_bigI (by decide)
@[simp] theorem bg11 : 11 ≤ big := le_big (by decide)
@[simp] theorem bl11 : 11 < big := lt_big (by decide)
@[simp] theorem bi11 : (11 : Int) ≤ (big : Int) := le_bigI (by decide)
@[simp] theorem bj11 : -(big : Int) ≤ (11 : Int) := ge_bigI (by decide)
@[simp] theorem bg12 : 12 ≤ big := le_big (by decide)
@[simp] theorem bl12 : 12 < big := lt_big (by decide)
@[simp] theorem bi12 : (12 : Int) ≤ (big : Int) := le_bigI (by decide)
@[simp] theorem bj12 : -(big : Int) ≤ (12 : Int) := ge_bigI (by decide)
@[simp] theorem bg13 : 13 ≤ big := le_big (by decide)
@[simp] theorem bl13 : 13 < big := lt_big (by decide)
@[simp] theorem bi13 : (13 : Int) ≤ (big : Int) := le_bigI (by decide)
@[simp] theorem bj13 : -(big : Int) ≤ (13 : Int) := ge_bigI (by decide)
@[simp] theorem bg14 : 14 ≤ big := le_big (by decide)
@[simp] theorem bl14 : 14 < big := lt_big (by decide)
@[simp] theorem bi14 : (14 : Int) ≤ (big : Int) := le_bigI (by decide)
@[simp] theorem bj14 : -(big : Int) ≤ (14 : Int) := ge_bigI (by decide)
@[simp] theorem bg15 : 15 ≤ big := le_big (by decide)
@[simp] theorem bl15 : 15 < big := lt_big (by decide)
@[simp] theorem bi15 : (15 : Int) ≤ (big : Int) := le_bigI (by decide)
@[simp] theorem bj15 : -(big : Int) ≤ (15 : Int) := ge_bigI (by decide)
@[simp] theorem bg16 : 16 ≤ big := le_big (by decide)
@[simp] theorem bl16 : 16 < big := lt_big (by decide)
@[simp] theorem bi16 : (16 : Int) ≤ (big : Int) := le_bigI (by decide)
@[simp] theorem bj16 : -(big : Int) ≤ (16 : Int) := ge_bigI (by decide)
@[simp] theorem bg17 : 17 ≤ big := le_big (by decide)
@[simp] theorem bl17 : 17 < big := lt_big (by decide)
@[simp] theorem bi17 : (17 : Int) ≤ (big : Int) := le_bigI (by decide)
@[simp] theorem bj17 : -(big : Int) ≤ (17 : Int) := ge_bigI (by decide)
@[simp] theorem bg18 : 18 ≤ big := le_big (by decide)
@[simp] theorem bl18 : 18 < big := lt_big (by decide)
@[simp] theorem bi18 : (18 : Int) ≤ (big : Int) := le_bigI (by decide)
@[simp] theorem bj18 : -(big : Int) ≤ (18 : Int) := ge_bigI (by decide)
@[simp] theorem bg19 : 19 ≤ big := le_big (by decide)
@[simp] theorem bl19 : 19 < big := lt_big (by decide)
@[simp] theorem bi19 : (19 : Int) ≤ (big : Int) := le_bigI (by decide)
@[simp] theorem bj19 : -(big : Int) ≤ (19 : Int) := ge_bigI (by decide)
@[simp] theorem bg20 : 20 ≤ big := le_big (by decide)
@[simp] theorem bl20 : 20 < big := lt_big (by decide)
@[simp] theorem bi20 : (20 : Int) ≤ (big : Int) := le_bigI (by decide)
@[simp] theorem bj20 : -(big : Int) ≤ (20 : Int) := ge_bigI (by decide)
@[simp] theorem bg21 : 21 ≤ big := le_big (by decide)
@[simp] theorem bl21 : 21 < big := lt_big (by decide)
@[simp] theorem bi21 : (21 : Int) ≤ (big : Int) := le_bigI (by decide)
@[simp] theorem bj21 : -(big : Int) ≤ (21 : Int) := ge_bigI (by decide)
@[simp] theorem bg22 : 22 ≤ big := le_big (by decide)
@[simp] theorem bl22 : 22 < big := lt_big (by decide)
@[simp] theorem bi22 : (22 : Int) ≤ (big : Int) := le_bigI (by decide)
@[simp] theorem bj22 : -(big : Int) ≤ (22 : Int) := ge_bigI (by decide)
@[simp] theorem bg23 : 23 ≤ big := le_big (by decide)
@[simp] theorem bl23 : 23 < big := lt_big (by decide)
@[simp] theorem bi23 : (23 : Int) ≤ (big : Int) := le_bigI (by decide)
@[simp] theorem bj23 : -(big : Int) ≤ (23 : Int) := ge_bigI (by decide)
@[simp] theorem bg24 : 24 ≤ big := le_big (by decide)
@[simp] theorem bl24 : 24 < big := lt_big (by decide)
@[simp] theorem bi24 : (24 : Int) ≤ (big : Int) := le_bigI (by decide)
@[simp] theorem bj24 : -(big : Int) ≤ (24 : Int) := ge_bigI (by decide)
@[simp] theorem bg25 : 25 ≤ big := le_big (by decide)
@[simp] theorem bl25 : 25 < big := lt_big (by decide)
@[simp] theorem bi25 : (25 : Int) ≤ (big : Int) := le_bigI (by decide)
@[simp] theorem bj25 : -(big : Int) ≤ (25 : Int) := ge_bigI (by decide)
@[simp] theorem bg26 : 26 ≤ big := le_big (by decide)
@[simp] theorem bl26 : 26 < big := lt_big (by decide)
@[simp] theorem bi26 : (26 : Int) ≤ (big : Int) := le_bigI (by decide)
@[simp] theorem bj26 : -(big : Int) ≤ (26 : Int) := ge_bigI (by decide)
@[simp] theorem bg27 : 27 ≤ big := le_big (by decide)
@[simp] theorem bl27 : 27 < big := lt_big (by decide)
@[simp] theorem bi27 : (27 : Int) ≤ (big : Int) := le_bigI (by decide)
@[simp] theorem bj27 : -(big : Int) ≤ (27 : Int) := ge_bigI (by decide)
@[simp] theorem bg28 : 28 ≤ big := le_big (by decide)
@[simp] theorem bl28 : 28 < big := lt_big (by decide)
@[simp] theorem bi28 : (28 : Int) ≤ (big : Int) := le_bigI (by decide)
@[simp] theorem bj28 : -(big : Int) ≤ (28 : Int) := ge_bigI (by decide)
@[simp] theorem bg29 : 29 ≤ big := le_big (by decide)
@[simp] theorem bl29 : 29 < big := lt_big (by decide)
@[simp] theorem bi29 : (29 : Int) ≤ (big : Int) := le_bigI (by decide)
@[simp] theorem bj29 : -(big : Int) ≤ (29 : Int) := ge_bigI (by decide)
@[simp] theorem bg30 : 30 ≤ big := le_big (by decide)
@[simp] theorem bl30 : 30 < big := lt_big (by decide)
@[simp] theorem bi30 : (30 : Int) ≤ (big : Int) := le_bigI (by decide)
@[simp] theorem bj30 : -(big : Int) ≤ (30 : Int) := ge_bigI (by decide)
@[simp] theorem bg31 : 31 ≤ big := le_big (by decide)
@[simp] theorem bl31 : 31 < big := lt_big (by decide)
@[simp] theorem bi31 : (31 : Int) ≤ (big : Int) := le_bigI (by decide)
@[simp] theorem bj31 : -(big : Int) ≤ (31 : Int) := ge_bigI (by decide)
@[simp] theorem bg32 : 32 ≤ big := le_big (by decide)
@[simp] theorem bl32 : 32 < big := lt_big (by decide)
@[simp] theorem bi32 : (32 : Int) ≤ (big : Int) := le_bigI (by decide)
@[simp] theorem bj32 : -(big : Int) ≤ (32 : Int) := ge_bigI (by decide)
@[simp] theorem bg33 : 33 ≤ big := le_big (by decide)
@[simp] theorem bl33 : 33 < big := lt_big (by decide)
@[simp] theorem bi33 : (33 : Int) ≤ (big : Int) := le_bigI (by decide)
@[simp] theorem bj33 : -(big : Int) ≤ (33 : Int) := ge_bigI (by decide)
@[simp] theorem bg34 : 34 ≤ big := le_big (by decide)
@[simp] theorem bl34 : 34 < big := lt_big (by decide)
@[simp] theorem bi34 : (34 : Int) ≤ (big : Int) := le_bigI (by decide)
@[simp] theorem bj34 : -(big : Int) ≤ (34 : Int) := ge_bigI (by decide)
@[simp] theorem bg35 : 35 ≤ big := le_big (by decide)
@[simp] theorem bl35 : 35 < big := lt_big (by decide)
@[simp] theorem bi35 : (35 : Int) ≤ (big : Int) := le_bigI (by decide)
@[simp] theorem bj35 : -(big : Int) ≤ (35 : Int) := ge_bigI (by decide)
@[simp] theorem bg36 : 36 ≤ big := le_big (by decide)
@[simp] theorem bl36 : 36 < big := lt_big (by decide)
@[simp] theorem bi36 : (36 : Int) ≤ (big : Int) := le_bigI (by decide)
@[simp] theorem bj36 : -(big : Int) ≤ (36 : Int) := ge_bigI (by decide)
@[simp] theorem bg37 : 37 ≤ big := le_big (by decide)
@[simp] theorem bl37 : 37 < big := lt_big (by decide)
@[simp] theorem bi37 : (37 : Int) ≤ (big : Int) := le_bigI (by decide)
@[simp] theorem bj37 : -(big : Int) ≤ (37 : Int) := ge_bigI (by decide)
@[simp] theorem bg38 : 38 ≤ big := le_big (by decide)
@[simp] theorem bl38 : 38 < big := lt_big (by decide)
@[simp] theorem bi38 : (38 : Int) ≤ (big : Int) := le_bigI (by decide)
@[simp] theorem bj38 : -(big : Int) ≤ (38 : Int) := ge_bigI (by decide)
@[simp] theorem bg39 : 39 ≤ big := le_big (by decide)
@[simp] theorem bl39 : 39 < big := lt_big (by decide)
@[simp] theorem bi39 : (39 : Int) ≤ (big : Int) := le_bigI (by decide)
@[simp] theorem bj39 : -(big : Int) ≤ (39 : Int) := ge_bigI (by decide)
@[simp] theorem bg40 : 40 ≤ big := le_big (by decide)
@[simp] theorem bl40 : 40 < big := lt_big (by decide)
@[simp] theorem bi40 : (40 : Int) ≤ (big : Int) := le_bigI (by decide)
@[simp] theorem bj40 : -(big : Int) ≤ (40 : Int) := ge_bigI (by decide)
@[simp] theorem bg41 : 41 ≤ big := le_big (by decide)
@[simp] theorem bl41 : 41 < big := lt_big (by decide)
@[simp] theorem bi41 : (41 : Int) ≤ (big : Int) := le_bigI (by decide)
@[simp] theorem bj41 : -(big : Int) ≤ (41 : Int) := ge_bigI (by decide)
@[simp] theorem bg42 : 42 ≤ big := le_big (by decide)
@[simp] theorem bl42 : 42 < big := lt_big (by decide)
@[simp] theorem bi42 : (42 : Int) ≤ (big : Int) := le_bigI (by decide)
@[simp] theorem bj42 : -(big : Int) ≤ (42 : Int) := ge_bigI (by decide)
@[simp] theorem bg43 : 43 ≤ big := le_big (by decide)
@[simp] theorem bl43 : 43 < big := lt_big (by decide)
@[simp] theorem bi43 : (43 : Int) ≤ (big : Int) := le_bigI (by decide)
@[simp] theorem bj43 : -(big : Int) ≤ (43 : Int) := ge_bigI (by decide)
@[simp] theorem bg44 : 44 ≤ big := le_big (by decide)
@[simp] theorem bl44 : 44 < big := lt_big (by decide)
@[simp] theorem bi44 : (44 : Int) ≤ (big : Int) := le_bigI (by decide)
@[simp] theorem bj44 : -(big : Int) ≤ (44 : Int) := ge_bigI (by decide)
@[simp] theorem bg45 : 45 ≤ big := le_big (by decide)
@[simp] theorem bl45 : 45 < big := lt_big (by decide)
@[simp] theorem bi45 : (45 : Int) ≤ (big : Int) := le_bigI (by decide)
@[simp] theorem bj45 : -(big : Int) ≤ (45 : Int) := ge_bigI (by decide)
@[simp] theorem bg46 : 46 ≤ big := le_big (by decide)
@[simp] theorem bl46 : 46 < big := lt_big (by decide)
@[simp] theorem bi46 : (46 : Int) ≤ (big : Int) := le_bigI (by decide)
@[simp] theorem bj46 : -(big : Int) ≤ (46 : Int) := ge_bigI (by decide)
@[simp] theorem bg47 : 47 ≤ big := le_big (by decide)
@[simp] theorem bl47 : 47 < big := lt_big (by decide)
@[simp] theorem bi47 : (47 : Int) ≤ (big : Int) := le_bigI (by decide)
@[simp] theorem bj47 : -(big : Int) ≤ (47 : Int) := ge_bigI (by decide)
@[simp] theorem bg48 : 48 ≤ big := le_big (by decide)
@[simp] theorem bl48 : 48 < big := lt_big (by decide)
@[simp] theorem bi48 : (48 : Int) ≤ (big : Int) := le_bigI (by decide)
@[simp] theorem bj48 : -(big : Int) ≤ (48 : Int) := ge_bigI (by decide)
@[simp] theorem bg49 : 49 ≤ big := le_big (by decide)
@[simp] theorem bl49 : 49 < big := lt_big (by decide)
@[simp] theorem bi49 : (49 : Int) ≤ (big : Int) := le_bigI (by decide)
@[simp] theorem bj49 : -(big : Int) ≤ (49 : Int) := ge_bigI (by decide)
@[simp] theorem bg50 : 50 ≤ big := le_big (by decide)
@[simp] theorem bl50 : 50 < big := lt_big (by decide)
@[simp] theorem bi50 : (50 : Int) ≤ (big : Int) := le_bigI (by decide)
@[simp] theorem bj50 : -(big : Int) ≤ (50 : Int) := ge_bigI (by decide)
@[simp] theorem bg51 : 51 ≤ big := le_big (by decide)
@[simp] theorem bl51 : 51 < big := lt_big (by decide)
@[simp] theorem bi51 : (51 : Int) ≤ (big : Int) := le_bigI (by decide)
@[simp] theorem bj51 : -(big : Int) ≤ (51 : Int) := ge_bigI (by decide)
@[simp] theorem bg52 : 52 ≤ big := le_big (by decide)
@[simp] theorem bl52 : 52 < big := lt_big (by decide)
@[simp] theorem bi52 : (52 : Int) ≤ (big : Int) := le_bigI (by decide)
@[simp] theorem bj52 : -(big : Int) ≤ (52 : Int) := ge_bigI (by decide)
@[simp] theorem bg53 : 53 ≤ big := le_big (by decide)
@[simp] theorem bl53 : 53 < big := lt_big (by decide)
@[simp] theorem bi53 : (53 : Int) ≤ (big : Int) := le_bigI (by decide)
@[simp] theorem bj53 : -(big : Int) ≤ (53 : Int) := ge_bigI (by decide)
@[simp] theorem bg54 : 54 ≤ big := le_big (by decide)
@[simp] theorem bl54 : 54 < big := lt_big (by decide)
@[simp] theorem bi54 : (54 : Int) ≤ (big : Int) := le_bigI (by decide)
@[simp] theorem bj54 : -(big : Int) ≤ (54 : Int) := ge_bigI (by decide)
@[simp] theorem bg55 : 55 ≤ big := le_big (by decide)
@[simp] theorem bl55 : 55 < big := lt_big (by decide)
@[simp] theorem bi55 : (55 : Int) ≤ (big : Int) := le_bigI (by decide)
@[simp] theorem bj55 : -(big : Int) ≤ (55 : Int) := ge_bigI (by decide)
@[simp] theorem bg56 : 56 ≤ big := le_big (by decide)
@[simp] theorem bl56 : 56 < big := lt_big (by decide)
@[simp] theorem bi56 : (56 : Int) ≤ (big : Int) := le_bigI (by decide)
@[simp] theorem bj56 : -(big : Int) ≤ (56 : Int) := ge_bigI (by decide)
@[simp] theorem bg57 : 57 ≤ big := le_big (by decide)
@[simp] theorem bl57 : 57 < big := lt_big (by decide)
@[simp] theorem bi57 : (57 : Int) ≤ (big : Int) := le_bigI (by decide)
@[simp] theorem bj57 : -(big : Int) ≤ (57 : Int) := ge_bigI (by decide)
@[simp] theorem bg58 : 58 ≤ big := le_big (by decide)
@[simp] theorem bl58 : 58 < big := lt_big (by decide)
@[simp] theorem bi58 : (58 : Int) ≤ (big : Int) := le_bigI (by decide)
@[simp] theorem bj58 : -(big : Int) ≤ (58 : Int) := ge_bigI (by decide)
@[simp] theorem bg59 : 59 ≤ big := le_big (by decide)
@[simp] theorem bl59 : 59 < big := lt_big (by decide)
@[simp] theorem bi59 : (59 : Int) ≤ (big : Int) := le_bigI (by decide)
@[simp] theorem bj59 : -(big : Int) ≤ (59 : Int) := ge_bigI (by decide)
@[simp] theorem bg60 : 60 ≤ big := le_big (by decide)
@[simp] theorem bl60 : 60 < big := lt_big (by decide)
@[simp] theorem bi60 : (60 : Int) ≤ (big : Int) := le_bigI (by decide)
@[simp] theorem bj60 : -(big : Int) ≤ (60 : Int) := ge_bigI (by decide)
@[simp] theorem bg61 : 61 ≤ big := le_big (by decide)
@[simp] theorem bl61 : 61 < big := lt_big (by decide)
@[simp] theorem bi61 : (61 : Int) ≤ (big : Int) := le_bigI (by decide)
@[simp] theorem bj61 : -(big : Int) ≤ (61 : Int) := ge_bigI (by decide)
@[simp] theorem bg62 : 62 ≤ big := le_big (by decide)
@[simp] theorem bl62 : 62 < big := lt_big (by decide)
@[simp] theorem bi62 : (62 : Int) ≤ (big : Int) := le_bigI (by decide)
@[simp] theorem bj62 : -(big : Int) ≤ (62 : Int) := ge_bigI (by decide)
@[simp] theorem bg63 : 63 ≤ big := le_big (by decide)
@[simp] theorem bl63 : 63 < big := lt_big (by decide)
@[simp] theorem bi63 : (63 : Int) ≤ (big : Int) := le_bigI (by decide)
@[simp] theorem bj63 : -(big : Int) ≤ (63 : Int) := ge_bigI (by decide)
@[simp] theorem bg64 : 64 ≤ big := le_big (by decide)
@[simp] theorem bl64 : 64 < big := lt_big (by decide)
@[simp] theorem bi64 : (64 : Int) ≤ (big : Int) := le_bigI (by decide)
@[simp] theorem bj64 : -(big : Int) ≤ (64 : Int) := ge_bigI (by decide)
@[simp] theorem bind_ok' {α β : Type} (a : α) (f : α → R β) : (R.ok a).bind f = f a := rfl
@[simp] theorem bind_bad' {α β : Type} (f : α → R β) : (R.bad : R α).bind f = .bad := rfl
@[simp] theorem onB_bl {α : Type} (b : Bool) (f : Bool → R α) : onB (.bl b) f = f b := rfl
@[simp] theorem inI_int {α : Type} (i : Int) (f : Int → R α) : inI (.int i) f = f i := rfl
@[simp] theorem onNx_nx (st : PSt) (f : PSt → R Fl) : onNx (.ok (.nx st)) f = f st := rfl
@[simp] theorem onNx_rt (d : D) (f : PSt → R Fl) : onNx (.ok (.rt d)) f = .ok (.rt d) := rfl
@[simp] theorem eVar_ap (i : Nat) (st : PSt) : eVar i st = (match st[i]? with | some (some (.v d)) => R.ok d | _ => .bad) := rfl
@[simp] theorem ePeek_ap (i : Nat) (st : PSt) : ePeek i st = (match st[i]? with | some (some (.v d)) => R.ok d | some (some (.o xs)) => .ok (.lst xs) | _ => .bad) := rfl
@[simp] theorem eC_ap (d : D) (st : PSt) : eC d st = .ok d := rfl
@[simp] theorem e2_ap (op : Op2) (f g : Ex) (st : PSt) : e2 op f g st = (f st).bind fun x => (g st).bind fun y => op x y := rfl
@[simp] theorem e1_ap (op : D → R D) (f : Ex) (st : PSt) : e1 op f st = (f st).bind op := rfl
@[simp] theorem eB_ap (p : D → Bool) (f : Ex) (st : PSt) : eB p f st = (f st).bind fun x => guardR (bltD x = true) (.ok (.bl (p x))) := rfl
@[simp] theorem eAnd_ap (f g : Ex) (st : PSt) : eAnd f g st = (f st).bind fun x => onB x fun b => if b = true then g st else .ok (.bl false) := rfl
@[simp] theorem eOr_ap (f g : Ex) (st : PSt) : eOr f g st = (f st).bind fun x => onB x fun b => if b = true then .ok (.bl true) else g st := rfl
@[simp] theorem eNot_ap (f : Ex) (st : PSt) : eNot f st = (f st).bind fun x => onB x fun b => .ok (.bl (!b)) := rfl
@[simp] theorem eIf_ap (c f g : Ex) (st : PSt) : eIf c f g st = (c st).bind fun x => onB x fun b => if b = true then f st else g st := rfl
@[simp] theorem aNil_ap (st : PSt) : aNil st = .ok [] := rfl
@[simp] theorem aCons_ap (f : Ex) (r : Exs) (st : PSt) : aCons f r st = (f st).bind fun x => (r st).bind fun xs => .ok (x :: xs) := rfl
@[simp] theorem eTup_ap (r : Exs) (st : PSt) : eTup r st = (r st).bind fun xs => guardR (xs.length ≤ big) (.ok (.tup xs)) := rfl
@[simp] theorem eLst_ap (r : Exs) (st : PSt) : eLst r st = (r st).bind fun xs => guardR (xs.length ≤ big) (.ok (.lst xs)) := rfl
@[simp] theorem eCall_ap (p : List D → R D) (r : Exs) (st : PSt) : eCall p r st = (r st).bind p := rfl
@[simp] theorem eMt_ap (m : Mop) (f : Ex) (r : Exs) (st : PSt) : eMt m f r st = (f st).bind fun x => (r st).bind fun xs => m x xs := rfl
@[simp] theorem oNone_ap (st : PSt) : oNone st = .ok none := rfl
@[simp] theorem oSome_ap (f : Ex) (st : PSt) : oSome f st = (f st).bind fun x => inI x fun i => .ok (some i) := rfl
@[simp] theorem eSl_ap (f : Ex) (lo hi : ExO) (st : PSt) : eSl f lo hi st = (f st).bind fun x => (lo st).bind fun l => (hi st).bind fun h => dSl x l h := rfl
@[simp] theorem itR1_ap (f : Ex) (st : PSt) : itR1 f st = (f st).bind fun x => inI x fun j => guardR (-(big : Int) ≤ j ∧ j ≤ (big : Int)) (.ok (rangeD 0 j.toNat)) := rfl
@[simp] theorem itR2_ap (f g : Ex) (st : PSt) : itR2 f g st = (f st).bind fun x => (g st).bind fun y => inI x fun i => inI y fun j => guardR (-(big : Int) ≤ i ∧ i ≤ (big : Int) ∧ -(big : Int) ≤ j ∧ j ≤ (big : Int)) (.ok (rangeD i (j - i).toNat)) := rfl
@[simp] theorem forR_nil (tg : Tg) (b : Bd) (st : PSt) : forR tg b [] st = .ok (.nx st) := rfl
theorem forR_cons (tg : Tg) (b : Bd) (d : D) (ds : List D) (st : PSt) : forR tg b (d :: ds) st = (tg d st).bind fun s1 => (b s1).bind fun x => match x with
    | .nx s2 => forR tg b ds s2
    | .ct s2 => forR tg b ds s2
    | .bk s2 => .ok (.nx s2)
    | .rt v => .ok (.rt v) := rfl
theorem whileR_succ (c : Ex) (b : Bd) (n : Nat) (st : PSt) : whileR c b (n + 1) st = (c st).bind fun x => onB x fun q => if q = true then (b st).bind fun x => (match x with
    | .nx s2 => whileR c b n s2
    | .ct s2 => whileR c b n s2
    | .bk s2 => .ok (.nx s2)
    | .rt v => .ok (.rt v)) else .ok (.nx st) := rfl
@[simp] theorem itE_ap (f : Ex) (st : PSt) : itE f st = (f st).bind fun x => match x with | .lst xs => .ok xs | .tup xs => .ok xs | .str xs => guardR (xs.length ≤ big) (.ok (xs.map fun c => .str [c])) | _ => .bad := rfl
@[simp] theorem sWhile_ap (n : Nat) (c : Ex) (b : Bd) (st : PSt) : sWhile n c b st = whileR c b n st := rfl
@[simp] theorem sApp_ap (i : Nat) (f : Ex) (st : PSt) : sApp i f st = (f st).bind fun d => match st[i]? with | some (some (.o xs)) => guardR (xs.length < big) (.ok (.nx (st.set i (some (.o (xs ++ [d])))))) | _ => .bad := rfl
@[simp] theorem sSetO_ap (i : Nat) (f : Ex) (st : PSt) : sSetO i f st = (f st).bind fun d => match d with | .lst xs => .ok (.nx (st.set i (some (.o xs)))) | _ => .bad := rfl
@[simp] theorem sPut_ap (i : Nat) (g f : Ex) (st : PSt) : sPut i g f st = (f st).bind fun d => (g st).bind fun x => inI x fun j => match st[i]? with | some (some (.o xs)) => (ofO (ixN xs.length j)).bind fun k => .ok (.nx (st.set i (some (.o (xs.set k d))))) | _ => .bad := rfl
@[simp] theorem sFz_ap (is : List Nat) (b : Bd) (st : PSt) : sFz is b st = b (is.foldl fz1 st) := rfl
@[simp] theorem fz1_ap (st : PSt) (i : Nat) : fz1 st i = (match st[i]? with | some (some (.o xs)) => st.set i (some (.v (.lst xs))) | _ => st) := rfl
@[simp] theorem sBrk_ap (st : PSt) : sBrk st = .ok (.bk st) := rfl
@[simp] theorem sCt_ap (st : PSt) : sCt st = .ok (.ct st) := rfl
@[simp] theorem sRetN_ap (st : PSt) : sRetN st = .ok (.rt .non) := rfl
@[simp] theorem sExp_ap (f : Ex) (st : PSt) : sExp f st = (f st).bind fun _ => .ok (.nx st) := rfl
@[simp] theorem onNx_bk (st : PSt) (f : PSt → R Fl) : onNx (.ok (.bk st)) f = .ok (.bk st) := rfl
@[simp] theorem onNx_ct (st : PSt) (f : PSt → R Fl) : onNx (.ok (.ct st)) f = .ok (.ct st) := rfl
@[simp] theorem onNx_bad (f : PSt → R Fl) : onNx .bad f = .bad := rfl
@[simp] theorem dNeg_int (i : Int) : dNeg (.int i) = .ok (.int (-i)) := rfl
@[simp] theorem mFind_1 (x y : List Nat) : mFind (.str x) [.str y] = .ok (.int (ofFind (findN x y 0))) := rfl
@[simp] theorem mFind_2 (x y : List Nat) (i : Int) : mFind (.str x) [.str y, .int i] = guardR (0 ≤ i) (.ok (.int (ofFind (findN x y i.toNat)))) := rfl
@[simp] theorem mIndex_1 (x y : List Nat) : mIndex (.str x) [.str y] = (ofO (findN x y 0)).bind fun i => .ok (.int i) := rfl
@[simp] theorem mStrip_1 (x y : List Nat) : mStrip (.str x) [.str y] = guardR (x.length ≤ big) (.ok (.str (stripN x y))) := rfl
@[simp] theorem mEnds_1 (x y : List Nat) : mEnds (.str x) [.str y] = .ok (.bl (decide (y.length ≤ x.length) && (x.drop (x.length - y.length) == y))) := rfl
@[simp] theorem ofFind_some (i : Nat) : ofFind (some i) = i := rfl
@[simp] theorem ofFind_none : ofFind none = -1 := rfl
@[simp] theorem dMax2_int (i j : Int) : dMax2 (.int i) (.int j) = .ok (.int (if j > i then j else i)) := rfl
@[simp] theorem dMin2_int (i j : Int) : dMin2 (.int i) (.int j) = .ok (.int (if j < i then j else i)) := rfl
@[simp] theorem dIn_str (x y : List Nat) : dIn (.str x) (.str y) = .ok (.bl (findN y x 0).isSome) := rfl
@[simp] theorem dNotIn_str (x y : List Nat) : dNotIn (.str x) (.str y) = .ok (.bl (!(findN y x 0).isSome)) := rfl
@[simp] theorem dIn_lst (x : D) (ys : List D) : dIn x (.lst ys) = guardR (deps ys ≤ 60 ∧ plain x = true ∧ plains ys = true) (.ok (.bl (inD x ys))) := by cases x <;> rfl
@[simp] theorem dIn_tup (x : D) (ys : List D) : dIn x (.tup ys) = guardR (deps ys ≤ 60 ∧ plain x = true ∧ plains ys = true) (.ok (.bl (inD x ys))) := by cases x <;> rfl
@[simp] theorem dNotIn_lst (x : D) (ys : List D) : dNotIn x (.lst ys) = guardR (deps ys ≤ 60 ∧ plain x = true ∧ plains ys = true) (.ok (.bl (!inD x ys))) := by cases x <;> rfl
@[simp] theorem dNotIn_tup (x : D) (ys : List D) : dNotIn x (.tup ys) = guardR (deps ys ≤ 60 ∧ plain x = true ∧ plains ys = true) (.ok (.bl (!inD x ys))) := by cases x <;> rfl
@[simp] theorem dIs_non (x : D) : dIs x .non = .ok (.bl (isN x)) := by cases x <;> rfl
@[simp] theorem dIs_bl (a b : Bool) : dIs (.bl a) (.bl b) = .ok (.bl (a == b)) := rfl
@[simp] theorem dIsNot_non (x : D) : dIsNot x .non = .ok (.bl (!isN x)) := by cases x <;> rfl
@[simp] theorem dLen_tup (x : List D) : dLen (.tup x) = .ok (.int x.length) := rfl
@[simp] theorem dGe_int (i j : Int) : dGe (.int i) (.int j) = .ok (.bl (decide (j ≤ i))) := rfl
@[simp] theorem dAdd_lst (x y : List D) : dAdd (.lst x) (.lst y) = guardR (x.length + y.length ≤ big) (.ok (.lst (x ++ y))) := rfl
@[simp] theorem dSl_lst (x : List D) (l h : Option Int) : dSl (.lst x) l h = .ok (.lst (cut x l h)) := rfl
@[simp] theorem bltD_non : bltD .non = true := rfl
@[simp] theorem bltD_bl (b : Bool) : bltD (.bl b) = true := rfl
@[simp] theorem bltD_int (b : Int) : bltD (.int b) = true := rfl
@[simp] theorem bltD_str (b : List Nat) : bltD (.str b) = true := rfl
@[simp] theorem bltD_tup (b : List D) : bltD (.tup b) = true := rfl
@[simp] theorem bltD_lst (b : List D) : bltD (.lst b) = true := rfl
@[simp] theorem bltD_dct (a b : List D) : bltD (.dct a b) = true := rfl
@[simp] theorem tgN_ap (i : Nat) (d : D) (st : PSt) : tgN i d st = .ok (st.set i (some (.v d))) := rfl
@[simp] theorem tgT_ap (is : List Nat) (xs : List D) (st : PSt) : tgT is (.tup xs) st = setAll is xs st := rfl
@[simp] theorem tgT_apL (is : List Nat) (xs : List D) (st : PSt) : tgT is (.lst xs) st = setAll is xs st := rfl
@[simp] theorem setAll_nil (st : PSt) : setAll [] [] st = .ok st := rfl
@[simp] theorem setAll_cons (i : Nat) (is : List Nat) (d : D) (ds : List D) (st : PSt) : setAll (i :: is) (d :: ds) st = setAll is ds (st.set i (some (.v d))) := rfl
@[simp] theorem clr_nil (st : PSt) : clr [] st = st := rfl
@[simp] theorem clr_cons (i : Nat) (is : List Nat) (st : PSt) : clr (i :: is) st = clr is (st.set i none) := rfl
@[simp] theorem compR_nil (tg : Tg) (c f : Ex) (st : PSt) : compR tg c f st [] = .ok [] := rfl
theorem compR_cons (tg : Tg) (c f : Ex) (st : PSt) (d : D) (ds : List D) : compR tg c f st (d :: ds) = (tg d st).bind fun s1 => (c s1).bind fun x => onB x fun b => if b = true then (f s1).bind fun y => (compR tg c f st ds).bind fun ys => .ok (y :: ys) else compR tg c f st ds := rfl
@[simp] theorem eTrue_ap (st : PSt) : eTrue st = .ok (.bl true) := rfl
@[simp] theorem eComp_ap (is : List Nat) (tg : Tg) (it : ItE) (c f : Ex) (st : PSt) : eComp is tg it c f st = (it st).bind fun xs => guardR (xs.length ≤ big) ((compR tg c f (clr is st) xs).bind fun ys => .ok (.lst ys)) := rfl
@[simp] theorem sNext_ap (st : PSt) : sNext st = .ok (.nx st) := rfl
@[simp] theorem sSeq_ap (a b : Bd) (st : PSt) : sSeq a b st = onNx (a st) b := rfl
@[simp] theorem sSet_ap (i : Nat) (f : Ex) (st : PSt) : sSet i f st = (f st).bind fun d => .ok (.nx (st.set i (some (.v d)))) := rfl
@[simp] theorem sTgt_ap (tg : Tg) (f : Ex) (st : PSt) : sTgt tg f st = (f st).bind fun d => (tg d st).bind fun s1 => .ok (.nx s1) := rfl
@[simp] theorem sRet_ap (f : Ex) (st : PSt) : sRet f st = (f st).bind fun d => .ok (.rt d) := rfl
@[simp] theorem sIf_ap (c : Ex) (a b : Bd) (st : PSt) : sIf c a b st = (c st).bind fun x => onB x fun q => if q = true then a st else b st := rfl
@[simp] theorem sFor_ap (tg : Tg) (it : ItE) (body : Bd) (st : PSt) : sFor tg it body st = (it st).bind fun xs => forR tg body xs st := rfl
@[simp] theorem dAdd_int (i j : Int) : dAdd (.int i) (.int j) = .ok (.int (i + j)) := rfl
@[simp] theorem dAdd_str (x y : List Nat) : dAdd (.str x) (.str y) = guardR (x.length + y.length ≤ big) (.ok (.str (x ++ y))) := rfl
@[simp] theorem dSub_int (i j : Int) : dSub (.int i) (.int j) = .ok (.int (i - j)) := rfl
@[simp] theorem dMul_int (i j : Int) : dMul (.int i) (.int j) = guardR ((-18446744073709551616 < i ∧ i < 18446744073709551616) ∨ (-18446744073709551616 < j ∧ j < 18446744073709551616)) (.ok (.int (i * j))) := rfl
@[simp] theorem dMul_str (x : List Nat) (j : Int) : dMul (.str x) (.int j) = guardR (x.length * j.toNat ≤ big ∧ -4611686018427387904 ≤ j ∧ j < 4611686018427387904) (.ok (.str (rep j.toNat x))) := rfl
@[simp] theorem dFdiv_int (i j : Int) : dFdiv (.int i) (.int j) = guardR (0 < j ∧ j < 1073741824) (.ok (.int (i / j))) := rfl
@[simp] theorem dMod_int (i j : Int) : dMod (.int i) (.int j) = guardR (0 < j) (.ok (.int (i % j))) := rfl
@[simp] theorem dPow_int (i j : Int) : dPow (.int i) (.int j) = guardR (0 ≤ j ∧ j ≤ 1000000 ∧ i.natAbs < 18446744073709551616) (.ok (.int (i ^ j.toNat))) := rfl
@[simp] theorem dLt_int (i j : Int) : dLt (.int i) (.int j) = .ok (.bl (decide (i < j))) := rfl
@[simp] theorem dLt_str (s t : List Nat) : dLt (.str s) (.str t) = .ok (.bl (decide (s < t))) := rfl
@[simp] theorem dLt_tup (x y : List D) : dLt (.tup x) (.tup y) = guardR (deps x ≤ 60 ∧ plains x = true ∧ plains y = true) ((lexD x y).bind fun b => .ok (.bl b)) := rfl
@[simp] theorem dLe_int (i j : Int) : dLe (.int i) (.int j) = .ok (.bl (decide (i ≤ j))) := rfl
@[simp] theorem dGt_int (i j : Int) : dGt (.int i) (.int j) = .ok (.bl (decide (j < i))) := rfl
@[simp] theorem dEq_ap (x y : D) : dEq x y = guardR (dep x ≤ 64 ∧ plain x = true ∧ plain y = true) (.ok (.bl (eqD x y))) := rfl
@[simp] theorem dNe_ap (x y : D) : dNe x y = guardR (dep x ≤ 64 ∧ plain x = true ∧ plain y = true) (.ok (.bl (!eqD x y))) := rfl
@[simp] theorem dep_non : dep .non = 0 := by unfold dep; rfl
@[simp] theorem dep_bl (b : Bool) : dep (.bl b) = 0 := by unfold dep; rfl
@[simp] theorem dep_int (i : Int) : dep (.int i) = 0 := by unfold dep; rfl
@[simp] theorem dep_str (s : List Nat) : dep (.str s) = 0 := by unfold dep; rfl
@[simp] theorem dep_tup (x : List D) : dep (.tup x) = deps x + 1 := by conv => lhs; unfold dep
@[simp] theorem dep_lst (x : List D) : dep (.lst x) = deps x + 1 := by conv => lhs; unfold dep
@[simp] theorem plain_non : plain .non = true := by unfold plain; rfl
@[simp] theorem plain_bl (b : Bool) : plain (.bl b) = true := by unfold plain; rfl
@[simp] theorem plain_int (i : Int) : plain (.int i) = true := by unfold plain; rfl
@[simp] theorem plain_str (s : List Nat) : plain (.str s) = true := by unfold plain; rfl
@[simp] theorem plain_tup (x : List D) : plain (.tup x) = plains x := by conv => lhs; unfold plain
@[simp] theorem plain_lst (x : List D) : plain (.lst x) = plains x := by conv => lhs; unfold plain
@[simp] theorem plain_dct (k v : List D) : plain (.dct k v) = false := by unfold plain; rfl
@[simp] theorem plain_ins (c : String) (n : List String) (v : List D) : plain (.ins c n v) = false := by unfold plain; rfl
@[simp] theorem plain_exn (c : String) (n : List String) (v : List D) : plain (.exn c n v) = false := by unfold plain; rfl
@[simp] theorem plains_nil : plains [] = true := by unfold plains; rfl
@[simp] theorem plains_cons (a : D) (x : List D) : plains (a :: x) = (plain a && plains x) := by conv => lhs; unfold plains
@[simp] theorem deps_nil : deps [] = 0 := by unfold deps; rfl
@[simp] theorem deps_cons (a : D) (x : List D) : deps (a :: x) = max (dep a) (deps x) := by conv => lhs; unfold deps
@[simp] theorem eqD_int (i j : Int) : eqD (.int i) (.int j) = (i == j) := by unfold eqD; rfl
@[simp] theorem eqD_str (i j : List Nat) : eqD (.str i) (.str j) = (i == j) := by unfold eqD; rfl
@[simp] theorem eqD_non_non : eqD .non .non = true := by unfold eqD; rfl
@[simp] theorem eqD_non_bl (b : Bool) : eqD .non (.bl b) = false := by unfold eqD; rfl
@[simp] theorem eqD_non_int (j : Int) : eqD .non (.int j) = false := by unfold eqD; rfl
@[simp] theorem eqD_non_str (t : List Nat) : eqD .non (.str t) = false := by unfold eqD; rfl
@[simp] theorem eqD_non_tup (y : List D) : eqD .non (.tup y) = false := by unfold eqD; rfl
@[simp] theorem eqD_non_lst (y : List D) : eqD .non (.lst y) = false := by unfold eqD; rfl
@[simp] theorem eqD_bl_non (a : Bool) : eqD (.bl a) .non = false := by unfold eqD; rfl
@[simp] theorem eqD_bl_bl (a : Bool) (b : Bool) : eqD (.bl a) (.bl b) = (a == b) := by unfold eqD; rfl
@[simp] theorem eqD_bl_int (a : Bool) (j : Int) : eqD (.bl a) (.int j) = ((if a then (1 : Int) else 0) == j) := by unfold eqD; rfl
@[simp] theorem eqD_bl_str (a : Bool) (t : List Nat) : eqD (.bl a) (.str t) = false := by unfold eqD; rfl
@[simp] theorem eqD_bl_tup (a : Bool) (y : List D) : eqD (.bl a) (.tup y) = false := by unfold eqD; rfl
@[simp] theorem eqD_bl_lst (a : Bool) (y : List D) : eqD (.bl a) (.lst y) = false := by unfold eqD; rfl
@[simp] theorem eqD_int_non (i : Int) : eqD (.int i) .non = false := by unfold eqD; rfl
@[simp] theorem eqD_int_bl (i : Int) (b : Bool) : eqD (.int i) (.bl b) = (i == (if b then (1 : Int) else 0)) := by unfold eqD; rfl
@[simp] theorem eqD_int_str (i : Int) (t : List Nat) : eqD (.int i) (.str t) = false := by unfold eqD; rfl
@[simp] theorem eqD_int_tup (i : Int) (y : List D) : eqD (.int i) (.tup y) = false := by unfold eqD; rfl
@[simp] theorem eqD_int_lst (i : Int) (y : List D) : eqD (.int i) (.lst y) = false := by unfold eqD; rfl
@[simp] theorem eqD_str_non (s : List Nat) : eqD (.str s) .non = false := by unfold eqD; rfl
@[simp] theorem eqD_str_bl (s : List Nat) (b : Bool) : eqD (.str s) (.bl b) = false := by unfold eqD; rfl
@[simp] theorem eqD_str_int (s : List Nat) (j : Int) : eqD (.str s) (.int j) = false := by unfold eqD; rfl
@[simp] theorem eqD_str_tup (s : List Nat) (y : List D) : eqD (.str s) (.tup y) = false := by unfold eqD; rfl
@[simp] theorem eqD_str_lst (s : List Nat) (y : List D) : eqD (.str s) (.lst y) = false := by unfold eqD; rfl
@[simp] theorem eqD_tup_non (x : List D) : eqD (.tup x) .non = false := by unfold eqD; rfl
@[simp] theorem eqD_tup_bl (x : List D) (b : Bool) : eqD (.tup x) (.bl b) = false := by unfold eqD; rfl
@[simp] theorem eqD_tup_int (x : List D) (j : Int) : eqD (.tup x) (.int j) = false := by unfold eqD; rfl
@[simp] theorem eqD_tup_str (x : List D) (t : List Nat) : eqD (.tup x) (.str t) = false := by unfold eqD; rfl
@[simp] theorem eqD_tup_tup (x : List D) (y : List D) : eqD (.tup x) (.tup y) = eqDs x y := by conv => lhs; unfold eqD
@[simp] theorem eqD_tup_lst (x : List D) (y : List D) : eqD (.tup x) (.lst y) = false := by unfold eqD; rfl
@[simp] theorem eqD_lst_non (x : List D) : eqD (.lst x) .non = false := by unfold eqD; rfl
@[simp] theorem eqD_lst_bl (x : List D) (b : Bool) : eqD (.lst x) (.bl b) = false := by unfold eqD; rfl
@[simp] theorem eqD_lst_int (x : List D) (j : Int) : eqD (.lst x) (.int j) = false := by unfold eqD; rfl
@[simp] theorem eqD_lst_str (x : List D) (t : List Nat) : eqD (.lst x) (.str t) = false := by unfold eqD; rfl
@[simp] theorem eqD_lst_tup (x : List D) (y : List D) : eqD (.lst x) (.tup y) = false := by unfold eqD; rfl
@[simp] theorem eqD_lst_lst (x : List D) (y : List D) : eqD (.lst x) (.lst y) = eqDs x y := by conv => lhs; unfold eqD
@[simp] theorem eqDs_nil_nil : eqDs [] [] = true := by unfold eqDs; rfl
@[simp] theorem eqDs_nil_cons (b : D) (y : List D) : eqDs [] (b :: y) = false := by unfold eqDs; rfl
@[simp] theorem eqDs_cons_nil (b : D) (y : List D) : eqDs (b :: y) [] = false := by unfold eqDs; rfl
@[simp] theorem eqDs_cons_cons (a b : D) (x y : List D) : eqDs (a :: x) (b :: y) = (eqD a b && eqDs x y) := by conv => lhs; unfold eqDs
@[simp] theorem dLen_str (x : List Nat) : dLen (.str x) = guardR (x.length ≤ big) (.ok (.int x.length)) := rfl
@[simp] theorem dLen_lst (x : List D) : dLen (.lst x) = .ok (.int x.length) := rfl
@[simp] theorem dIx_str (x : List Nat) (i : Int) : dIx (.str x) (.int i) = guardR (x.length ≤ big) (ofO ((atI x i).map fun c => .str [c])) := rfl
@[simp] theorem dIx_tup (x : List D) (i : Int) : dIx (.tup x) (.int i) = ofO (atI x i) := rfl
@[simp] theorem dIx_lst (x : List D) (i : Int) : dIx (.lst x) (.int i) = ofO (atI x i) := rfl
@[simp] theorem dSl_str (x : List Nat) (l h : Option Int) : dSl (.str x) l h = guardR (x.length ≤ big) (.ok (.str (cut x l h))) := rfl
@[simp] theorem ofO_some {α : Type} (a : α) : ofO (some a) = .ok a := rfl
@[simp] theorem gR {α : Type} {c : Prop} {r : R α} (h : c) : guardR c r = r := guardR_pos h
@[simp] theorem neg_big_nat (n : Nat) : -(big : Int) ≤ (n : Int) := ge_bigI (by omega)
@[simp] theorem neg_big_pos {n : Int} (h : 0 ≤ n) : -(big : Int) ≤ n := ge_bigI (by omega)
theorem guardT {α : Type} {r : R α} : guardR True r = r := guardR_pos trivial
/-- a def is run -/
@[simp] theorem runD_ap {np n : Nat} {b : Bd} {ds : List D} (h : ds.length = np) : runD np n b ds = (b (ds.map (fun d => some (.v d)) ++ List.replicate (n - np) none)).bind fun x => match x with
    | .nx _ => .ok .non
    | .rt d => .ok d
    | _ => .bad := guardR_pos h
theorem atI_in {α : Type} {xs : List α} {i : Int} (h0 : 0 ≤ i) (h : i < xs.length) : atI xs i = some (xs[i.toNat]'(by omega)) := by
  unfold atI ixN
  rw [if_pos h0, if_pos h]
  exact List.getElem?_eq_getElem (by omega)
theorem atI_nat {α : Type} {xs : List α} {i : Nat} (h : i < xs.length) : atI xs (i : Int) = some xs[i] := by
  rw [atI_in (by omega) (by omega)]
  simp
theorem rangeD_length (lo : Int) (n : Nat) : (rangeD lo n).length = n := by simp [rangeD]
end Pu

namespace Pu
noncomputable section
/-- is_word(thing, many); names: 0 thing, 1 many -/
def b_is_word : Bd := sRet (eAnd (eB isSt (eVar 0)) (e2 dEq (eMt mStrip (eVar 0) (aCons (eSl (eC (.str [97, 98, 99])) (oNone) (oSome (eVar 1))) (aNil))) (eC (.str []))))
def p_is_word : List D → R D := runD 2 2 b_is_word
/-- is_endless(thing, many); names: 0 thing, 1 many -/
def b_is_endless : Bd := sSeq (sIf (eOr (eNot (eB isTu (eVar 0))) (e2 dNe (e1 dLen (eVar 0)) (eC (.int 2)))) (sRet (eC (.bl false))) (sNext)) (sRet (eAnd (eCall p_is_word (aCons (e2 dIx (eVar 0) (eC (.int 0))) (aCons (eVar 1) (aNil)))) (eAnd (eCall p_is_word (aCons (e2 dIx (eVar 0) (eC (.int 1))) (aCons (eVar 1) (aNil)))) (e2 dNe (e2 dIx (eVar 0) (eC (.int 1))) (eC (.str []))))))
def p_is_endless : List D → R D := runD 2 2 b_is_endless
/-- _law_cell_at(_law_script, _law_k); names: 0 _law_script, 1 _law_k -/
def b__law_cell_at : Bd := sSeq (sIf (e2 dLt (eVar 1) (e1 dLen (eVar 0))) (sRet (e2 dIx (eVar 0) (eVar 1))) (sNext)) (sRet (eC (.int 0)))
def p__law_cell_at : List D → R D := runD 2 2 b__law_cell_at
/-- _law_text(_law_cell, _law_size_here, _law_many); names: 0 _law_cell, 1 _law_size_here, 2 _law_many, 3 _law_made, 4 _law_digits, 5 _law_number, 6 _law_k -/
def L__law_text_0 (st : PSt) : R Fl := (sSeq (sSet 5 (e2 dMod (e2 dAdd (e2 dAdd (e2 dAdd (e2 dMul (eVar 5) (eVar 5)) (e2 dMul (eC (.int 48271)) (eVar 5))) (e2 dMul (eC (.int 7919)) (eVar 6))) (eC (.int 11))) (eC (.int 2147483629)))) (sIf (e2 dEq (e2 dMod (eVar 0) (eC (.int 2))) (eC (.int 1))) (sSeq (sSet 3 (e2 dAdd (eVar 3) (e2 dIx (eC (.str [97, 98, 99])) (e2 dMod (eVar 4) (eVar 2))))) (sSet 4 (e2 dFdiv (eVar 4) (eVar 2)))) (sSet 3 (e2 dAdd (eVar 3) (e2 dIx (eC (.str [97, 98, 99])) (e2 dMod (e2 dFdiv (e2 dMod (e2 dMul (eVar 5) (eVar 5)) (eC (.int 2147483587))) (eC (.int 64))) (eVar 2))))))) st
def b__law_text : Bd := sSeq (sSet 3 (eC (.str []))) (sSeq (sSet 4 (e2 dFdiv (eVar 0) (eC (.int 2)))) (sSeq (sSet 5 (e2 dAdd (e2 dMod (e2 dFdiv (eVar 0) (eC (.int 2))) (eC (.int 2147483629))) (eC (.int 7)))) (sSeq (sFor (tgN 6) (itR1 (eVar 1)) (L__law_text_0)) (sRet (eVar 3)))))
def p__law_text : List D → R D := runD 3 7 b__law_text
/-- _law_size(_law_cell, _law_some, _law_far); names: 0 _law_cell, 1 _law_some, 2 _law_far -/
def b__law_size : Bd := sSeq (sIf (e2 dEq (e2 dMod (eVar 0) (eC (.int 7))) (eC (.int 3))) (sRet (e2 dMod (e2 dFdiv (eVar 0) (eC (.int 7))) (eVar 2))) (sNext)) (sRet (e2 dMod (e2 dFdiv (eVar 0) (eC (.int 7))) (eVar 1)))
def p__law_size : List D → R D := runD 3 3 b__law_size
/-- _law_good(_law_text_here, _law_many); names: 0 _law_text_here, 1 _law_many, 2 _law_sign -/
def L__law_good_0 (st : PSt) : R Fl := (sIf (e2 dNotIn (eVar 2) (eSl (eLst (aCons (eC (.str [97])) (aCons (eC (.str [98])) (aCons (eC (.str [99])) (aNil))))) (oNone) (oSome (eVar 1)))) (sRet (eC (.bl false))) (sNext)) st
def b__law_good : Bd := sSeq (sFor (tgN 2) (itE (eVar 0)) (L__law_good_0)) (sRet (eC (.bl true)))
def p__law_good : List D → R D := runD 2 3 b__law_good
/-- _law_same(_law_found, _law_due); names: 0 _law_found, 1 _law_due -/
def b__law_same : Bd := sRet (eAnd (eB isBl (eVar 0)) (e2 dEq (eVar 0) (eVar 1)))
def p__law_same : List D → R D := runD 2 2 b__law_same
/-- _law_things(_law_one, _law_other); names: 0 _law_one, 1 _law_other, 2 _law_some -/
def b__law_things : Bd := sSeq (sSet 2 (eLst (aCons (eC .non) (aCons (eC (.bl true)) (aCons (eC (.int 3)) (aCons (eLst (aCons (eVar 0) (aCons (eVar 1) (aNil)))) (aCons (eTup (aCons (eVar 0) (aNil))) (aCons (eTup (aCons (eVar 0) (aCons (eVar 1) (aCons (eVar 1) (aNil))))) (aCons (eTup (aCons (eVar 0) (aCons (eC .non) (aNil)))) (aCons (eTup (aCons (eC (.int 1)) (aCons (eVar 1) (aNil)))) (aCons (eC (.dct [] [])) (aCons (eLst (aNil)) (aCons (eTup (aNil)) (aNil)))))))))))))) (sRet (e2 dAdd (eVar 2) (eLst (aCons (eTup (aCons (eTup (aCons (eVar 0) (aCons (eVar 1) (aNil)))) (aCons (eVar 1) (aNil)))) (aCons (eTup (aCons (eVar 0) (aCons (eLst (aCons (eVar 1) (aNil))) (aNil)))) (aCons (eLst (aCons (eVar 0) (aNil))) (aCons (eTup (aCons (eC .non) (aCons (eVar 1) (aNil)))) (aNil))))))))
def p__law_things : List D → R D := runD 2 3 b__law_things
/-- law(_law_script); names: 0 _law_script, 1 _law_many, 2 _law_words, 3 _law_k, 4 _law_cell, 5 _law_at, 6 _law_text_here, 7 _law_due, 8 _law_thing, 9 _law_sign, 10 _law_one, 11 _law_other -/
def L_law_0 (st : PSt) : R Fl := (sSeq (sSet 4 (eCall p__law_cell_at (aCons (eVar 0) (aCons (e2 dAdd (eC (.int 1)) (eVar 3)) (aNil))))) (sApp 2 (eCall p__law_text (aCons (e2 dFdiv (eVar 4) (eC (.int 1400))) (aCons (eCall p__law_size (aCons (eVar 4) (aCons (eC (.int 6)) (aCons (eC (.int 200)) (aNil))))) (aCons (eVar 1) (aNil))))))) st
def L_law_1 (st : PSt) : R Fl := (sSeq (sIf (eNot (eCall p__law_same (aCons (eCall p_is_word (aCons (eVar 6) (aCons (eVar 1) (aNil)))) (aCons (eCall p__law_good (aCons (eVar 6) (aCons (eVar 1) (aNil)))) (aNil))))) (sRet (eC (.bl false))) (sNext)) (sIf (eNot (eCall p__law_same (aCons (eCall p_is_endless (aCons (eVar 6) (aCons (eVar 1) (aNil)))) (aCons (eC (.bl false)) (aNil))))) (sRet (eC (.bl false))) (sNext))) st
def L_law_2 (st : PSt) : R Fl := (sIf (eOr (eNot (eCall p__law_same (aCons (eCall p_is_word (aCons (eVar 8) (aCons (eVar 1) (aNil)))) (aCons (eC (.bl false)) (aNil))))) (eNot (eCall p__law_same (aCons (eCall p_is_endless (aCons (eVar 8) (aCons (eVar 1) (aNil)))) (aCons (eC (.bl false)) (aNil)))))) (sRet (eC (.bl false))) (sNext)) st
def b_law : Bd := sSeq (sSet 1 (e2 dAdd (eC (.int 1)) (e2 dMod (eCall p__law_cell_at (aCons (eVar 0) (aCons (eC (.int 0)) (aNil)))) (eC (.int 3))))) (sSeq (sSetO 2 (eLst (aNil))) (sSeq (sFor (tgN 3) (itR1 (eC (.int 2))) (L_law_0)) (sSeq (sSet 4 (eCall p__law_cell_at (aCons (eVar 0) (aCons (eC (.int 3)) (aNil))))) (sSeq (sSet 3 (e2 dMod (eVar 4) (eC (.int 2)))) (sSeq (sSet 5 (e2 dMod (e2 dFdiv (eVar 4) (eC (.int 2))) (e2 dAdd (e1 dLen (e2 dIx (ePeek 2) (eVar 3))) (eC (.int 1))))) (sSeq (sIf (e2 dGt (e2 dMod (e2 dFdiv (eVar 4) (eC (.int 2))) (eC (.int 3))) (eC (.int 0))) (sSeq (sSet 9 (e2 dIx (eLst (aCons (eC (.str [97])) (aCons (eC (.str [98])) (aCons (eC (.str [99])) (aCons (eC (.str [100])) (aCons (eC (.str [65])) (aCons (eC (.str [32])) (aCons (eC (.str [49])) (aCons (eC (.str [40])) (aNil)))))))))) (e2 dMod (eCall p__law_cell_at (aCons (eVar 0) (aCons (eC (.int 4)) (aNil)))) (eC (.int 8))))) (sPut 2 (eVar 3) (e2 dAdd (e2 dAdd (eSl (e2 dIx (ePeek 2) (eVar 3)) (oNone) (oSome (eVar 5))) (eVar 9)) (eSl (e2 dIx (ePeek 2) (eVar 3)) (oSome (eVar 5)) (oNone))))) (sNext)) (sSeq (sFz [2] (sTgt (tgT [10, 11]) (eVar 2))) (sSeq (sFz [2] (sFor (tgN 6) (itE (eVar 2)) (L_law_1))) (sSeq (sSet 7 (eAnd (eCall p__law_good (aCons (eVar 10) (aCons (eVar 1) (aNil)))) (eCall p__law_good (aCons (eVar 11) (aCons (eVar 1) (aNil)))))) (sSeq (sIf (eNot (eCall p__law_same (aCons (eCall p_is_endless (aCons (eTup (aCons (eVar 10) (aCons (eVar 11) (aNil)))) (aCons (eVar 1) (aNil)))) (aCons (eAnd (eVar 7) (e2 dNe (eVar 11) (eC (.str [])))) (aNil))))) (sRet (eC (.bl false))) (sNext)) (sSeq (sIf (eNot (eCall p__law_same (aCons (eCall p_is_endless (aCons (eTup (aCons (eVar 11) (aCons (eVar 10) (aNil)))) (aCons (eVar 1) (aNil)))) (aCons (eAnd (eVar 7) (e2 dNe (eVar 10) (eC (.str [])))) (aNil))))) (sRet (eC (.bl false))) (sNext)) (sSeq (sFor (tgN 8) (itE (eCall p__law_things (aCons (eVar 10) (aCons (eVar 11) (aNil))))) (L_law_2)) (sRet (eAnd (eCall p__law_same (aCons (eCall p_is_word (aCons (eC (.str [])) (aCons (eVar 1) (aNil)))) (aCons (eC (.bl true)) (aNil)))) (eCall p__law_same (aCons (eCall p_is_endless (aCons (eTup (aCons (eC (.str [])) (aCons (eC (.str [])) (aNil)))) (aCons (eVar 1) (aNil)))) (aCons (eC (.bl false)) (aNil))))))))))))))))))
def p_law : List D → R D := runD 1 12 b_law
end
end Pu
/-! The helpers that the laws share: a cell, a text, a size. -/
namespace Pu
theorem size_ok (c s f : Int) (hs : 0 < s) (hf : 0 < f) : p__law_size [.int c, .int s, .int f] = .ok (.int (if c % 7 = 3 then c / 7 % f else c / 7 % s)) := by
  unfold p__law_size b__law_size
  by_cases h : c % 7 = 3 <;> simp [h, hs, hf]
theorem cell_ok (ns : List Int) (k : Nat) : p__law_cell_at [.lst (ns.map D.int), .int k] = .ok (.int (ns.getD k 0)) := by
  unfold p__law_cell_at b__law_cell_at
  by_cases h : k < ns.length
  · have e : atI (ns.map D.int) (k : Int) = some (.int ns[k]) := by rw [atI_nat (by simpa using h)]; simp
    simp [h, e]
  · simp [h]
end Pu
namespace Pu
/-- the letters that are meant: the first m of a, b, c -/
def Ltr (m : Int) (x : List Nat) : Prop := ∀ c ∈ x, 97 ≤ c ∧ (c : Int) < 97 + m
theorem abc_at {m i : Int} (hm : 1 ≤ m) (hm3 : m ≤ 3) (h0 : 0 ≤ i) (h : i < m) : ∃ c, atI [97, 98, 99] i = some c ∧ 97 ≤ c ∧ ((c : Nat) : Int) < 97 + m := by
  have h3 : i = 0 ∨ i = 1 ∨ i = 2 := by omega
  rcases h3 with rfl | rfl | rfl
  · exact ⟨97, rfl, by omega, by omega⟩
  · exact ⟨98, rfl, by omega, by omega⟩
  · exact ⟨99, rfl, by omega, by omega⟩
theorem text_loop (c n m : Int) (hm : 1 ≤ m) (hm3 : m ≤ 3) : ∀ (ks : List D) (made : List Nat) (dig num : Int) (k : Option Sl), (∀ d ∈ ks, ∃ i : Int, d = .int i) → made.length + ks.length ≤ 1000000 → 0 ≤ num → num < 2147483640 → Ltr m made →
    ∃ x dig' num' k', forR (tgN 6) L__law_text_0
      ks [some (.v (.int c)), some (.v (.int n)), some (.v (.int m)), some (.v (.str made)), some (.v (.int dig)), some (.v (.int num)), k] =
      .ok (.nx [some (.v (.int c)), some (.v (.int n)), some (.v (.int m)), some (.v (.str x)), some (.v (.int dig')), some (.v (.int num')), k']) ∧ x.length = made.length + ks.length ∧ Ltr m x := by
  intro ks
  induction ks with
  | nil => exact fun made dig num k _ _ _ _ hl => ⟨made, dig, num, k, rfl, rfl, hl⟩
  | cons d ks ih =>
    intro made dig num k hk hlen h0 h1 hl
    obtain ⟨i, rfl⟩ := hk d List.mem_cons_self
    rw [List.length_cons] at hlen
    have m0 : 0 < m := by omega
    have m1 : m < 1073741824 := by omega
    have g1 : -18446744073709551616 < num := by omega
    have g1' : num < 18446744073709551616 := by omega
    generalize hN : (num * num + 48271 * num + 7919 * i + 11) % 2147483629 = N
    have N0 : 0 ≤ N := by omega
    have N1 : N < 2147483629 := by omega
    have g2 : -18446744073709551616 < N := by omega
    have g2' : N < 18446744073709551616 := by omega
    rw [forR_cons]
    by_cases hc : c % 2 = 1
    · obtain ⟨ch, e1, e2, e3⟩ := abc_at hm hm3 (Int.emod_nonneg dig (by omega)) (Int.emod_lt_of_pos dig m0)
      obtain ⟨x, dig', num', k', hf, hx, hlx⟩ := ih (made ++ [ch]) (dig / m) N (some (.v (.int i))) (fun d hd => hk d (List.mem_cons_of_mem _ hd)) (by rw [List.length_append, List.length_singleton]; omega) N0 (by omega) (by
        intro z hz
        rcases List.mem_append.mp hz with hz | hz
        · exact hl z hz
        · rw [List.mem_singleton.mp hz]; exact ⟨e2, e3⟩)
      refine ⟨x, dig', num', k', ?_, by rw [hx, List.length_append, List.length_singleton, List.length_cons]; omega, hlx⟩
      rw [← hf]
      simp [L__law_text_0, g1, g1', hN, hc, m0, m1, e1, show made.length + 1 ≤ big from le_big (by omega)]
    · obtain ⟨ch, e1, e2, e3⟩ := abc_at (i := N * N % 2147483587 / 64 % m) hm hm3 (Int.emod_nonneg _ (by omega)) (Int.emod_lt_of_pos _ m0)
      obtain ⟨x, dig', num', k', hf, hx, hlx⟩ := ih (made ++ [ch]) dig N (some (.v (.int i))) (fun d hd => hk d (List.mem_cons_of_mem _ hd)) (by rw [List.length_append, List.length_singleton]; omega) N0 (by omega) (by
        intro z hz
        rcases List.mem_append.mp hz with hz | hz
        · exact hl z hz
        · rw [List.mem_singleton.mp hz]; exact ⟨e2, e3⟩)
      refine ⟨x, dig', num', k', ?_, by rw [hx, List.length_append, List.length_singleton, List.length_cons]; omega, hlx⟩
      rw [← hf]
      simp [L__law_text_0, g1, g1', g2, g2', hN, hc, m0, m1, e1, show made.length + 1 ≤ big from le_big (by omega)]
theorem text_ok (c n m : Int) (hm : 1 ≤ m) (hm3 : m ≤ 3) (hn : 0 ≤ n) (hn2 : n ≤ 100000) : ∃ x, p__law_text [.int c, .int n, .int m] = .ok (.str x) ∧ x.length = n.toNat ∧ Ltr m x := by
  obtain ⟨x, dig', num', k', hf, hx, hl⟩ := text_loop c n m hm hm3 (rangeD 0 n.toNat) [] (c / 2) (c / 2 % 2147483629 + 7) none (fun d hd => by
      unfold rangeD at hd
      obtain ⟨j, _, e⟩ := List.mem_map.mp hd
      exact ⟨_, e.symm⟩) (by rw [rangeD_length, List.length_nil]; omega) (by omega) (by omega) (fun _ h => absurd h (by simp))
  refine ⟨x, ?_, by rw [hx, rangeD_length]; simp, hl⟩
  unfold p__law_text b__law_text
  simp [show -(big : Int) ≤ n from ge_bigI (by omega), show n ≤ (big : Int) from le_bigI (by omega), hf]
end Pu

/-! A drawn endless word; the letters of one. -/
namespace Pu
theorem cell_ok' (ns : List Int) (k : Int) (h : 0 ≤ k) : p__law_cell_at [.lst (ns.map D.int), .int k] = .ok (.int (ns.getD k.toNat 0)) := by
  have := cell_ok ns k.toNat
  rwa [Int.toNat_of_nonneg h] at this
theorem mem_cut {α : Type} {x : List α} {lo hi : Option Int} {a : α} (h : a ∈ cut x lo hi) : a ∈ x := List.mem_of_mem_drop (List.mem_of_mem_take h)
theorem cut_len {α : Type} (x : List α) (lo hi : Option Int) : (cut x lo hi).length ≤ x.length := by
  unfold cut
  rw [List.length_take, List.length_drop]
  omega
theorem rep_length {α : Type} (z : List α) (n : Nat) : (rep n z).length = n * z.length := by
  unfold rep
  induction n with
  | zero => simp
  | succ n ih => rw [List.replicate_succ, List.flatten_cons, List.length_append, ih, Nat.succ_mul, Nat.add_comm]
theorem mem_rep {α : Type} {z : List α} {a : α} : ∀ {n : Nat}, a ∈ rep n z → a ∈ z
  | 0, h => by simp [rep] at h
  | n + 1, h => by
    unfold rep at h
    rw [List.replicate_succ, List.flatten_cons] at h
    rcases List.mem_append.mp h with h | h
    · exact h
    · exact mem_rep (n := n) h
theorem size_bound (c s f : Int) (hs : 0 < s) (hf : 0 < f) : 0 ≤ (if c % 7 = 3 then c / 7 % f else c / 7 % s) ∧ (if c % 7 = 3 then c / 7 % f else c / 7 % s) < max s f := by
  have h1 := Int.emod_nonneg (c / 7) (show f ≠ 0 by omega)
  have h2 := Int.emod_lt_of_pos (c / 7) hf
  have h3 := Int.emod_nonneg (c / 7) (show s ≠ 0 by omega)
  have h4 := Int.emod_lt_of_pos (c / 7) hs
  split <;> omega
theorem getD_at {x : List Nat} {i : Int} (h0 : 0 ≤ i) (h : i < x.length) : atI x i = some (x.getD i.toNat 0) := by
  rw [atI_in h0 h, List.getD_eq_getElem?_getD, List.getElem?_eq_getElem (by omega)]
  rfl
end Pu

/-! Places from the end, parts of texts. -/
namespace Pu
theorem atI_neg {x : List Nat} {i : Int} (h : i < 0) (h2 : -(x.length : Int) ≤ i) : atI x i = some (x.getD (i + x.length).toNat 0) := by
  unfold atI ixN
  rw [if_neg (by omega), if_pos h2]
  show x[(i + x.length).toNat]? = _
  rw [List.getD_eq_getElem?_getD, List.getElem?_eq_getElem (by omega)]
  rfl
theorem sIx_none (n d : Nat) : sIx n d none = d := rfl
theorem sIx_nat (n d k : Nat) : sIx n d (some (k : Int)) = min k n := by
  show (if (k : Int) < 0 then ((k : Int) + n).toNat else min (k : Int).toNat n) = _
  rw [if_neg (by omega), Int.toNat_natCast]
theorem cut_hi {α : Type} (x : List α) (n : Nat) : cut x none (some (n : Int)) = x.take n := by
  unfold cut
  rw [sIx_none, sIx_nat, List.drop_zero, Nat.sub_zero]
  by_cases h : n ≤ x.length
  · rw [Nat.min_eq_left h]
  · rw [Nat.min_eq_right (by omega), List.take_length, List.take_of_length_le (by omega)]
theorem cut_lo {α : Type} (x : List α) (n : Nat) (h : n ≤ x.length) : cut x (some (n : Int)) none = x.drop n := by
  unfold cut
  rw [sIx_none, sIx_nat]
  rw [Nat.min_eq_left h, List.take_of_length_le (by rw [List.length_drop]; omega)]
end Pu

/-! Loops that seek a place, loops that only look. -/
namespace Pu
theorem rangeD_zero (n : Nat) : rangeD 0 n = (List.range n).map fun (k : Nat) => D.int (k : Int) := by
  unfold rangeD
  refine List.map_congr_left fun k _ => ?_
  rw [Int.zero_add]
theorem for_search {L : Bd} {j : Nat} (S : Option Sl → PSt) (hset : ∀ x d, (S x).set j (some (.v d)) = S (some (.v d))) (p : Nat → Bool) (r : Nat → D) : ∀ (ks : List Nat), (∀ k ∈ ks, L (S (some (.v (.int (k : Int))))) = if p k = true then .ok (.rt (r k)) else .ok (.nx (S (some (.v (.int (k : Int))))))) →
    ∀ x, ∃ x', forR (tgN j) L (ks.map fun (k : Nat) => D.int (k : Int)) (S x) = match ks.find? p with | some k => .ok (.rt (r k)) | none => .ok (.nx (S x'))
  | [], _, x => ⟨x, rfl⟩
  | k :: ks, hb, x => by
    have h0 := hb k List.mem_cons_self
    rw [List.map_cons, forR_cons]
    simp only [tgN_ap, bind_ok', hset, h0]
    by_cases hp : p k = true
    · refine ⟨x, ?_⟩
      rw [if_pos hp, List.find?_cons_of_pos hp]
      rfl
    · obtain ⟨x', e⟩ := for_search S hset p r ks (fun k hk => hb k (List.mem_cons_of_mem _ hk)) (some (.v (.int (k : Int))))
      refine ⟨x', ?_⟩
      rw [if_neg hp, List.find?_cons_of_neg hp]
      exact e
theorem compR_map {tg : Tg} {c f : Ex} {st : PSt} (g : D → D) : ∀ (ds : List D), (∀ d ∈ ds, ∃ s1, tg d st = .ok s1 ∧ c s1 = .ok (.bl true) ∧ f s1 = .ok (g d)) → compR tg c f st ds = .ok (ds.map g)
  | [], _ => rfl
  | d :: ds, h => by
    obtain ⟨s1, e1, e2, e3⟩ := h d List.mem_cons_self
    rw [compR_cons, e1]
    simp only [bind_ok', e2, onB_bl, if_true, e3, compR_map g ds fun d hd => h d (List.mem_cons_of_mem _ hd), List.map_cons]
/-- a loop that goes through and changes only its own slot -/
theorem for_look {L : Bd} {j : Nat} (S : Option Sl → PSt) (hset : ∀ x d, (S x).set j (some (.v d)) = S (some (.v d))) : ∀ (ks : List D), (∀ d ∈ ks, L (S (some (.v d))) = .ok (.nx (S (some (.v d))))) → ∀ x, ∃ x', forR (tgN j) L ks (S x) = .ok (.nx (S x'))
  | [], _, x => ⟨x, rfl⟩
  | d :: ks, hb, x => by
    obtain ⟨x', e⟩ := for_look S hset ks (fun d hd => hb d (List.mem_cons_of_mem _ hd)) (some (.v d))
    refine ⟨x', ?_⟩
    rw [forR_cons]
    simp only [tgN_ap, bind_ok', hset, hb d List.mem_cons_self]
    exact e
end Pu

/-! A body walked statement by statement. -/
namespace Pu
theorem seq_nx {a b : Bd} {st st' : PSt} {r : R Fl} (h : a st = .ok (.nx st')) (h2 : b st' = r) : sSeq a b st = r := by
  rw [sSeq_ap, h]
  exact h2
theorem seq_same {a b : Bd} {st : PSt} {r : R Fl} (h : a st = .ok (.nx st)) (h2 : b st = r) : sSeq a b st = r := seq_nx h h2
theorem seq_ex {a b : Bd} {st : PSt} {r : R Fl} (P : PSt → Prop) (h : ∃ st', P st' ∧ a st = .ok (.nx st')) (h2 : ∀ st', P st' → b st' = r) : sSeq a b st = r := by
  obtain ⟨st', p, e⟩ := h
  exact seq_nx e (h2 st' p)
theorem seq_rt {a b : Bd} {st : PSt} {d : D} (h : a st = .ok (.rt d)) : sSeq a b st = .ok (.rt d) := by
  rw [sSeq_ap, h]
  rfl
theorem run_rt {np n : Nat} {b : Bd} {ds : List D} {d : D} (h : ds.length = np) (hb : b (ds.map (fun d => some (.v d)) ++ List.replicate (n - np) none) = .ok (.rt d)) : runD np n b ds = .ok d := by
  rw [runD_ap h, hb]
  rfl
theorem run_nx {np n : Nat} {b : Bd} {ds : List D} {st : PSt} (h : ds.length = np) (hb : b (ds.map (fun d => some (.v d)) ++ List.replicate (n - np) none) = .ok (.nx st)) : runD np n b ds = .ok .non := by
  rw [runD_ap h, hb]
  rfl
end Pu

/-! The program's is_word and is_endless. -/
namespace Pu
/-- all signs are of the first m letters -/
def good (m : Int) (x : List Nat) : Bool := x.all fun c => decide (97 ≤ c ∧ (c : Int) < 97 + m)
theorem good_iff {m : Int} {x : List Nat} : good m x = true ↔ Ltr m x := by
  unfold good Ltr
  simp
theorem abc_cut {m : Int} (hm : 1 ≤ m) (hm3 : m ≤ 3) {c : Nat} : c ∈ cut [97, 98, 99] none (some m) ↔ 97 ≤ c ∧ (c : Int) < 97 + m := by
  have h3 : m = 1 ∨ m = 2 ∨ m = 3 := by omega
  rcases h3 with rfl | rfl | rfl
  · show c ∈ [97] ↔ _
    simp; omega
  · show c ∈ [97, 98] ↔ _
    simp; omega
  · show c ∈ [97, 98, 99] ↔ _
    simp; omega
theorem dropWhile_nil {α : Type} (p : α → Bool) : ∀ x : List α, x.dropWhile p = [] ↔ ∀ c ∈ x, p c = true
  | [] => by simp
  | a :: x => by
    cases h : p a with
    | true => rw [List.dropWhile_cons_of_pos h, dropWhile_nil p x]; simp [h]
    | false => rw [List.dropWhile_cons_of_neg (by simp [h])]; simp [h]
theorem takeWhile_all {α : Type} (p : α → Bool) : ∀ (x : List α) (c : α), c ∈ x.takeWhile p → p c = true
  | [], c, h => by simp at h
  | a :: x, c, h => by
    cases ha : p a with
    | true =>
      rw [List.takeWhile_cons_of_pos ha] at h
      rcases List.mem_cons.mp h with rfl | h
      · exact ha
      · exact takeWhile_all p x c h
    | false => rw [List.takeWhile_cons_of_neg (by simp [ha])] at h; simp at h
theorem strip_nil (x y : List Nat) : stripN x y = [] ↔ ∀ c ∈ x, c ∈ y := by
  unfold stripN
  rw [List.reverse_eq_nil_iff, dropWhile_nil]
  constructor
  · intro h
    have h2 : ∀ c ∈ x.dropWhile (fun c => y.contains c), c ∈ y := fun c hc => by simpa using h c (by simpa using hc)
    have h3 : ∀ c ∈ x.takeWhile (fun c => y.contains c), c ∈ y := fun c hc => by
      simpa using takeWhile_all (fun c => y.contains c) x c hc
    intro c hc
    rw [← List.takeWhile_append_dropWhile (p := fun c => y.contains c) (l := x)] at hc
    exact (List.mem_append.mp hc).elim (h3 c) (h2 c)
  · intro h c hc
    rw [List.mem_reverse] at hc
    have : c ∈ x := List.IsSuffix.subset (List.dropWhile_suffix _) hc
    simpa using h c this
theorem isWord_str (x : List Nat) (m : Int) (hm : 1 ≤ m) (hm3 : m ≤ 3) (h : x.length ≤ 1000000) : p_is_word [.str x, .int m] = .ok (.bl (good m x)) := by
  unfold p_is_word b_is_word
  have e : (stripN x (cut [97, 98, 99] none (some m)) == []) = good m x := by
    rw [Bool.eq_iff_iff, beq_iff_eq, strip_nil, good_iff]
    exact ⟨fun z c hc => (abc_cut hm hm3).mp (z c hc), fun z c hc => (abc_cut hm hm3).mpr (z c hc)⟩
  simp [isSt, show x.length ≤ big from le_big (by omega), e]
theorem isWord_other (d : D) (m : D) (hs : isSt d = false) (hb : bltD d = true) : p_is_word [d, m] = .ok (.bl false) := by
  unfold p_is_word b_is_word
  simp [hs, hb]
theorem isEndless_other (d : D) (m : D) (hs : isTu d = false) (hb : bltD d = true) : p_is_endless [d, m] = .ok (.bl false) := by
  unfold p_is_endless b_is_endless
  simp [hs, hb]
theorem isEndless_len (ds : List D) (m : D) (h : ds.length ≠ 2) : p_is_endless [.tup ds, m] = .ok (.bl false) := by
  unfold p_is_endless b_is_endless
  have h' : ¬ (ds.length : Int) = 2 := by omega
  simp [isTu, h']
theorem isEndless_two (x y : D) (m : Int) (p q : Bool) (hp : p_is_word [x, .int m] = .ok (.bl p)) (hq : p_is_word [y, .int m] = .ok (.bl q)) (hy : plain y = true) (hd : dep y ≤ 64) : p_is_endless [.tup [x, y], .int m] = .ok (.bl (p && (q && !eqD y (.str [])))) := by
  unfold p_is_endless b_is_endless
  have g1 : atI [x, y] 0 = some x := rfl
  have g2 : atI [x, y] 1 = some y := rfl
  cases p <;> cases q <;> simp [isTu, g1, g2, hp, hq, hy, hd]
end Pu

namespace Pu
theorem good_loop (m : Int) (hm : 1 ≤ m) (hm3 : m ≤ 3) (z0 : Option Sl) : ∀ (x : List Nat) (k : Option Sl), (good m x = false → forR (tgN 2) L__law_good_0 (x.map fun c => .str [c]) [z0, some (.v (.int m)), k] = .ok (.rt (.bl false))) ∧
    (good m x = true → ∃ k', forR (tgN 2) L__law_good_0 (x.map fun c => .str [c]) [z0, some (.v (.int m)), k] = .ok (.nx [z0, some (.v (.int m)), k']))
  | [], k => ⟨fun h => by simp [good] at h, fun _ => ⟨k, rfl⟩⟩
  | c :: x, k => by
    obtain ⟨i1, i2⟩ := good_loop m hm hm3 z0 x (some (.v (.str [c])))
    have e : inD (.str [c]) (cut [.str [97], .str [98], .str [99]] none (some m)) = decide (97 ≤ c ∧ (c : Int) < 97 + m) := by
      have h3 : m = 1 ∨ m = 2 ∨ m = 3 := by omega
      rw [Bool.eq_iff_iff, decide_eq_true_eq]
      rcases h3 with rfl | rfl | rfl
      · show inD (.str [c]) [.str [97]] = true ↔ _
        simp [inD]; omega
      · show inD (.str [c]) [.str [97], .str [98]] = true ↔ _
        simp [inD]; omega
      · show inD (.str [c]) [.str [97], .str [98], .str [99]] = true ↔ _
        simp [inD]; omega
    have g : deps (cut [D.str [97], D.str [98], D.str [99]] none (some m)) ≤ 60 ∧ plains (cut [D.str [97], D.str [98], D.str [99]] none (some m)) = true := by
      have h3 : m = 1 ∨ m = 2 ∨ m = 3 := by omega
      rcases h3 with rfl | rfl | rfl
      · show deps [D.str [97]] ≤ 60 ∧ plains [D.str [97]] = true
        simp
      · show deps [D.str [97], D.str [98]] ≤ 60 ∧ plains [D.str [97], D.str [98]] = true
        simp
      · show deps [D.str [97], D.str [98], D.str [99]] ≤ 60 ∧ plains [D.str [97], D.str [98], D.str [99]] = true
        simp
    have gc : good m (c :: x) = (decide (97 ≤ c ∧ (c : Int) < 97 + m) && good m x) := rfl
    rw [List.map_cons, forR_cons]
    by_cases hc : 97 ≤ c ∧ (c : Int) < 97 + m
    · rw [decide_eq_true hc] at e
      have st : L__law_good_0 [z0, some (.v (.int m)), some (.v (.str [c]))] = .ok (.nx [z0, some (.v (.int m)), some (.v (.str [c]))]) := by simp [L__law_good_0, e, g.1, g.2]
      rw [gc, decide_eq_true hc, Bool.true_and]
      refine ⟨fun h => ?_, fun h => ?_⟩
      · simp [st, i1 h]
      · obtain ⟨k', e'⟩ := i2 h
        exact ⟨k', by simp [st, e']⟩
    · rw [decide_eq_false hc] at e
      rw [gc, decide_eq_false hc, Bool.false_and]
      refine ⟨fun _ => ?_, fun h => by cases h⟩
      simp [L__law_good_0, e, g.1, g.2]
theorem good_ok (x : List Nat) (m : Int) (hm : 1 ≤ m) (hm3 : m ≤ 3) (h : x.length ≤ 1000000) : p__law_good [.str x, .int m] = .ok (.bl (good m x)) := by
  obtain ⟨i1, i2⟩ := good_loop m hm hm3 (some (.v (.str x))) x none
  unfold p__law_good b__law_good
  cases hg : good m x with
  | false => simp [show x.length ≤ big from le_big (by omega), i1 hg]
  | true =>
    obtain ⟨k', e⟩ := i2 hg
    simp [show x.length ≤ big from le_big (by omega), e]
theorem same_ok (a b : Bool) : p__law_same [.bl a, .bl b] = .ok (.bl (a == b)) := by
  unfold p__law_same b__law_same
  simp [isBl]
theorem things_ok (x y : List Nat) : p__law_things [.str x, .str y] = .ok (.lst [.non, .bl true, .int 3, .lst [.str x, .str y], .tup [.str x], .tup [.str x, .str y, .str y], .tup [.str x, .non], .tup [.int 1, .str y], .dct [] [], .lst [], .tup [],
    .tup [.tup [.str x, .str y], .str y], .tup [.str x, .lst [.str y]], .lst [.str x], .tup [.non, .str y]]) := by
  unfold p__law_things b__law_things
  simp
theorem sign_ok (i : Int) : ∃ c, atI [D.str [97], D.str [98], D.str [99], D.str [100], D.str [65], D.str [32], D.str [49], D.str [40]] (i % 8) = some (.str [c]) := by
  have h0 := Int.emod_nonneg i (show (8 : Int) ≠ 0 by decide)
  have h1 := Int.emod_lt_of_pos i (show (0 : Int) < 8 by decide)
  generalize i % 8 = j at *
  have : j = 0 ∨ j = 1 ∨ j = 2 ∨ j = 3 ∨ j = 4 ∨ j = 5 ∨ j = 6 ∨ j = 7 := by omega
  rcases this with rfl | rfl | rfl | rfl | rfl | rfl | rfl | rfl
  · exact ⟨97, rfl⟩
  · exact ⟨98, rfl⟩
  · exact ⟨99, rfl⟩
  · exact ⟨100, rfl⟩
  · exact ⟨65, rfl⟩
  · exact ⟨32, rfl⟩
  · exact ⟨49, rfl⟩
  · exact ⟨40, rfl⟩
theorem thing_ok (x y : List Nat) (m : Int) (hm : 1 ≤ m) (hm3 : m ≤ 3) (hx : x.length ≤ 1000) (hy : y.length ≤ 1000) : ∀ d ∈ [D.non, .bl true, .int 3, .lst [.str x, .str y], .tup [.str x], .tup [.str x, .str y, .str y], .tup [.str x, .non], .tup [.int 1, .str y], .dct [] [], .lst [], .tup [],
    .tup [.tup [.str x, .str y], .str y], .tup [.str x, .lst [.str y]], .lst [.str x], .tup [.non, .str y]], p_is_word [d, .int m] = .ok (.bl false) ∧ p_is_endless [d, .int m] = .ok (.bl false) := by
  have wx := isWord_str x m hm hm3 (by omega)
  have wy := isWord_str y m hm hm3 (by omega)
  have o : ∀ d, isSt d = false → bltD d = true → p_is_word [d, .int m] = .ok (.bl false) := fun d => isWord_other d _
  intro d hd
  simp only [List.mem_cons, List.not_mem_nil, or_false] at hd
  rcases hd with rfl | rfl | rfl | rfl | rfl | rfl | rfl | rfl | rfl | rfl | rfl | rfl | rfl | rfl | rfl <;> refine ⟨o _ rfl rfl, ?_⟩
  · exact isEndless_other _ _ rfl rfl
  · exact isEndless_other _ _ rfl rfl
  · exact isEndless_other _ _ rfl rfl
  · exact isEndless_other _ _ rfl rfl
  · exact isEndless_len _ _ (by simp)
  · exact isEndless_len _ _ (by simp)
  · rw [isEndless_two _ _ m _ _ wx (o _ rfl rfl) (by simp) (by simp)]; simp
  · rw [isEndless_two _ _ m _ _ (o _ rfl rfl) wy (by simp) (by simp)]; simp
  · exact isEndless_other _ _ rfl rfl
  · exact isEndless_other _ _ rfl rfl
  · exact isEndless_len _ _ (by simp)
  · rw [isEndless_two _ _ m _ _ (o _ rfl rfl) wy (by simp) (by simp)]; simp
  · rw [isEndless_two _ _ m _ _ wx (o _ rfl rfl) (by simp) (by simp)]; simp
  · exact isEndless_other _ _ rfl rfl
  · rw [isEndless_two _ _ m _ _ (o _ rfl rfl) wy (by simp) (by simp)]; simp
theorem pair_ok (x y : List Nat) (m : Int) (hm : 1 ≤ m) (hm3 : m ≤ 3) (hx : x.length ≤ 1000) (hy : y.length ≤ 1000) : p_is_endless [.tup [.str x, .str y], .int m] = .ok (.bl (good m x && (good m y && !(y == [])))) := by
  rw [isEndless_two _ _ m _ _ (isWord_str x m hm hm3 (by omega)) (isWord_str y m hm hm3 (by omega)) (by simp) (by simp)]
  simp
theorem law_true (ns : List Int) (hn : ns.length ≤ 63) : p_law [.lst (ns.map D.int)] = .ok (.bl true) := by
  generalize hm : 1 + ns.getD 0 0 % 3 = m
  have m1 : 1 ≤ m := by omega
  have m3 : m ≤ 3 := by omega
  have hc0 := cell_ok' ns 0 (by decide)
  have hc1 := cell_ok' ns 1 (by decide)
  have hc2 := cell_ok' ns 2 (by decide)
  have hc3 := cell_ok' ns 3 (by decide)
  have hc4 := cell_ok' ns 4 (by decide)
  have hz1 := size_ok (ns.getD 1 0) 6 200 (by decide) (by decide)
  have hz2 := size_ok (ns.getD 2 0) 6 200 (by decide) (by decide)
  obtain ⟨a0, a1⟩ := size_bound (ns.getD 1 0) 6 200 (by decide) (by decide)
  obtain ⟨b0, b1⟩ := size_bound (ns.getD 2 0) 6 200 (by decide) (by decide)
  obtain ⟨x, hx, lx, _⟩ := text_ok (ns.getD 1 0 / 1400) (if ns.getD 1 0 % 7 = 3 then ns.getD 1 0 / 7 % 200 else ns.getD 1 0 / 7 % 6) m m1 m3 a0 (by omega)
  obtain ⟨y, hy, ly, _⟩ := text_ok (ns.getD 2 0 / 1400) (if ns.getD 2 0 % 7 = 3 then ns.getD 2 0 / 7 % 200 else ns.getD 2 0 / 7 % 6) m m1 m3 b0 (by omega)
  have lx' : x.length ≤ 200 := by rw [lx]; omega
  have ly' : y.length ≤ 200 := by rw [ly]; omega
  have hrg : rangeD 0 2 = [.int 0, .int 1] := rfl
  obtain ⟨sg, hsg⟩ := sign_ok (ns.getD 4 0)
  -- from two texts on
  have tail : ∀ (x y : List Nat) (z3 z4 z5 z9 : Option Sl), x.length ≤ 300 → y.length ≤ 300 → ∃ w6 w8,
      forR (tgN 6) L_law_1 [.str x, .str y] [some (.v (.lst (ns.map D.int))), some (.v (.int m)), some (.v (.lst [.str x, .str y])), z3, z4, z5, none, none, none, z9, some (.v (.str x)), some (.v (.str y))] =
        .ok (.nx [some (.v (.lst (ns.map D.int))), some (.v (.int m)), some (.v (.lst [.str x, .str y])), z3, z4, z5, w6, none, none, z9, some (.v (.str x)), some (.v (.str y))]) ∧
      forR (tgN 8) L_law_2 [D.non, .bl true, .int 3, .lst [.str x, .str y], .tup [.str x], .tup [.str x, .str y, .str y], .tup [.str x, .non], .tup [.int 1, .str y], .dct [] [], .lst [], .tup [],
    .tup [.tup [.str x, .str y], .str y], .tup [.str x, .lst [.str y]], .lst [.str x], .tup [.non, .str y]] [some (.v (.lst (ns.map D.int))), some (.v (.int m)), some (.v (.lst [.str x, .str y])), z3, z4, z5, w6, some (.v (.bl (good m x && good m y))), none, z9, some (.v (.str x)), some (.v (.str y))] =
        .ok (.nx [some (.v (.lst (ns.map D.int))), some (.v (.int m)), some (.v (.lst [.str x, .str y])), z3, z4, z5, w6, some (.v (.bl (good m x && good m y))), w8, z9, some (.v (.str x)), some (.v (.str y))]) := by
    intro x y z3 z4 z5 z9 hx hy
    obtain ⟨w6, e6⟩ := for_look (L := L_law_1) (j := 6) (fun q => [some (.v (.lst (ns.map D.int))), some (.v (.int m)), some (.v (.lst [.str x, .str y])), z3, z4, z5, q, none, none, z9, some (.v (.str x)), some (.v (.str y))]) (fun _ _ => rfl) [.str x, .str y] (fun d hd => by
      simp only [List.mem_cons, List.not_mem_nil, or_false] at hd
      rcases hd with rfl | rfl
      · simp [L_law_1, isWord_str x m m1 m3 (by omega), good_ok x m m1 m3 (by omega), same_ok, isEndless_other (.str x) _ rfl rfl]
      · simp [L_law_1, isWord_str y m m1 m3 (by omega), good_ok y m m1 m3 (by omega), same_ok, isEndless_other (.str y) _ rfl rfl]) none
    obtain ⟨w8, e8⟩ := for_look (L := L_law_2) (j := 8) (fun q => [some (.v (.lst (ns.map D.int))), some (.v (.int m)), some (.v (.lst [.str x, .str y])), z3, z4, z5, w6, some (.v (.bl (good m x && good m y))), q, z9, some (.v (.str x)), some (.v (.str y))]) (fun _ _ => rfl) [D.non, .bl true, .int 3, .lst [.str x, .str y], .tup [.str x], .tup [.str x, .str y, .str y], .tup [.str x, .non], .tup [.int 1, .str y], .dct [] [], .lst [], .tup [],
    .tup [.tup [.str x, .str y], .str y], .tup [.str x, .lst [.str y]], .lst [.str x], .tup [.non, .str y]] (fun d hd => by
      obtain ⟨t1, t2⟩ := thing_ok x y m m1 m3 (by omega) (by omega) d hd
      simp [L_law_2, t1, t2, same_ok]) none
    exact ⟨w6, w8, e6, e8⟩
  have fin1 : p_is_word [.str [], .int m] = .ok (.bl true) := isWord_str [] m m1 m3 (by simp)
  have fin2 : p_is_endless [.tup [.str [], .str []], .int m] = .ok (.bl false) := by rw [pair_ok [] [] m m1 m3 (by simp) (by simp)]; simp
  have q0 : atI [D.str x, D.str y] 0 = some (.str x) := rfl
  have q1 : atI [D.str x, D.str y] 1 = some (.str y) := rfl
  have n0 : ixN 2 0 = some 0 := rfl
  have n1 : ixN 2 1 = some 1 := rfl
  simp only [List.getD_eq_getElem?_getD] at hc0 hc1 hc2 hc3 hc4 hm hz1 hz2 hx hy hsg
  have hc0' : p__law_cell_at [.lst (ns.map D.int), .int 0] = .ok (.int ((ns[0]?).getD 0)) := hc0
  have hc1' : p__law_cell_at [.lst (ns.map D.int), .int 1] = .ok (.int ((ns[1]?).getD 0)) := hc1
  have hc2' : p__law_cell_at [.lst (ns.map D.int), .int 2] = .ok (.int ((ns[2]?).getD 0)) := hc2
  have hc3' : p__law_cell_at [.lst (ns.map D.int), .int 3] = .ok (.int ((ns[3]?).getD 0)) := hc3
  have hc4' : p__law_cell_at [.lst (ns.map D.int), .int 4] = .ok (.int ((ns[4]?).getD 0)) := hc4
  generalize (ns[3]?).getD (0 : Int) = cell at hc3'
  unfold p_law
  refine run_rt rfl ?_
  unfold b_law
  refine seq_nx (by simp [hc0', hm]; rfl) ?_
  refine seq_nx (by simp; rfl) ?_
  refine seq_nx (by simp [hrg, forR_cons, L_law_0, hc1', hc2', hz1, hz2, hx, hy]; rfl) ?_
  refine seq_nx (by simp [hc3']; rfl) ?_
  refine seq_nx (by simp; rfl) ?_
  refine seq_ex (fun st' => ∃ (w : List Nat) (t : Nat), ((cell % 2 = 0 ∧ w = x) ∨ (cell % 2 = 1 ∧ w = y)) ∧ t ≤ w.length ∧ st' = [some (.v (.lst (ns.map D.int))), some (.v (.int m)), some (.o [.str x, .str y]), some (.v (.int (cell % 2))), some (.v (.int cell)), some (.v (.int (t : Int))), none, none, none, none, none, none]) ?_ ?_
  · have pl : ∀ (w : List Nat), ∃ t : Nat, cell / 2 % ((w.length : Int) + 1) = (t : Int) ∧ t ≤ w.length := by
      intro w
      have t0 := Int.emod_nonneg (cell / 2) (show (w.length : Int) + 1 ≠ 0 by omega)
      have t1 := Int.emod_lt_of_pos (cell / 2) (show (0 : Int) < (w.length : Int) + 1 by omega)
      exact ⟨(cell / 2 % ((w.length : Int) + 1)).toNat, by omega, by omega⟩
    rcases (show cell % 2 = 0 ∨ cell % 2 = 1 by omega) with hk | hk
    · obtain ⟨t, ht, tl⟩ := pl x
      refine ⟨_, ⟨x, t, .inl ⟨hk, rfl⟩, tl, rfl⟩, ?_⟩
      simp [hk, q0, show x.length ≤ big from le_big (by omega), show (0 : Int) < (x.length : Int) + 1 by omega, ht]
    · obtain ⟨t, ht, tl⟩ := pl y
      refine ⟨_, ⟨y, t, .inr ⟨hk, rfl⟩, tl, rfl⟩, ?_⟩
      simp [hk, q1, show y.length ≤ big from le_big (by omega), show (0 : Int) < (y.length : Int) + 1 by omega, ht]
  rintro st5 ⟨w, t, hw, tl, rfl⟩
  refine seq_ex (fun st' => ∃ (x' y' : List Nat) (z9 : Option Sl), x'.length ≤ 300 ∧ y'.length ≤ 300 ∧ st' = [some (.v (.lst (ns.map D.int))), some (.v (.int m)), some (.o [.str x', .str y']), some (.v (.int (cell % 2))), some (.v (.int cell)), some (.v (.int (t : Int))), none, none, none, z9, none, none]) ?_ ?_
  · by_cases hi : 0 < cell / 2 % 3
    · rcases hw with ⟨hk, rfl⟩ | ⟨hk, rfl⟩
      · refine ⟨_, ⟨w.take t ++ sg :: w.drop t, y, some (.v (.str [sg])), by rw [List.length_append, List.length_cons, List.length_take, List.length_drop]; omega, by omega, rfl⟩, ?_⟩
        simp [hi, hc4', hsg, hk, q0, show w.length ≤ big from le_big (by omega), cut_hi, cut_lo, tl, show min t w.length = t by omega, show t + 1 ≤ big from le_big (by omega), show t + 1 + (w.length - t) ≤ big from le_big (by omega), show t + (w.length - t + 1) ≤ big from le_big (by omega), n0]
      · refine ⟨_, ⟨x, w.take t ++ sg :: w.drop t, some (.v (.str [sg])), by omega, by rw [List.length_append, List.length_cons, List.length_take, List.length_drop]; omega, rfl⟩, ?_⟩
        simp [hi, hc4', hsg, hk, q1, show w.length ≤ big from le_big (by omega), cut_hi, cut_lo, tl, show min t w.length = t by omega, show t + 1 ≤ big from le_big (by omega), show t + 1 + (w.length - t) ≤ big from le_big (by omega), show t + (w.length - t + 1) ≤ big from le_big (by omega), n1]
    · exact ⟨_, ⟨x, y, none, by omega, by omega, rfl⟩, by simp [hi]⟩
  rintro st6 ⟨x', y', z9, hx', hy', rfl⟩
  obtain ⟨w6, w8, e6, e8⟩ := tail x' y' (some (.v (.int (cell % 2)))) (some (.v (.int cell))) (some (.v (.int (t : Int)))) z9 hx' hy'
  refine seq_nx (by simp; rfl) ?_
  refine seq_nx (by simp [e6]; rfl) ?_
  have gg : ∀ a b : Bool, (if a = true then (R.ok (D.bl b)) else R.ok (D.bl false)) = R.ok (D.bl (a && b)) := by intro a b; cases a <;> rfl
  refine seq_nx (by simp [good_ok x' m m1 m3 (by omega), good_ok y' m m1 m3 (by omega), gg]; rfl) ?_
  have p1 := pair_ok x' y' m m1 m3 (by omega) (by omega)
  have p2 := pair_ok y' x' m m1 m3 (by omega) (by omega)
  refine seq_same (by
    cases hg : good m x' <;> cases hh : good m y' <;> rw [hg, hh] at p1 <;> simp [p1, same_ok]) ?_
  refine seq_same (by
    cases hg : good m x' <;> cases hh : good m y' <;> rw [hg, hh] at p2 <;> simp [p2, same_ok]) ?_
  refine seq_nx (by simp [things_ok, e8]; rfl) ?_
  simp [fin1, fin2, same_ok]
end Pu

/-! The pure reading is true of the model: data stand for values, the rules of the layer in pure words. -/
namespace Pu
open PySem PySem.Spec PyProof.Rows L2

abbrev LSt := L2.St
def keyD : Key → D
  | .inl i => .int i
  | .inr x => .str x.cps.toList
mutual
def Rep (K : PySem.W.Frag) (H : Hp) : D → V → Prop
  | .non, v => v = V.non
  | .bl b, v => v = V.bl b
  | .int i, v => v = V.int i
  | .str s, v => v = V.str ⟨s.toArray⟩
  | .tup ds, v => ∃ a vs, v = V.ref a ∧ SqT K H a vs ∧ Reps K H ds vs
  | .lst ds, v => ∃ a vs, v = V.ref a ∧ SqL K H a vs ∧ Reps K H ds vs
  | .dct ks ds, v => ∃ a vs, v = V.ref a ∧ ((∃ kvs : List (Key × V), H a = some (.dK kvs) ∧ kvs.map (fun p => keyD p.1) = ks ∧ vs = kvs.map (·.2)) ∨ ∃ kvs : List (List Key × V), H a = some (.dT kvs) ∧ kvs.map (fun p => D.tup (p.1.map keyD)) = ks ∧ vs = kvs.map (·.2)) ∧ Reps K H ds vs
  | .ins c ns ds, v => ∃ a C dx fs vs, v = V.ref a ∧ H a = some (.ins C dx fs) ∧ PySem.W.nsIn K mainGlobals (Str.ofString c) = some (some (.ref C)) ∧ fs.map (·.1) = ns.map Str.ofString ∧ vs = fs.map (·.2) ∧ Reps K H ds vs
  | .exn _ _ _, _ => False
def Reps (K : PySem.W.Frag) (H : Hp) : List D → List V → Prop
  | [], vs => vs = []
  | d :: ds, vs => ∃ v r, vs = v :: r ∧ Rep K H d v ∧ Reps K H ds r
end
theorem sqT_mono {K : PySem.W.Frag} {H H' : Hp} {a : Addr} {xs : List V} (e : Same H H') (h : SqT K H a xs) : SqT K H' a xs := by
  rcases h with (h | ⟨o, h⟩) | h
  · exact .inl (.inl (e _ _ h))
  · exact .inl (.inr ⟨o, e _ _ h⟩)
  · exact .inr h
mutual
theorem Rep.mono {K : PySem.W.Frag} {H H' : Hp} (s : Same H H') : ∀ {d : D} {v : V}, Rep K H d v → Rep K H' d v
  | .non, _, h => by unfold Rep at h ⊢; exact h
  | .bl _, _, h => by unfold Rep at h ⊢; exact h
  | .int _, _, h => by unfold Rep at h ⊢; exact h
  | .str _, _, h => by unfold Rep at h ⊢; exact h
  | .tup _, _, h => by
    unfold Rep at h ⊢
    obtain ⟨a, vs, e, q, r⟩ := h
    exact ⟨a, vs, e, sqT_mono s q, Reps.mono s r⟩
  | .lst _, _, h => by
    unfold Rep at h ⊢
    obtain ⟨a, vs, e, q, r⟩ := h
    exact ⟨a, vs, e, s.seq q, Reps.mono s r⟩
  | .dct _ _, _, h => by
    unfold Rep at h ⊢
    obtain ⟨a, vs, e, q, r⟩ := h
    refine ⟨a, vs, e, ?_, Reps.mono s r⟩
    rcases q with ⟨kvs, q1, q2⟩ | ⟨kvs, q1, q2⟩
    · exact .inl ⟨kvs, s _ _ q1, q2⟩
    · exact .inr ⟨kvs, s _ _ q1, q2⟩
  | .ins _ _ _, _, h => by
    unfold Rep at h ⊢
    obtain ⟨a, C, dx, fs, vs, e, q1, q2, q3, q4, r⟩ := h
    exact ⟨a, C, dx, fs, vs, e, s _ _ q1, q2, q3, q4, Reps.mono s r⟩
  | .exn _ _ _, _, h => by unfold Rep at h ⊢; exact h
theorem Reps.mono {K : PySem.W.Frag} {H H' : Hp} (s : Same H H') : ∀ {ds : List D} {vs : List V}, Reps K H ds vs → Reps K H' ds vs
  | [], _, h => by unfold Reps at h ⊢; exact h
  | d :: ds, _, h => by
    unfold Reps at h ⊢
    obtain ⟨v, r, e, q, t⟩ := h
    exact ⟨v, r, e, Rep.mono s q, Reps.mono s t⟩
end
section
variable {K : PySem.W.Frag} {H : Hp}
theorem rep_non {v : V} : Rep K H .non v ↔ v = V.non := by unfold Rep; exact Iff.rfl
theorem rep_bl {b : Bool} {v : V} : Rep K H (.bl b) v ↔ v = V.bl b := by unfold Rep; exact Iff.rfl
theorem rep_int {i : Int} {v : V} : Rep K H (.int i) v ↔ v = V.int i := by unfold Rep; exact Iff.rfl
theorem rep_str {s : List Nat} {v : V} : Rep K H (.str s) v ↔ v = V.str ⟨s.toArray⟩ := by unfold Rep; exact Iff.rfl
theorem rep_tup {ds : List D} {v : V} : Rep K H (.tup ds) v ↔ ∃ a vs, v = V.ref a ∧ SqT K H a vs ∧ Reps K H ds vs := by conv => lhs; unfold Rep
theorem rep_lst {ds : List D} {v : V} : Rep K H (.lst ds) v ↔ ∃ a vs, v = V.ref a ∧ SqL K H a vs ∧ Reps K H ds vs := by conv => lhs; unfold Rep
theorem rep_dct {ks ds : List D} {v : V} : Rep K H (.dct ks ds) v ↔ ∃ a vs, v = V.ref a ∧ ((∃ kvs : List (Key × V), H a = some (.dK kvs) ∧ kvs.map (fun p => keyD p.1) = ks ∧ vs = kvs.map (·.2)) ∨ ∃ kvs : List (List Key × V), H a = some (.dT kvs) ∧ kvs.map (fun p => D.tup (p.1.map keyD)) = ks ∧ vs = kvs.map (·.2)) ∧ Reps K H ds vs := by conv => lhs; unfold Rep
theorem rep_ins {c : String} {ns : List String} {ds : List D} {v : V} : Rep K H (.ins c ns ds) v ↔ ∃ a C dx fs vs, v = V.ref a ∧ H a = some (.ins C dx fs) ∧ PySem.W.nsIn K mainGlobals (Str.ofString c) = some (some (.ref C)) ∧ fs.map (·.1) = ns.map Str.ofString ∧ vs = fs.map (·.2) ∧ Reps K H ds vs := by conv => lhs; unfold Rep
theorem rep_exn {c : String} {ns : List String} {ds : List D} {v : V} : Rep K H (.exn c ns ds) v ↔ False := by conv => lhs; unfold Rep
theorem reps_nil {vs : List V} : Reps K H [] vs ↔ vs = [] := by unfold Reps; exact Iff.rfl
theorem reps_cons {d : D} {ds : List D} {vs : List V} : Reps K H (d :: ds) vs ↔ ∃ v r, vs = v :: r ∧ Rep K H d v ∧ Reps K H ds r := by conv => lhs; unfold Reps
theorem Reps.nil : Reps K H [] [] := reps_nil.mpr rfl
theorem Reps.cons {d : D} {ds : List D} {v : V} {vs : List V} (h : Rep K H d v) (t : Reps K H ds vs) : Reps K H (d :: ds) (v :: vs) := reps_cons.mpr ⟨v, vs, rfl, h, t⟩
theorem Reps.length : ∀ {ds : List D} {vs : List V}, Reps K H ds vs → vs.length = ds.length
  | [], _, h => by rw [reps_nil.mp h]; rfl
  | _ :: ds, _, h => by
    obtain ⟨v, r, rfl, _, t⟩ := reps_cons.mp h
    rw [List.length_cons, List.length_cons, Reps.length t]
theorem Reps.get : ∀ {ds : List D} {vs : List V} {i : Nat} {d : D}, Reps K H ds vs → ds[i]? = some d → ∃ v, vs[i]? = some v ∧ Rep K H d v
  | [], _, _, _, _, e => by simp at e
  | _ :: ds, _, 0, d, h, e => by
    obtain ⟨v, r, rfl, q, t⟩ := reps_cons.mp h
    simp at e; subst e
    exact ⟨v, rfl, q⟩
  | _ :: ds, _, i + 1, d, h, e => by
    obtain ⟨v, r, rfl, q, t⟩ := reps_cons.mp h
    obtain ⟨u, e1, e2⟩ := Reps.get (i := i) t (by simpa using e)
    exact ⟨u, by simpa using e1, e2⟩
theorem Reps.append : ∀ {ds es : List D} {vs us : List V}, Reps K H ds vs → Reps K H es us → Reps K H (ds ++ es) (vs ++ us)
  | [], _, _, _, h, t => by rw [reps_nil.mp h]; exact t
  | _ :: _, _, _, _, h, t => by
    obtain ⟨v, r, rfl, q, w⟩ := reps_cons.mp h
    exact .cons q (Reps.append w t)
theorem Reps.set {d : D} {v : V} (hd : Rep K H d v) : ∀ {ds : List D} {vs : List V} (i : Nat), Reps K H ds vs → Reps K H (ds.set i d) (vs.set i v)
  | [], _, _, h => by rw [reps_nil.mp h]; exact .nil
  | _ :: _, _, 0, h => by
    obtain ⟨v, r, rfl, q, w⟩ := reps_cons.mp h
    exact .cons hd w
  | _ :: _, _, i + 1, h => by
    obtain ⟨v, r, rfl, q, w⟩ := reps_cons.mp h
    exact .cons q (Reps.set hd i w)
theorem Reps.take : ∀ {ds : List D} {vs : List V} (n : Nat), Reps K H ds vs → Reps K H (ds.take n) (vs.take n)
  | _, _, 0, _ => .nil
  | [], _, _ + 1, h => by rw [reps_nil.mp h]; exact .nil
  | _ :: _, _, n + 1, h => by
    obtain ⟨v, r, rfl, q, w⟩ := reps_cons.mp h
    exact .cons q (Reps.take n w)
theorem Reps.drop : ∀ {ds : List D} {vs : List V} (n : Nat), Reps K H ds vs → Reps K H (ds.drop n) (vs.drop n)
  | _, _, 0, h => h
  | [], _, _ + 1, h => by rw [reps_nil.mp h]; exact .nil
  | _ :: _, _, n + 1, h => by
    obtain ⟨v, r, rfl, q, w⟩ := reps_cons.mp h
    exact Reps.drop n w
theorem Reps.rep {ds : List D} {vs : List V} (h : Reps K H ds vs) : ∀ n : Nat, Reps K H (Pu.rep n ds) (List.replicate n vs).flatten
  | 0 => .nil
  | n + 1 => by
    unfold Pu.rep
    rw [List.replicate_succ, List.flatten_cons, List.replicate_succ, List.flatten_cons]
    exact h.append (Reps.rep h n)
end

/-! ### hidden addresses -/
def hide (A : List Addr) (H : Hp) : Hp := fun b => if b ∈ A then none else H b
theorem hide_in {A : List Addr} {H : Hp} {b : Addr} (h : b ∈ A) : hide A H b = none := if_pos h
theorem hide_out {A : List Addr} {H : Hp} {b : Addr} (h : b ∉ A) : hide A H b = H b := if_neg h
theorem hide_sub (A : List Addr) (H : Hp) : Same (hide A H) H := fun b o h => by
  unfold hide at h
  split at h
  · cases h
  · exact h
theorem Same.hide {A : List Addr} {H H' : Hp} (s : Same H H') : Same (hide A H) (hide A H') := fun b o h => by
  unfold Pu.hide at h ⊢
  split at h
  · cases h
  · rename_i q
    rw [if_neg q]
    exact s b o h
theorem hide_more {A A' : List Addr} {H : Hp} (h : ∀ a ∈ A', a ∈ A) : Same (hide A H) (hide A' H) := fun b o q => by
  by_cases hb : b ∈ A
  · rw [hide_in hb] at q; cases q
  · rw [hide_out hb] at q
    rw [hide_out fun z => hb (h b z)]
    exact q
theorem hide_nil (H : Hp) : hide [] H = H := by
  funext b
  exact hide_out (by simp)
theorem hide_upd {A : List Addr} {H : Hp} {a : Addr} {o : HO} (h : a ∈ A) : hide A (upd H a o) = hide A H := by
  funext b
  by_cases hb : b ∈ A
  · rw [hide_in hb, hide_in hb]
  · rw [hide_out hb, hide_out hb]
    exact upd_ne fun z => hb (z ▸ h)
theorem same_upd {H : Hp} {p : Addr} {o : HO} (h : H p = none) : Same H (upd H p o) := fun b u q => by
  rw [upd_ne (ne_of_none q h)]; exact q
def Own (A : List Addr) (H : Hp) : Prop := ∀ a ∈ A, (H a).isSome = true
theorem Own.mono {A : List Addr} {H H' : Hp} (h : Own A H) (s : Same H H') : Own A H' := fun a ha => by
  obtain ⟨o, e⟩ := Option.isSome_iff_exists.mp (h a ha)
  rw [s a o e]; rfl
theorem Own.free {A : List Addr} {H : Hp} (h : Own A H) {p : Addr} (e : H p = none) : p ∉ A := fun z => by
  have q := h p z
  rw [e] at q; cases q
theorem rep_new_lst {K : PySem.W.Frag} {A : List Addr} {H : Hp} {p : Addr} {ds : List D} {vs : List V} (w : Own A H) (e : H p = none) (h : Reps K (hide A H) ds vs) : Rep K (hide A (upd H p (.lst vs))) (.lst ds) (.ref p) :=
  rep_lst.mpr ⟨p, vs, rfl, SqL.of (by rw [hide_out (w.free e)]; exact upd_same), h.mono (Same.hide (same_upd e))⟩
theorem rep_new_tup {K : PySem.W.Frag} {A : List Addr} {H : Hp} {p : Addr} {ds : List D} {vs : List V} (w : Own A H) (e : H p = none) (h : Reps K (hide A H) ds vs) : Rep K (hide A (upd H p (.tup vs))) (.tup ds) (.ref p) :=
  rep_tup.mpr ⟨p, vs, rfl, SqT.of (by rw [hide_out (w.free e)]; exact upd_same), h.mono (Same.hide (same_upd e))⟩

/-! ### the state: B is the callers' own, A this frame's own -/
structure RS (K : PySem.W.Frag) (B A : List Addr) (H : Hp) (st : PSt) (σ : LSt) : Prop where
  len : st.length = σ.length
  own : Own (A ++ B) H
  dis : ∀ a ∈ A, a ∉ B
  val : ∀ (i : Nat) d, st[i]? = some (some (.v d)) → ∃ v, σ[i]? = some (some v) ∧ Rep K (hide (A ++ B) H) d v
  lst : ∀ (i : Nat) xs, st[i]? = some (some (.o xs)) → ∃ a vs, σ[i]? = some (some (.ref a)) ∧ a ∈ A ∧ H a = some (.lst vs) ∧ Reps K (hide (A ++ B) H) xs vs ∧
    ∀ (j : Nat) ys, st[j]? = some (some (.o ys)) → σ[j]? = some (some (.ref a)) → j = i
theorem RS.mono {K : PySem.W.Frag} {B A : List Addr} {H H' : Hp} {st : PSt} {σ : LSt} (r : RS K B A H st σ) (s : Same H H') : RS K B A H' st σ where
  len := r.len
  own := r.own.mono s
  dis := r.dis
  val := fun i d e => let ⟨v, e1, q⟩ := r.val i d e; ⟨v, e1, q.mono (Same.hide s)⟩
  lst := fun i xs e => let ⟨a, vs, e1, m, h, q, u⟩ := r.lst i xs e; ⟨a, vs, e1, m, s _ _ h, q.mono (Same.hide s), u⟩
/-- what is not this frame's own stays -/
def Le (A : List Addr) (H : Hp) (A' : List Addr) (H' : Hp) : Prop := Same (hide A H) (hide A' H')
theorem Le.refl {A : List Addr} {H : Hp} : Le A H A H := Same.refl _
theorem Le.of {A : List Addr} {H H' : Hp} (s : Same H H') : Le A H A H' := Same.hide s
theorem Le.trans {A A1 A2 : List Addr} {H H1 H2 : Hp} (a : Le A H A1 H1) (b : Le A1 H1 A2 H2) : Le A H A2 H2 := Same.trans a b

/-! ### readings -/
def tI (K : PySem.W.Frag) (B : List Addr) (f : Ex) : TE := fun σ H Q => ∃ A st d, RS K B A H st σ ∧ f st = .ok d ∧ ∀ v H', Same H H' → Rep K (hide (A ++ B) H') d v → Q v H'
/-- read at once: the list itself may be one of the frame's own, its items are not -/
def RepP (K : PySem.W.Frag) (A : List Addr) (H : Hp) (d : D) (v : V) : Prop :=
  Rep K (hide A H) d v ∨ ∃ a ds vs, d = .lst ds ∧ v = V.ref a ∧ H a = some (.lst vs) ∧ Reps K (hide A H) ds vs
theorem RepP.mono {K : PySem.W.Frag} {A : List Addr} {H H' : Hp} {d : D} {v : V} (s : Same H H') (h : RepP K A H d v) : RepP K A H' d v := by
  rcases h with h | ⟨a, ds, vs, e1, e2, e3, q⟩
  · exact .inl (h.mono (Same.hide s))
  · exact .inr ⟨a, ds, vs, e1, e2, s _ _ e3, q.mono (Same.hide s)⟩
def tP (K : PySem.W.Frag) (B : List Addr) (f : Ex) : TE := fun σ H Q => ∃ A st d, RS K B A H st σ ∧ f st = .ok d ∧ ∀ v H', Same H H' → RepP K (A ++ B) H' d v → Q v H'
def tA (K : PySem.W.Frag) (B : List Addr) (f : Exs) : TA := fun σ H Q => ∃ A st ds, RS K B A H st σ ∧ f st = .ok ds ∧ ∀ vs H', Same H H' → Reps K (hide (A ++ B) H') ds vs → Q vs H'
def tT (K : PySem.W.Frag) (B : List Addr) (f : Ex) : TT := fun σ H Q => ∃ A st b, RS K B A H st σ ∧ f st = .ok (.bl b) ∧ ∀ H', Same H H' → Q b H'
def tO (K : PySem.W.Frag) (B : List Addr) (f : ExO) : TO := fun σ H Q => ∃ A st o, RS K B A H st σ ∧ f st = .ok o ∧ ∀ H', Same H H' → Q o H'
def Post (K : PySem.W.Frag) (B A : List Addr) (H : Hp) (r : Fl) (Dn : Ends) : Prop := match r with
  | .nx st' => ∀ A' σ' H', Le A H A' H' → RS K B A' H' st' σ' → Dn.nx σ' H'
  | .bk st' => ∀ A' σ' H', Le A H A' H' → RS K B A' H' st' σ' → Dn.bk σ' H'
  | .ct st' => ∀ A' σ' H', Le A H A' H' → RS K B A' H' st' σ' → Dn.ct σ' H'
  | .rt d => ∀ A' v H', Le A H A' H' → Rep K (hide (A' ++ B) H') d v → Dn.rt v H'
theorem Post.mono {K : PySem.W.Frag} {B A A1 : List Addr} {H H1 : Hp} {r : Fl} {Dn : Ends} (l : Le A H A1 H1) (p : Post K B A H r Dn) : Post K B A1 H1 r Dn := by
  cases r with
  | nx st => exact fun A' σ' H' l' => p A' σ' H' (l.trans l')
  | bk st => exact fun A' σ' H' l' => p A' σ' H' (l.trans l')
  | ct st => exact fun A' σ' H' l' => p A' σ' H' (l.trans l')
  | rt d => exact fun A' v H' l' => p A' v H' (l.trans l')
def tS (K : PySem.W.Frag) (B : List Addr) (b : Bd) : TS := fun Dn σ H => ∃ A st r, RS K B A H st σ ∧ b st = .ok r ∧ Post K B A H r Dn
/-- what a loop goes through -/
def ItOf (K : PySem.W.Frag) (B A : List Addr) (H : Hp) (J : It) (ds : List D) : Prop := ∀ A' H', Le A H A' H' → Own (A' ++ B) H' → ∀ (i : Nat),
  (∀ d, ds[i]? = some d → J.go i H' ∧ ∀ x H3, J.yld i H' x H3 → H3 = H' ∧ Rep K (hide (A' ++ B) H') d x) ∧ (ds.length ≤ i → J.stop i H')
def tIt (K : PySem.W.Frag) (B : List Addr) (f : ItE) : TI := fun σ H R => ∃ A st ds, RS K B A H st σ ∧ f st = .ok ds ∧ ∀ J H', Same H H' → ItOf K B A H' J ds → R J H'
def tG (K : PySem.W.Frag) (B : List Addr) (g : Tg) : TG := fun v σ H Q => ∃ A st d s1, RS K B A H st σ ∧ Rep K (hide (A ++ B) H) d v ∧ g d st = .ok s1 ∧ ∀ σ', RS K B A H s1 σ' → Q σ' H

/-! ### weaker words -/
section
variable {X : Cx}
theorem pe_imp {e : Expr} {t t' : TE} (h : PE X e t) (m : ∀ σ H Q, t' σ H Q → t σ H Q) : PE X e t' := fun pins s σ H Q I q => h pins s σ H Q I (m σ H Q q)
theorem pt_imp {e : Expr} {t t' : TT} (h : PT X e t) (m : ∀ σ H Q, t' σ H Q → t σ H Q) : PT X e t' := fun pins s σ H Q I q => h pins s σ H Q I (m σ H Q q)
theorem pw_imp {e : Expr} {t t' : TT} (h : PW X e t) (m : ∀ σ H Q, t' σ H Q → t σ H Q) : PW X e t' := fun w pins s σ H Q I q => h w pins s σ H Q I (m σ H Q q)
theorem pa_imp {es : List Expr} {t t' : TA} (h : PA X es t) (m : ∀ σ H Q, t' σ H Q → t σ H Q) : PA X es t' := fun pos pins s σ H Q I q => h pos pins s σ H Q I (m σ H Q q)
theorem po_imp {e : Option Expr} {t t' : TO} (h : PO X e t) (m : ∀ σ H Q, t' σ H Q → t σ H Q) : PO X e t' := fun pins s σ H Q I q => h pins s σ H Q I (m σ H Q q)
theorem ps_imp {st : Stmt} {t t' : TS} (h : PS X st t) (m : ∀ D σ H, t' D σ H → t D σ H) : PS X st t' := fun pins s σ H D I q => h pins s σ H D I (m D σ H q)
theorem pss_imp {st : List Stmt} {t t' : TS} (h : PSs X st t) (m : ∀ D σ H, t' D σ H → t D σ H) : PSs X st t' := fun pins s σ H D I q => h pins s σ H D I (m D σ H q)
theorem pg_imp {e : Expr} {t t' : TG} (h : PG X e t) (m : ∀ v σ H Q, t' v σ H Q → t v σ H Q) : PG X e t' := fun pins s σ H v u Q I r q => h pins s σ H v u Q I r (m v σ H Q q)
theorem pi_imp {tg e : Expr} {t t' : TI} (h : L2.PI X tg e t) (m : ∀ σ H R, t' σ H R → t σ H R) : L2.PI X tg e t' := fun pins s σ H R I q => h pins s σ H R I (m σ H R q)
end

section
variable {X : Cx} {B : List Addr} {a b e : Expr} {f g h : Ex} {pos : Pos}
/-! ### expressions -/
theorem i_var (i : Nat) {x : Str} (hN : X.N[i]? = some x := by rfl) (hv : Vis X.env.scope x := by first | exact Or.inl rfl | exact Or.inr (Or.inl rfl) | exact Or.inr (Or.inr rfl)) (hd : (x == ("__debug__" : Str)) = false := by decide)
    (hcd : (x == ("__classdict__" : Str)) = false := by decide) : PE X (.Name x pos) (tI X.K B (eVar i)) := by
  refine pe_imp (pe_var hN hv hd hcd) ?_
  rintro σ H Q ⟨A, st, d, rs, hd, q⟩
  unfold eVar at hd
  split at hd
  · rename_i d' e
    cases hd
    obtain ⟨v, e1, r⟩ := rs.val i _ e
    exact ⟨v, e1, q v H (Same.refl _) r⟩
  · cases hd
end
end Pu

/-! Operators, displays, calls: the layer's rules in pure words. -/
namespace Pu
open PySem PySem.Spec PyProof.Rows L2
section
variable {X : Cx} {B : List Addr} {a b e : Expr} {f g : Ex} {pos : Pos}
theorem i_c {d : D} {v : V} (h : PE X e (tC v)) (r : ∀ H, Rep X.K H d v) : PE X e (tI X.K B (eC d)) := pe_imp h (by
  rintro σ H Q ⟨A, st, d', rs, hd, q⟩
  cases hd
  exact q v H (Same.refl _) (r _))
theorem i_int {i : Int} {j : Nat} : PE X (.Constant (.int i) j pos) (tI X.K B (eC (.int i))) := i_c pe_int fun _ => rep_int.mpr rfl
theorem i_bl {q : Bool} {j : Nat} : PE X (.Constant (.bool q) j pos) (tI X.K B (eC (.bl q))) := i_c pe_bl fun _ => rep_bl.mpr rfl
theorem i_non {j : Nat} : PE X (.Constant .none j pos) (tI X.K B (eC .non)) := i_c pe_non fun _ => rep_non.mpr rfl
theorem i_str {x : Str} {j : Nat} (s : List Nat) (hx : x = ⟨s.toArray⟩ := by first | rfl | decide | decide +kernel) : PE X (.Constant (.str x) j pos) (tI X.K B (eC (.str s))) := i_c pe_str fun _ => rep_str.mpr (by rw [hx])
/-- a text of the module -/
theorem i_gstr {x y : Str} {t : Tok} (s : List Nat) (hm : X.mg x = some (.str y t)) (hg : Gl X x := by rfl) (hy : y = ⟨s.toArray⟩ := by first | rfl | decide | decide +kernel) (hd : (x == ("__debug__" : Str)) = false := by decide) : PE X (.Name x pos) (tI X.K B (eC (.str s))) :=
  i_c (pe_glob (v := .str y) hg hm ⟨t, rfl⟩ hd) fun _ => rep_str.mpr (by rw [hy])
theorem i_gint {x : Str} {i : Int} {t : Tok} (hm : X.mg x = some (.int i t)) (hg : Gl X x := by rfl) (hd : (x == ("__debug__" : Str)) = false := by decide) : PE X (.Name x pos) (tI X.K B (eC (.int i))) :=
  i_c (pe_glob (v := .int i) hg hm ⟨t, rfl⟩ hd) fun _ => rep_int.mpr rfl
theorem toP (h : PE X e (tI X.K B f)) : PE X e (tP X.K B f) := pe_imp h (by
  rintro σ H Q ⟨A, st, d, rs, hd, q⟩
  exact ⟨A, st, d, rs, hd, fun v H' s r => q v H' s (.inl r)⟩)
theorem i_peek (i : Nat) {x : Str} (hN : X.N[i]? = some x := by rfl) (hv : Vis X.env.scope x := by first | exact Or.inl rfl | exact Or.inr (Or.inl rfl) | exact Or.inr (Or.inr rfl)) (hd : (x == ("__debug__" : Str)) = false := by decide)
    (hcd : (x == ("__classdict__" : Str)) = false := by decide) : PE X (.Name x pos) (tP X.K B (ePeek i)) := by
  refine pe_imp (pe_var hN hv hd hcd) ?_
  rintro σ H Q ⟨A, st, d, rs, hd, q⟩
  unfold ePeek at hd
  split at hd
  · rename_i d' e
    cases hd
    obtain ⟨v, e1, r⟩ := rs.val i _ e
    exact ⟨v, e1, q v H (Same.refl _) (.inl r)⟩
  · rename_i xs e
    cases hd
    obtain ⟨a, vs, e1, m, h, r, _⟩ := rs.lst i _ e
    exact ⟨_, e1, q _ H (Same.refl _) (.inr ⟨a, xs, vs, rfl, rfl, h, r⟩)⟩
  · cases hd
/-! ### what is read at once, by its kind -/
section
variable {K : PySem.W.Frag} {A : List Addr} {H : Hp} {v : V}
theorem RepP.non (h : RepP K A H .non v) : v = V.non := by
  rcases h with h | ⟨_, _, _, e, _⟩
  · exact rep_non.mp h
  · cases e
theorem RepP.bl {q : Bool} (h : RepP K A H (.bl q) v) : v = V.bl q := by
  rcases h with h | ⟨_, _, _, e, _⟩
  · exact rep_bl.mp h
  · cases e
theorem RepP.int {i : Int} (h : RepP K A H (.int i) v) : v = V.int i := by
  rcases h with h | ⟨_, _, _, e, _⟩
  · exact rep_int.mp h
  · cases e
theorem RepP.str {s : List Nat} (h : RepP K A H (.str s) v) : v = V.str ⟨s.toArray⟩ := by
  rcases h with h | ⟨_, _, _, e, _⟩
  · exact rep_str.mp h
  · cases e
theorem RepP.tup {ds : List D} (h : RepP K A H (.tup ds) v) : ∃ a vs, v = V.ref a ∧ SqT K H a vs ∧ Reps K (hide A H) ds vs := by
  rcases h with h | ⟨_, _, _, e, _⟩
  · obtain ⟨a, vs, e, q, r⟩ := rep_tup.mp h
    exact ⟨a, vs, e, sqT_mono (hide_sub _ _) q, r⟩
  · cases e
theorem RepP.lst {ds : List D} (h : RepP K A H (.lst ds) v) : ∃ a vs, v = V.ref a ∧ SqL K H a vs ∧ Reps K (hide A H) ds vs := by
  rcases h with h | ⟨a, ds', vs, e, e2, h, r⟩
  · obtain ⟨a, vs, e, q, r⟩ := rep_lst.mp h
    exact ⟨a, vs, e, (hide_sub _ _).seq q, r⟩
  · cases e
    exact ⟨a, vs, e2, SqL.of h, r⟩
end
/-- a two-place rule r serves the pure operation o -/
def Sem2 (K : PySem.W.Frag) (r : R2) (o : Op2) : Prop := ∀ (A : List Addr) (H : Hp) (x y d : D) (v u : V) (Q : VK), Own A H → RepP K A H x v → RepP K A H y u → o x y = .ok d →
  (∀ w H', Same H H' → Rep K (hide A H') d w → Q w H') → r v u H Q
theorem tOp_of {r : R2} {o : Op2} (sem : Sem2 X.K r o) {σ : LSt} {H : Hp} {Q : VK} (h : tI X.K B (e2 o f g) σ H Q) : tOp r (tP X.K B f) (tP X.K B g) σ H Q := by
  obtain ⟨A, st, d, rs, hd, q⟩ := h
  obtain ⟨x, hx, h2⟩ := R.ok_of hd
  obtain ⟨y, hy, h3⟩ := R.ok_of h2
  refine ⟨A, st, x, rs, hx, fun v H1 s1 r1 => ⟨A, st, y, rs.mono s1, hy, fun u H2 s2 r2 => ?_⟩⟩
  exact sem (A ++ B) H2 x y d v u Q (rs.own.mono (s1.trans s2)) (r1.mono s2) r2 h3 fun w H' s' r' => q w H' (s1.trans (s2.trans s')) r'
theorem i_op {op : Operator} {r : R2} {o : Op2} (ho : OpR X (binaryOp op) r) (sem : Sem2 X.K r o) (ha : PE X a (tP X.K B f)) (hb : PE X b (tP X.K B g)) : PE X (.BinOp a op b pos) (tI X.K B (e2 o f g)) :=
  pe_imp (pe_op ho ha hb) fun _ _ _ h => tOp_of sem h
theorem i_cmpG {op : CmpOp} {r : R2} {o : Op2} (ho : OpR X (compareOp op) r) (sem : Sem2 X.K r o) (ha : PE X a (tP X.K B f)) (hb : PE X b (tP X.K B g)) (hm : behindInMarks op b = false) : PE X (.Compare a [op] [b] pos) (tI X.K B (e2 o f g)) :=
  pe_imp (pe_cmpR ho ha hb hm) fun _ _ _ h => tOp_of sem h
theorem t_of {f : Ex} {σ : LSt} {H : Hp} {Q : Bool → Hp → Prop} (h : tT X.K B f σ H Q) : tI X.K B f σ H fun x H' => ∃ k, x = .bl k ∧ Q k H' := by
  obtain ⟨A, st, k, rs, hk, q⟩ := h
  exact ⟨A, st, .bl k, rs, hk, fun v H' s r => ⟨k, rep_bl.mp r, q H' s⟩⟩
theorem i_cmpT {op : CmpOp} {r : R2} {o : Op2} (ho : OpR X (compareOp op) r) (sem : Sem2 X.K r o) (ha : PE X a (tP X.K B f)) (hb : PE X b (tP X.K B g)) (hm : behindInMarks op b = false) : PT X (.Compare a [op] [b] pos) (tT X.K B (e2 o f g)) :=
  pt_imp (pt_cmpR ho ha hb hm) fun _ _ _ h => tOp_of sem (t_of h)
/-- a value as a test -/
theorem i_test {f : Ex} (h : PE X e (tI X.K B f)) (he : ∀ whole, isTrue e X.env whole = (do let v ← whole; standAt e.pos; holding [v] (truthy v)) := by intro _; rfl) : PT X e (tT X.K B f) :=
  pt_imp (pt_val h he) fun _ _ _ q => t_of q
/-! ### ints -/
theorem sem_rI0 {K : PySem.W.Frag} {g : Int → Int → D} {gv : Int → Int → V} {o : Op2} (hr : ∀ H i j, Rep K H (g i j) (gv i j)) (ho : ∀ x y d, o x y = .ok d → ∃ i j, x = .int i ∧ y = .int j ∧ d = g i j) : Sem2 K (rI0 gv) o := by
  intro A H x y d v u Q w rx ry e q
  obtain ⟨i, j, rfl, rfl, rfl⟩ := ho x y d e
  exact ⟨i, j, rx.int, ry.int, q _ H (Same.refl _) (hr _ _ _)⟩
theorem sem_rI {K : PySem.W.Frag} {C : Int → Int → Prop} {g : Int → Int → D} {gv : Int → Int → V} {o : Op2} (hr : ∀ H i j, Rep K H (g i j) (gv i j)) (ho : ∀ x y d, o x y = .ok d → ∃ i j, x = .int i ∧ y = .int j ∧ C i j ∧ d = g i j) : Sem2 K (rI C gv) o := by
  intro A H x y d v u Q w rx ry e q
  obtain ⟨i, j, rfl, rfl, c, rfl⟩ := ho x y d e
  exact ⟨i, j, rx.int, ry.int, c, q _ H (Same.refl _) (hr _ _ _)⟩
theorem i_sub (ha : PE X a (tP X.K B f)) (hb : PE X b (tP X.K B g)) : PE X (.BinOp a .Sub b pos) (tI X.K B (e2 dSub f g)) :=
  i_op op_sub (sem_rI0 (g := fun i j => .int (i - j)) (fun _ _ _ => rep_int.mpr rfl) fun x y d e => by
    cases x <;> cases y <;> first | (cases e; exact ⟨_, _, rfl, rfl, rfl⟩) | exact nomatch e) ha hb
theorem i_fdiv (ha : PE X a (tP X.K B f)) (hb : PE X b (tP X.K B g)) : PE X (.BinOp a .FloorDiv b pos) (tI X.K B (e2 dFdiv f g)) :=
  i_op op_fdiv (sem_rI (g := fun i j => .int (i / j)) (fun _ _ _ => rep_int.mpr rfl) fun x y d e => by
    cases x <;> cases y <;> first | (obtain ⟨c, e⟩ := guardR_of e; cases e; exact ⟨_, _, rfl, rfl, c, rfl⟩) | exact nomatch e) ha hb
theorem i_mod (ha : PE X a (tP X.K B f)) (hb : PE X b (tP X.K B g)) : PE X (.BinOp a .Mod b pos) (tI X.K B (e2 dMod f g)) :=
  i_op op_mod (sem_rI (g := fun i j => .int (i % j)) (fun _ _ _ => rep_int.mpr rfl) fun x y d e => by
    cases x <;> cases y <;> first | (obtain ⟨c, e⟩ := guardR_of e; cases e; exact ⟨_, _, rfl, rfl, c, rfl⟩) | exact nomatch e) ha hb
theorem i_pow (ha : PE X a (tP X.K B f)) (hb : PE X b (tP X.K B g)) : PE X (.BinOp a .Pow b pos) (tI X.K B (e2 dPow f g)) :=
  i_op op_pow (sem_rI (g := fun i j => .int (i ^ j.toNat)) (fun _ _ _ => rep_int.mpr rfl) fun x y d e => by
    cases x <;> cases y <;> first | (obtain ⟨c, e⟩ := guardR_of e; cases e; exact ⟨_, _, rfl, rfl, c, rfl⟩) | exact nomatch e) ha hb
/-! ### + : ints, texts, lists -/
def rCatL (K : PySem.W.Frag) : R2 := fun x y H Q => ∃ l b xs zs, x = .ref l ∧ y = .ref b ∧ SqL K H l xs ∧ SqL K H b zs ∧ xs.length + zs.length ≤ sizeLine ∧ ∀ p, H p = none → Q (.ref p) (upd H p (.lst (xs ++ zs)))
theorem op_catL : OpR X (binaryOp .Add) (rCatL X.K) := by
  intro pins s σ H x y v u Q I rx ry h
  obtain ⟨l, b, xs, zs, rfl, rfl, hH, hB, hz, q⟩ := h
  cases rx
  cases ry
  obtain ⟨its, r, ⟨⟨cls, dd, data, sl⟩, n, ho, hc, _, hd⟩, z⟩ := I.list hH
  obtain ⟨its2, r2, ⟨⟨cls2, dd2, data2, sl2⟩, n2, ho2, hc2, _, hd2⟩, z2⟩ := I.list hB
  simp only at hc hd hc2 hd2
  subst hc hd hc2 hd2
  have l1 := r.length
  have l2 := r2.length
  refine concat_meets ⟨_, ho, rfl⟩ ⟨_, ho2, rfl⟩ noFill_list_add seq_list_add PySem.F.slot_list_add PySem.F.entry_list_add (PySem.F.args_list_add_2 _ _) (list_addW l b its.toArray its2.toArray n n2 dd dd2 sl sl2 (by simp only [List.size_toArray]; omega)) ⟨ho, ho2, ?_⟩
  have ea : its.toArray ++ its2.toArray = (its ++ its2).toArray := by simp
  rw [ea]
  exact ⟨.ref _, _, I.lnew (t' := s.toks) (r.append r2) (by rw [List.length_append]; omega), rfl, q _ I.fresh⟩
theorem str_app (x y : List Nat) : (⟨x.toArray⟩ : Str) ++ (⟨y.toArray⟩ : Str) = ⟨(x ++ y).toArray⟩ := by
  show Str.append _ _ = _
  unfold Str.append
  simp
theorem str_len (x : List Nat) : (⟨x.toArray⟩ : Str).length = x.length := by simp [Str.length]
theorem lim {n : Nat} (h : n ≤ big) : n ≤ sizeLine := Nat.le_trans (by rw [big_eq] at h; exact h : n ≤ 10000000) (by decide)
theorem i_add (ha : PE X a (tP X.K B f)) (hb : PE X b (tP X.K B g)) : PE X (.BinOp a .Add b pos) (tI X.K B (e2 dAdd f g)) := by
  refine i_op (op_add.or (op_add_str.or op_catL)) ?_ ha hb
  intro A H x y d v u Q w rx ry e q
  cases x <;> cases y <;> first | (cases e; done) | skip
  · cases e
    exact .inl ⟨_, _, rx.int, ry.int, q _ H (Same.refl _) (rep_int.mpr rfl)⟩
  · obtain ⟨c, e⟩ := guardR_of e
    cases e
    exact .inr (.inl ⟨_, _, rx.str, ry.str, by rw [str_len, str_len]; exact lim c, q _ H (Same.refl _) (rep_str.mpr (by rw [str_app]))⟩)
  · obtain ⟨c, e⟩ := guardR_of e
    cases e
    obtain ⟨l, xs, e1, h1, r1⟩ := rx.lst
    obtain ⟨m, ys, e2, h2, r2⟩ := ry.lst
    have l1 := r1.length
    have l2 := r2.length
    refine .inr (.inr ⟨l, m, xs, ys, e1, e2, h1, h2, by rw [l1, l2]; exact lim c, fun p hp => q _ _ (same_upd hp) ?_⟩)
    exact rep_new_lst w hp (r1.append r2)
/-! ### comparisons of ints -/
theorem sem_le {K : PySem.W.Frag} : Sem2 K (rI0 fun i j => .bl (decide (i ≤ j))) dLe := sem_rI0 (g := fun i j => .bl (decide (i ≤ j))) (fun _ _ _ => rep_bl.mpr rfl) fun x y d e => by
  cases x <;> cases y <;> first | (cases e; exact ⟨_, _, rfl, rfl, rfl⟩) | exact nomatch e
theorem sem_gt {K : PySem.W.Frag} : Sem2 K (rI0 fun i j => .bl (decide (j < i))) dGt := sem_rI0 (g := fun i j => .bl (decide (j < i))) (fun _ _ _ => rep_bl.mpr rfl) fun x y d e => by
  cases x <;> cases y <;> first | (cases e; exact ⟨_, _, rfl, rfl, rfl⟩) | exact nomatch e
theorem sem_ge {K : PySem.W.Frag} : Sem2 K (rI0 fun i j => .bl (decide (j ≤ i))) dGe := sem_rI0 (g := fun i j => .bl (decide (j ≤ i))) (fun _ _ _ => rep_bl.mpr rfl) fun x y d e => by
  cases x <;> cases y <;> first | (cases e; exact ⟨_, _, rfl, rfl, rfl⟩) | exact nomatch e
/-! ### is None -/
theorem rep_isN {K : PySem.W.Frag} {A : List Addr} {H : Hp} {d : D} {v : V} (h : RepP K A H d v) : decide (v = V.non) = isN d := by
  cases d with
  | non => rw [h.non]; rfl
  | bl _ => rw [h.bl]; rfl
  | int _ => rw [h.int]; rfl
  | str _ => rw [h.str]; rfl
  | tup _ => obtain ⟨a, vs, e, _⟩ := h.tup; rw [e]; rfl
  | lst _ => obtain ⟨a, vs, e, _⟩ := h.lst; rw [e]; rfl
  | dct _ _ => rcases h with h | ⟨_, _, _, e, _⟩; (obtain ⟨a, vs, e, _⟩ := rep_dct.mp h; rw [e]; rfl); exact nomatch e
  | ins _ _ _ => rcases h with h | ⟨_, _, _, e, _⟩; (obtain ⟨a, _, _, _, _, e, _⟩ := rep_ins.mp h; rw [e]; rfl); exact nomatch e
  | exn _ _ _ => rcases h with h | ⟨_, _, _, e, _⟩; (exact (rep_exn.mp h).elim); exact nomatch e
def dIsN : Op2 := fun x _ => .ok (.bl (isN x))
def dNotN : Op2 := fun x _ => .ok (.bl (!isN x))
theorem sem_isN {K : PySem.W.Frag} {A : List Addr} {H : Hp} : True := trivial
/-! ### x[i] -/
theorem ixN_same (n : Nat) (i : Int) : L2.ixN n i = Pu.ixN n i := rfl
theorem Reps.atI {K : PySem.W.Frag} {H : Hp} {ds : List D} {vs : List V} {i : Int} {d : D} (r : Reps K H ds vs) (e : Pu.atI ds i = some d) : ∃ v, L2.atI vs i = some v ∧ Rep K H d v := by
  unfold Pu.atI at e
  unfold L2.atI
  rw [r.length, ixN_same]
  cases h : Pu.ixN ds.length i with
  | none => rw [h] at e; cases e
  | some j =>
    rw [h] at e
    exact r.get e
theorem ofO_of {α : Type} {o : Option α} {a : α} (h : ofO o = .ok a) : o = some a := by
  cases o with
  | none => cases h
  | some b => cases h; rfl
theorem sem_ix {K : PySem.W.Frag} : Sem2 K (rIx K) dIx := by
  intro A H x y d v u Q w rx ry e q
  cases x <;> cases y <;> first | (cases e; done) | skip
  · rename_i s i
    obtain ⟨hz, e⟩ := guardR_of e
    have e := ofO_of e
    cases h : Pu.atI s i with
    | none => rw [h] at e; cases e
    | some c =>
      rw [h] at e
      cases e
      refine .inr (.inr ⟨_, i, c, rx.str, ry.int, by rw [str_len]; exact lim hz, ?_, q _ H (Same.refl _) (rep_str.mpr rfl)⟩)
      show L2.atI s.toArray.toList i = some c
      rw [List.toList_toArray]
      exact h
  · rename_i ds i
    have h := ofO_of (show ofO (Pu.atI ds i) = .ok d from e)
    obtain ⟨l, xs, e1, h1, r1⟩ := rx.tup
    obtain ⟨z, h2, r2⟩ := r1.atI h
    exact .inr (.inl ⟨l, xs, i, z, e1, ry.int, h1, h2, q _ H (Same.refl _) r2⟩)
  · rename_i ds i
    have h := ofO_of (show ofO (Pu.atI ds i) = .ok d from e)
    obtain ⟨l, xs, e1, h1, r1⟩ := rx.lst
    obtain ⟨z, h2, r2⟩ := r1.atI h
    exact .inl ⟨l, xs, i, z, e1, ry.int, h1, h2, q _ H (Same.refl _) r2⟩
theorem i_ix (ha : PE X a (tP X.K B f)) (hb : PE X b (tP X.K B g)) (hs : PlainIx b := by intro _ _; rfl) : PE X (.Subscript a b pos) (tI X.K B (e2 dIx f g)) :=
  pe_imp (pe_ix ix_seq ha hb hs) fun _ _ _ h => tOp_of sem_ix h
/-! ### and, or, not -/
theorem i_and1 (h : PE X a (tI X.K B f)) : PE X (.BoolOp .And [a] pos) (tI X.K B f) := pe_one h
theorem i_or1 (h : PE X a (tI X.K B f)) : PE X (.BoolOp .Or [a] pos) (tI X.K B f) := pe_one h
theorem i_and {rest : List Expr} (ha : PE X a (tI X.K B f)) (hb : PE X (.BoolOp .And (b :: rest) pos) (tI X.K B g)) : PE X (.BoolOp .And (a :: b :: rest) pos) (tI X.K B (eAnd f g)) := by
  refine pe_imp (pe_and ha hb) ?_
  rintro σ H Q ⟨A, st, d, rs, hd, q⟩
  obtain ⟨x, hx, h2⟩ := R.ok_of hd
  obtain ⟨k, rfl, h3⟩ := onB_of h2
  refine ⟨A, st, _, rs, hx, fun v H1 s1 r1 => ⟨k, rep_bl.mp r1, ?_⟩⟩
  cases k with
  | true => exact ⟨A, st, d, rs.mono s1, h3, fun w H' s' r' => q w H' (s1.trans s') r'⟩
  | false => cases h3; exact q _ H1 s1 (rep_bl.mpr rfl)
theorem i_or {rest : List Expr} (ha : PE X a (tI X.K B f)) (hb : PE X (.BoolOp .Or (b :: rest) pos) (tI X.K B g)) : PE X (.BoolOp .Or (a :: b :: rest) pos) (tI X.K B (eOr f g)) := by
  refine pe_imp (pe_or ha hb) ?_
  rintro σ H Q ⟨A, st, d, rs, hd, q⟩
  obtain ⟨x, hx, h2⟩ := R.ok_of hd
  obtain ⟨k, rfl, h3⟩ := onB_of h2
  refine ⟨A, st, _, rs, hx, fun v H1 s1 r1 => ⟨k, rep_bl.mp r1, ?_⟩⟩
  cases k with
  | true => cases h3; exact q _ H1 s1 (rep_bl.mpr rfl)
  | false => exact ⟨A, st, d, rs.mono s1, h3, fun w H' s' r' => q w H' (s1.trans s') r'⟩
theorem i_not (ha : PE X a (tI X.K B f)) : PE X (.UnaryOp .Not a pos) (tI X.K B (eNot f)) := by
  refine pe_imp (pe_not ha) ?_
  rintro σ H Q ⟨A, st, d, rs, hd, q⟩
  obtain ⟨x, hx, h2⟩ := R.ok_of hd
  obtain ⟨k, rfl, h3⟩ := onB_of h2
  cases h3
  exact ⟨A, st, _, rs, hx, fun v H1 s1 r1 => ⟨k, rep_bl.mp r1, q _ H1 s1 (rep_bl.mpr rfl)⟩⟩
theorem t_and1 (h : PT X a (tT X.K B f)) : PW X (.BoolOp .And [a] pos) (tT X.K B f) := pw_and1 h
theorem t_or1 (h : PT X a (tT X.K B f)) : PW X (.BoolOp .Or [a] pos) (tT X.K B f) := pw_or1 h
theorem t_and {rest : List Expr} (ha : PT X a (tT X.K B f)) (hb : PW X (.BoolOp .And (b :: rest) pos) (tT X.K B g)) : PW X (.BoolOp .And (a :: b :: rest) pos) (tT X.K B (eAnd f g)) := by
  refine pw_imp (pw_and ha hb) ?_
  rintro σ H Q ⟨A, st, d, rs, hd, q⟩
  obtain ⟨x, hx, h2⟩ := R.ok_of hd
  obtain ⟨k, rfl, h3⟩ := onB_of h2
  refine ⟨A, st, k, rs, hx, fun H1 s1 => ?_⟩
  cases k with
  | true => exact ⟨A, st, d, rs.mono s1, h3, fun H' s' => q H' (s1.trans s')⟩
  | false => cases h3; exact q H1 s1
theorem t_or {rest : List Expr} (ha : PT X a (tT X.K B f)) (hb : PW X (.BoolOp .Or (b :: rest) pos) (tT X.K B g)) : PW X (.BoolOp .Or (a :: b :: rest) pos) (tT X.K B (eOr f g)) := by
  refine pw_imp (pw_or ha hb) ?_
  rintro σ H Q ⟨A, st, d, rs, hd, q⟩
  obtain ⟨x, hx, h2⟩ := R.ok_of hd
  obtain ⟨k, rfl, h3⟩ := onB_of h2
  refine ⟨A, st, k, rs, hx, fun H1 s1 => ?_⟩
  cases k with
  | true => cases h3; exact q H1 s1
  | false => exact ⟨A, st, d, rs.mono s1, h3, fun H' s' => q H' (s1.trans s')⟩
theorem t_not (ha : PT X a (tT X.K B f)) : PT X (.UnaryOp .Not a pos) (tT X.K B (eNot f)) := by
  refine pt_imp (pt_not ha) ?_
  rintro σ H Q ⟨A, st, d, rs, hd, q⟩
  obtain ⟨x, hx, h2⟩ := R.ok_of hd
  obtain ⟨k, rfl, h3⟩ := onB_of h2
  cases h3
  exact ⟨A, st, k, rs, hx, fun H1 s1 => q H1 s1⟩
theorem i_ifx {c : Expr} {t : Ex} (hc : PT X c (tT X.K B t)) (ha : PE X a (tI X.K B f)) (hb : PE X b (tI X.K B g)) : PE X (.IfExp c a b pos) (tI X.K B (eIf t f g)) := by
  refine pe_imp (pe_ifExp hc ha hb) ?_
  rintro σ H Q ⟨A, st, d, rs, hd, q⟩
  obtain ⟨x, hx, h2⟩ := R.ok_of hd
  obtain ⟨k, rfl, h3⟩ := onB_of h2
  refine ⟨A, st, k, rs, hx, fun H1 s1 => ?_⟩
  cases k with
  | true => exact ⟨A, st, d, rs.mono s1, h3, fun w H' s' r' => q w H' (s1.trans s') r'⟩
  | false => exact ⟨A, st, d, rs.mono s1, h3, fun w H' s' r' => q w H' (s1.trans s') r'⟩
/-! ### argument lists, displays -/
theorem a_nil : PA X [] (tA X.K B aNil) := pa_imp pa_nil (by
  rintro σ H Q ⟨A, st, d, rs, hd, q⟩
  cases hd
  exact q [] H (Same.refl _) .nil)
theorem a_cons {es : List Expr} {r : Exs} (ha : PE X e (tI X.K B f)) (hr : PA X es (tA X.K B r)) (hs : starEach (e :: es) X.env = (false, eval e X.env) :: starEach es X.env := by rfl) : PA X (e :: es) (tA X.K B (aCons f r)) := by
  refine pa_imp (pa_cons ha hr hs) ?_
  rintro σ H Q ⟨A, st, ds, rs, hd, q⟩
  obtain ⟨x, hx, h2⟩ := R.ok_of hd
  obtain ⟨xs, hxs, h3⟩ := R.ok_of h2
  cases h3
  refine ⟨A, st, x, rs, hx, fun v H1 s1 r1 => ⟨A, st, xs, rs.mono s1, hxs, fun vs H2 s2 r2 => ?_⟩⟩
  exact q _ H2 (s1.trans s2) (.cons (r1.mono (Same.hide s2)) r2)
theorem i_tup {es : List Expr} {r : Exs} {x1 : Nat} (h : PA X es (tA X.K B r)) : PE X (.Tuple es x1 pos) (tI X.K B (eTup r)) := by
  refine pe_imp (pe_tup h) ?_
  rintro σ H Q ⟨A, st, d, rs, hd, q⟩
  obtain ⟨xs, hx, h2⟩ := R.ok_of hd
  obtain ⟨c, h3⟩ := guardR_of h2
  cases h3
  refine ⟨A, st, xs, rs, hx, fun vs H1 s1 r1 => ⟨by rw [r1.length]; exact lim c, fun p hp => q _ _ (s1.trans (same_upd hp)) ?_⟩⟩
  exact rep_new_tup (rs.own.mono s1) hp r1
theorem i_lst {es : List Expr} {r : Exs} (h : PA X es (tA X.K B r)) : PE X (.List es pos) (tI X.K B (eLst r)) := by
  refine pe_imp (pe_lst h) ?_
  rintro σ H Q ⟨A, st, d, rs, hd, q⟩
  obtain ⟨xs, hx, h2⟩ := R.ok_of hd
  obtain ⟨c, h3⟩ := guardR_of h2
  cases h3
  refine ⟨A, st, xs, rs, hx, fun vs H1 s1 r1 => ⟨by rw [r1.length]; exact lim c, fun p hp => q _ _ (s1.trans (same_upd hp)) ?_⟩⟩
  exact rep_new_lst (rs.own.mono s1) hp r1
/-! ### a def's promise, a call -/
/-- np arguments; the pure function p -/
def spI (K : PySem.W.Frag) (np : Nat) (p : List D → R D) : Sp := fun vs H Q _ => ∃ A ds d, Own A H ∧ Reps K (hide A H) ds vs ∧ ds.length = np ∧ p ds = .ok d ∧ ∀ v H', Same H H' → Rep K (hide A H') d v → Q v H'
theorem i_call {k : Nat} {fa : Addr} {fd : FuncData} {ps : List Str} {x : Str} {p0 : Pos} {es : List Expr} {r : Exs} {np : Nat} {p : List D → R D} (F : FnOk X.prog X.w X.K X.mg X.base CX0 k fa fd ps (spI X.K np p)) (hr : Room k X.A) (hm : X.mg x = some (.ref fa))
    (hk : PySem.W.keepIn X.K (.ref fa) = true) (hb : Binds X.K fd ps []) (hl : ∀ ds d, p ds = .ok d → ds.length = np) (ha : PA X (e :: es) (tA X.K B r)) (hg : Gl X x := by rfl) (hdb : (x == ("__debug__" : Str)) = false := by decide)
    (he : starEach (e :: es) X.env = (false, eval e X.env) :: starEach es X.env := by rfl) (hpl : (backTo pos (starEach es X.env)).any (·.1) = false := by rfl) :
    PE X (.Call (.Name x p0) (e :: es) [] pos) (tI X.K B (eCall p r)) := by
  refine pe_imp (pe_call F hr hg hm hk hb .nil pass0 ha hdb he hpl) ?_
  rintro σ H Q ⟨A, st, d, rs, hd, q⟩
  obtain ⟨xs, hx, h2⟩ := R.ok_of hd
  refine ⟨A, st, xs, rs, hx, fun vs H1 s1 r1 => ?_⟩
  show spI X.K np p (vs ++ []) H1 Q E0
  rw [List.append_nil]
  exact ⟨A ++ B, xs, d, rs.own.mono s1, r1, hl _ _ h2, h2, fun w H' s' r' => q w H' (s1.trans s') r'⟩
end
end Pu

/-! Statements: the layer's rules in pure words. -/
namespace Pu
open PySem PySem.Spec PyProof.Rows L2
/-! ### the state turns -/
section
variable {K : PySem.W.Frag} {B A : List Addr} {H : Hp} {st : PSt} {σ : LSt}
theorem set_get_v {i j : Nat} {d : D} {xs : List D} (h : (st.set i (some (.v d)))[j]? = some (some (.o xs))) : j ≠ i ∧ st[j]? = some (some (.o xs)) := by
  rw [List.getElem?_set] at h
  by_cases e : i = j
  · subst e
    rw [if_pos rfl] at h
    split at h <;> simp at h
  · rw [if_neg e] at h
    exact ⟨fun z => e z.symm, h⟩
theorem Le.app {A' : List Addr} {H' : Hp} (l : Le A H A' H') : Same (hide (A ++ B) H) (hide (A' ++ B) H') := fun b u q => by
  have q1 := hide_sub _ _ _ _ q
  have hb : b ∉ A ++ B := fun z => by rw [hide_in z] at q; cases q
  have q2 : hide A H b = some u := by rw [hide_out fun z => hb (List.mem_append_left _ z)]; exact q1
  have q3 := l b u q2
  have hb' : b ∉ A' := fun z => by rw [hide_in z] at q3; cases q3
  rw [hide_out fun z => (List.mem_append.mp z).elim hb' fun z => hb (List.mem_append_right _ z)]
  exact hide_sub _ _ _ _ q3
theorem RS.set (r : RS K B A H st σ) {d : D} {v : V} (i : Nat) (h : Rep K (hide (A ++ B) H) d v) : RS K B A H (st.set i (some (.v d))) (σ.set i (some v)) where
  len := by rw [List.length_set, List.length_set, r.len]
  own := r.own
  dis := r.dis
  val := fun j d' e => by
    rw [List.getElem?_set] at e
    by_cases hij : i = j
    · subst hij
      rw [if_pos rfl] at e
      split at e
      · rename_i hl
        simp at e
        subst e
        exact ⟨v, by rw [List.getElem?_set, if_pos rfl, if_pos (by rw [← r.len]; exact hl)], h⟩
      · cases e
    · rw [if_neg hij] at e
      obtain ⟨u, e1, q⟩ := r.val j d' e
      exact ⟨u, by rw [List.getElem?_set, if_neg hij]; exact e1, q⟩
  lst := fun j xs e => by
    obtain ⟨hj, e'⟩ := set_get_v e
    obtain ⟨a, vs, e1, m, h1, q, u⟩ := r.lst j xs e'
    refine ⟨a, vs, by rw [List.getElem?_set, if_neg fun z => hj z.symm]; exact e1, m, h1, q, fun k ys ek ek2 => ?_⟩
    obtain ⟨hk, ek'⟩ := set_get_v ek
    rw [List.getElem?_set, if_neg fun z => hk z.symm] at ek2
    exact u k ys ek' ek2
theorem own_new {p : Addr} {vs : List V} (w : Own (A ++ B) H) : Own ((p :: A) ++ B) (upd H p (.lst vs)) := fun a ha => by
  by_cases e : a = p
  · subst e; rw [upd_same]; rfl
  · rw [upd_ne e]
    exact w a ((List.mem_cons.mp ha).resolve_left e)
theorem same_new {p : Addr} {o : HO} (hp : H p = none) : Same (hide (A ++ B) H) (hide ((p :: A) ++ B) (upd H p o)) := fun b u q => by
  have q1 := hide_sub _ _ _ _ q
  have hb : b ∉ A ++ B := fun z => by rw [hide_in z] at q; cases q
  have ne : b ≠ p := ne_of_none q1 hp
  rw [hide_out (show b ∉ (p :: A) ++ B from fun z => (List.mem_cons.mp z).elim ne hb), upd_ne ne]
  exact q1
theorem le_new {p : Addr} {o : HO} (hp : H p = none) : Le A H (p :: A) (upd H p o) := fun b u q => by
  have q1 := hide_sub _ _ _ _ q
  have hb : b ∉ A := fun z => by rw [hide_in z] at q; cases q
  have ne : b ≠ p := ne_of_none q1 hp
  rw [hide_out fun z => (List.mem_cons.mp z).elim ne hb, upd_ne ne]
  exact q1
/-- a new list of the frame's own -/
theorem RS.setO (r : RS K B A H st σ) {p : Addr} {ds : List D} {vs : List V} (i : Nat) (hp : H p = none) (h : Reps K (hide (A ++ B) H) ds vs) :
    RS K B (p :: A) (upd H p (.lst vs)) (st.set i (some (.o ds))) (σ.set i (some (.ref p))) where
  len := by rw [List.length_set, List.length_set, r.len]
  own := own_new r.own
  dis := fun a ha hb => by
    rcases List.mem_cons.mp ha with rfl | ha
    · exact r.own.free hp (List.mem_append_right _ hb)
    · exact r.dis a ha hb
  val := fun j d' e => by
    rw [List.getElem?_set] at e
    by_cases hij : i = j
    · subst hij
      rw [if_pos rfl] at e
      split at e <;> simp at e
    · rw [if_neg hij] at e
      obtain ⟨u, e1, q⟩ := r.val j d' e
      exact ⟨u, by rw [List.getElem?_set, if_neg hij]; exact e1, q.mono (same_new hp)⟩
  lst := fun j xs e => by
    rw [List.getElem?_set] at e
    by_cases hij : i = j
    · subst hij
      rw [if_pos rfl] at e
      split at e
      · rename_i hl
        simp at e
        subst e
        refine ⟨p, vs, by rw [List.getElem?_set, if_pos rfl, if_pos (by rw [← r.len]; exact hl)], List.mem_cons_self, upd_same, h.mono (same_new hp), fun k ys ek ek2 => ?_⟩
        by_cases hk : i = k
        · exact hk.symm
        · rw [List.getElem?_set, if_neg hk] at ek ek2
          obtain ⟨a, vs', e1, m, h1, _⟩ := r.lst k ys ek
          rw [e1] at ek2
          cases ek2
          rw [hp] at h1; cases h1
      · cases e
    · rw [if_neg hij] at e
      obtain ⟨a, vs', e1, m, h1, q, u⟩ := r.lst j xs e
      have ne : a ≠ p := ne_of_none h1 hp
      refine ⟨a, vs', by rw [List.getElem?_set, if_neg hij]; exact e1, List.mem_cons_of_mem _ m, by rw [upd_ne ne]; exact h1, q.mono (same_new hp), fun k ys ek ek2 => ?_⟩
      by_cases hk : i = k
      · subst hk
        rw [List.getElem?_set, if_pos rfl] at ek2
        split at ek2
        · simp at ek2; exact absurd ek2.symm ne
        · cases ek2
      · rw [List.getElem?_set, if_neg hk] at ek ek2
        exact u k ys ek ek2
/-- a list of the frame's own is changed -/
theorem RS.write (r : RS K B A H st σ) {a : Addr} {i : Nat} {xs ds : List D} {vs' : List V} (hi : st[i]? = some (some (.o xs))) (hs : σ[i]? = some (some (.ref a))) (h : Reps K (hide (A ++ B) H) ds vs') :
    RS K B A (upd H a (.lst vs')) (st.set i (some (.o ds))) σ ∧ Le A H A (upd H a (.lst vs')) := by
  obtain ⟨a', vs, e1, m, h1, q, u⟩ := r.lst i xs hi
  rw [hs] at e1
  cases e1
  have hh : hide (A ++ B) (upd H a (.lst vs')) = hide (A ++ B) H := hide_upd (List.mem_append_left _ m)
  refine ⟨⟨by rw [List.length_set, r.len], fun b hb => ?_, r.dis, fun j d e => ?_, fun j ys e => ?_⟩, ?_⟩
  · by_cases e : b = a
    · subst e; rw [upd_same]; rfl
    · rw [upd_ne e]; exact r.own b hb
  · rw [hh]
    rw [List.getElem?_set] at e
    by_cases hij : i = j
    · subst hij
      rw [if_pos rfl] at e
      split at e <;> simp at e
    · rw [if_neg hij] at e
      exact r.val j d e
  · rw [hh]
    have ne : ∀ {k : Nat} {zs : List D}, (st.set i (some (.o ds)))[k]? = some (some (.o zs)) → ∃ ws, st[k]? = some (some (.o ws)) := fun {k zs} ek => by
      rw [List.getElem?_set] at ek
      by_cases hk : i = k
      · subst hk; exact ⟨_, hi⟩
      · rw [if_neg hk] at ek; exact ⟨_, ek⟩
    rw [List.getElem?_set] at e
    by_cases hij : i = j
    · subst hij
      rw [if_pos rfl] at e
      split at e
      · simp at e
        subst e
        exact ⟨a, vs', hs, m, upd_same, h, fun k zs ek ek2 => let ⟨ws, ew⟩ := ne ek; u k ws ew ek2⟩
      · cases e
    · rw [if_neg hij] at e
      obtain ⟨c, ws, c1, cm, ch, cq, cu⟩ := r.lst j ys e
      have hca : c ≠ a := fun z => by subst z; exact hij (u j ys e c1).symm
      exact ⟨c, ws, c1, cm, by rw [upd_ne hca]; exact ch, cq, fun k zs ek ek2 => let ⟨ws, ew⟩ := ne ek; cu k ws ew ek2⟩
  · unfold Le
    rw [hide_upd m]
    exact Same.refl _
/-- a list of the frame's own is its own no longer: from now on it stays as it is -/
theorem RS.fz1 (r : RS K B A H st σ) (i : Nat) : ∃ A', RS K B A' H (Pu.fz1 st i) σ ∧ Le A H A' H := by
  unfold Pu.fz1
  split
  · rename_i xs e
    obtain ⟨a, vs, e1, m, h1, q, u⟩ := r.lst i xs e
    have hsub : ∀ b ∈ A.filter (fun c => decide (c ≠ a)), b ∈ A := fun b hb => (List.mem_filter.mp hb).1
    have hsub2 : ∀ b ∈ A.filter (fun c => decide (c ≠ a)) ++ B, b ∈ A ++ B := fun b hb => (List.mem_append.mp hb).elim (fun z => List.mem_append_left _ (hsub b z)) (List.mem_append_right _)
    have sm : Same (hide (A ++ B) H) (hide (A.filter (fun c => decide (c ≠ a)) ++ B) H) := hide_more hsub2
    have hout : a ∉ A.filter (fun c => decide (c ≠ a)) ++ B := fun z => (List.mem_append.mp z).elim (fun z => of_decide_eq_true (List.mem_filter.mp z).2 rfl) (r.dis a m)
    refine ⟨A.filter fun c => decide (c ≠ a), ⟨by rw [List.length_set, r.len], fun b hb => r.own b (hsub2 b hb), fun b hb => r.dis b (hsub b hb), fun j d ej => ?_, fun j ys ej => ?_⟩, hide_more hsub⟩
    · rw [List.getElem?_set] at ej
      by_cases hij : i = j
      · subst hij
        rw [if_pos rfl] at ej
        split at ej
        · simp at ej
          subst ej
          exact ⟨_, e1, rep_lst.mpr ⟨a, vs, rfl, SqL.of (by rw [hide_out hout]; exact h1), q.mono sm⟩⟩
        · cases ej
      · rw [if_neg hij] at ej
        obtain ⟨v, e2, q2⟩ := r.val j d ej
        exact ⟨v, e2, q2.mono sm⟩
    · obtain ⟨hj, ej'⟩ := set_get_v ej
      obtain ⟨c, ws, c1, cm, ch, cq, cu⟩ := r.lst j ys ej'
      have hca : c ≠ a := fun z => by subst z; exact hj (u j ys ej' c1)
      exact ⟨c, ws, c1, List.mem_filter.mpr ⟨cm, decide_eq_true hca⟩, ch, cq.mono sm, fun k zs ek ek2 => cu k zs (set_get_v ek).2 ek2⟩
  · exact ⟨A, r, Le.refl⟩
theorem RS.fz (is : List Nat) : ∀ {A : List Addr} {st : PSt}, RS K B A H st σ → ∃ A', RS K B A' H (is.foldl Pu.fz1 st) σ ∧ Le A H A' H := by
  induction is with
  | nil => exact fun r => ⟨_, r, Le.refl⟩
  | cons i is ih =>
    intro A st r
    obtain ⟨A1, r1, l1⟩ := r.fz1 i
    obtain ⟨A2, r2, l2⟩ := ih r1
    exact ⟨A2, r2, l1.trans l2⟩
end

section
variable {X : Cx} {B : List Addr} {a b e : Expr} {f g : Ex} {pos : Pos} {bd bd' : Bd} {sm : Stmt} {rest : List Stmt}
theorem s_nil : PSs X [] (tS X.K B sNext) := pss_imp pss_nil (by
  rintro Dn σ H ⟨A, st, r, rs, hr, p⟩
  cases hr
  exact p A σ H Le.refl rs)
theorem s_cons (h1 : PS X sm (tS X.K B bd)) (h2 : PSs X rest (tS X.K B bd')) : PSs X (sm :: rest) (tS X.K B (sSeq bd bd')) := by
  refine pss_imp (pss_cons h1 h2) ?_
  rintro Dn σ H ⟨A, st, r, rs, hr, p⟩
  obtain ⟨x, hx, h3⟩ := R.ok_of hr
  refine ⟨A, st, x, rs, hx, ?_⟩
  cases x with
  | nx s1 => exact fun A' σ' H' l rs' => ⟨A', s1, r, rs', h3, p.mono l⟩
  | rt d => cases h3; exact p
  | bk s1 => cases h3; exact p
  | ct s1 => cases h3; exact p
theorem s_one (h1 : PS X sm (tS X.K B bd)) : PSs X [sm] (tS X.K B bd) := pss_one h1
theorem s_fz (is : List Nat) (h : PS X sm (tS X.K B bd)) : PS X sm (tS X.K B (sFz is bd)) := ps_imp h (by
  rintro Dn σ H ⟨A, st, r, rs, hr, p⟩
  obtain ⟨A', rs', l⟩ := RS.fz is rs
  exact ⟨A', _, r, rs', hr, p.mono l⟩)
theorem s_pass : PS X (.Pass pos) (tS X.K B sNext) := ps_imp ps_pass (by
  rintro Dn σ H ⟨A, st, r, rs, hr, p⟩
  cases hr
  exact p A σ H Le.refl rs)
theorem s_brk : PS X (.Break pos) (tS X.K B sBrk) := ps_imp ps_break (by
  rintro Dn σ H ⟨A, st, r, rs, hr, p⟩
  cases hr
  exact p A σ H Le.refl rs)
theorem s_ct : PS X (.Continue pos) (tS X.K B sCt) := ps_imp ps_continue (by
  rintro Dn σ H ⟨A, st, r, rs, hr, p⟩
  cases hr
  exact p A σ H Le.refl rs)
theorem s_ret (h : PE X e (tI X.K B f)) : PS X (.Return (some e) pos) (tS X.K B (sRet f)) := ps_imp (ps_ret h) (by
  rintro Dn σ H ⟨A, st, r, rs, hr, p⟩
  obtain ⟨d, hd, h3⟩ := R.ok_of hr
  cases h3
  exact ⟨A, st, d, rs, hd, fun v H' s q => p A v H' (Le.of s) q⟩)
theorem s_retN : PS X (.Return none pos) (tS X.K B sRetN) := ps_imp ps_retN (by
  rintro Dn σ H ⟨A, st, r, rs, hr, p⟩
  cases hr
  exact p A .non H Le.refl (rep_non.mpr rfl))
theorem s_exp (h : PE X e (tI X.K B f)) (hs : swapsWith e none pos.line X.env = pure false := by rfl) : PS X (.Expr e pos) (tS X.K B (sExp f)) := ps_imp (ps_expr h hs) (by
  rintro Dn σ H ⟨A, st, r, rs, hr, p⟩
  obtain ⟨d, hd, h3⟩ := R.ok_of hr
  cases h3
  exact ⟨A, st, d, rs, hd, fun v H' s q => p A σ H' (Le.of s) (rs.mono s)⟩)
theorem s_doc {x : Str} {j : Nat} {pos' : Pos} : PS X (.Expr (.Constant (.str x) j pos) pos') (tS X.K B sNext) := ps_imp ps_doc (by
  rintro Dn σ H ⟨A, st, r, rs, hr, p⟩
  cases hr
  exact p A σ H Le.refl rs)
theorem s_set (i : Nat) {x : Str} {pos' : Pos} (he : PE X e (tI X.K B f)) (hN : X.N.Nodup) (hi : X.N[i]? = some x := by rfl) (hx : Loc X.env.scope x := by first | exact Or.inl rfl | exact Or.inr rfl) (hs : swapsWith e (some (.Name x pos')) pos.line X.env = pure false := by rfl)
    (hf : X.fn x = true ∨ X.env.scope.names.lookup x = some .local := by first | exact .inl rfl | exact .inr rfl | assumption) : PS X (.Assign [.Name x pos'] e pos) (tS X.K B (sSet i f)) := ps_imp (ps_set hN hi hx he hs hf) (by
  rintro Dn σ H ⟨A, st, r, rs, hr, p⟩
  obtain ⟨d, hd, h3⟩ := R.ok_of hr
  cases h3
  exact ⟨A, st, d, rs, hd, fun v H' s q => p A _ H' (Le.of s) ((rs.mono s).set i q)⟩)
/-- an expression that gives a new list -/
def tF (K : PySem.W.Frag) (B : List Addr) (f : Ex) : TE := fun σ H Q => ∃ A st ds, RS K B A H st σ ∧ f st = .ok (.lst ds) ∧ ∀ p vs H', Same H H' → H' p = none → Reps K (hide (A ++ B) H') ds vs → Q (.ref p) (upd H' p (.lst vs))
theorem f_lst {es : List Expr} {r : Exs} (h : PA X es (tA X.K B r)) : PE X (.List es pos) (tF X.K B (eLst r)) := by
  refine pe_imp (pe_lst h) ?_
  rintro σ H Q ⟨A, st, d, rs, hd, q⟩
  obtain ⟨xs, hx, h2⟩ := R.ok_of hd
  obtain ⟨c, h3⟩ := guardR_of h2
  cases h3
  exact ⟨A, st, _, rs, hx, fun vs H1 s1 r1 => ⟨by rw [r1.length]; exact lim c, fun p hp => q p vs H1 s1 hp r1⟩⟩
theorem s_setO (i : Nat) {x : Str} {pos' : Pos} (he : PE X e (tF X.K B f)) (hN : X.N.Nodup) (hi : X.N[i]? = some x := by rfl) (hx : Loc X.env.scope x := by first | exact Or.inl rfl | exact Or.inr rfl) (hs : swapsWith e (some (.Name x pos')) pos.line X.env = pure false := by rfl)
    (hf : X.fn x = true ∨ X.env.scope.names.lookup x = some .local := by first | exact .inl rfl | exact .inr rfl | assumption) : PS X (.Assign [.Name x pos'] e pos) (tS X.K B (sSetO i f)) := ps_imp (ps_set hN hi hx he hs hf) (by
  rintro Dn σ H ⟨A, st, r, rs, hr, p⟩
  obtain ⟨d, hd, h3⟩ := R.ok_of hr
  cases d <;> first | (cases h3; done) | skip
  cases h3
  exact ⟨A, st, _, rs, hd, fun a vs H' s hn q => p (a :: A) _ _ ((Le.of s).trans (le_new hn)) ((rs.mono s).setO i hn q)⟩)
theorem s_if {c : Expr} {t : Ex} {x y : List Stmt} (hc : PT X c (tT X.K B t)) (ha : PSs X x (tS X.K B bd)) (hb : PSs X y (tS X.K B bd')) : PS X (.If c x y pos) (tS X.K B (sIf t bd bd')) := ps_imp (ps_if hc ha hb) (by
  rintro Dn σ H ⟨A, st, r, rs, hr, p⟩
  obtain ⟨d, hd, h3⟩ := R.ok_of hr
  obtain ⟨k, rfl, h4⟩ := onB_of h3
  refine ⟨A, st, k, rs, hd, fun H1 s1 => ?_⟩
  cases k with
  | true => exact ⟨A, st, r, rs.mono s1, h4, p.mono (Le.of s1)⟩
  | false => exact ⟨A, st, r, rs.mono s1, h4, p.mono (Le.of s1)⟩)
/-! ### targets -/
theorem g_name (i : Nat) {x : Str} (hN : X.N.Nodup) (hi : X.N[i]? = some x := by rfl) (hx : Loc X.env.scope x := by first | exact Or.inl rfl | exact Or.inr rfl)
    (hf : X.fn x = true ∨ X.env.scope.names.lookup x = some .local := by first | exact .inl rfl | exact .inr rfl | assumption) : PG X (.Name x pos) (tG X.K B (tgN i)) := pg_imp (pg_name hN hi hx hf) (by
  rintro v σ H Q ⟨A, st, d, s1, rs, hr, hg, q⟩
  cases hg
  exact q _ (rs.set i hr))
def tGs (K : PySem.W.Frag) (B : List Addr) (is : List Nat) : TGs := fun vs σ H Q => ∃ A st ds s1, RS K B A H st σ ∧ Reps K (hide (A ++ B) H) ds vs ∧ setAll is ds st = .ok s1 ∧ ∀ σ', RS K B A H s1 σ' → Q σ' H
theorem pgs_imp {es : List Expr} {t t' : TGs} (h : PGs X es t) (m : ∀ v σ H Q, t' v σ H Q → t v σ H Q) : PGs X es t' := fun pins s σ H v u Q I r q => h pins s σ H v u Q I r (m v σ H Q q)
theorem gs_nil : PGs X [] (tGs X.K B []) := pgs_imp pgs_nil (by
  rintro v σ H Q ⟨A, st, ds, s1, rs, hr, hg, q⟩
  cases ds with
  | nil => cases hg; exact ⟨reps_nil.mp hr, q σ rs⟩
  | cons _ _ => exact nomatch hg)
theorem gs_cons (i : Nat) {is : List Nat} {x : Str} {es : List Expr} (h2 : PGs X es (tGs X.K B is)) (hN : X.N.Nodup) (hi : X.N[i]? = some x := by rfl) (hx : Loc X.env.scope x := by first | exact Or.inl rfl | exact Or.inr rfl)
    (hf : X.fn x = true ∨ X.env.scope.names.lookup x = some .local := by first | exact .inl rfl | exact .inr rfl | assumption)
    (hs : (assignEach (.Name x pos :: es) X.env).map (·.2) = assign (.Name x pos) X.env :: (assignEach es X.env).map (·.2) := by rfl) : PGs X (.Name x pos :: es) (tGs X.K B (i :: is)) := pgs_imp (pgs_cons (g_name i (pos := pos) hN hi hx hf) h2 hs) (by
  rintro v σ H Q ⟨A, st, ds, s1, rs, hr, hg, q⟩
  cases ds with
  | nil => exact nomatch hg
  | cons d ds =>
    obtain ⟨u, r, e, r1, r2⟩ := reps_cons.mp hr
    exact ⟨u, r, e, A, st, d, st.set i (some (.v d)), rs, r1, rfl, fun σ' rs' => ⟨A, _, ds, s1, rs', r2, hg, q⟩⟩)
/-! a list is taken apart -/
theorem isList_but {h h' : Heap} {l it : Addr} {items : Array Value} (hl : h.IsList l items) (s : Heap.SameBut it h h') (hne : l ≠ it) : h'.IsList l items := by
  obtain ⟨o, e, r⟩ := hl
  exact ⟨o, (s.2 l hne).trans e, r⟩
theorem draw_list {M : Program} {w : World} {A : Around} {E : Value → Shared → Prop} {it t : Addr} {items : Array Value} (hne : t ≠ it) : ∀ (n i : Nat) (s : Shared) (Q : List Value → Shared → Prop), s.heap.IsListIter it t i → s.heap.IsList t items → i + n ≤ items.size →
    (∀ h', h'.IsListIter it t (i + n) → Heap.SameBut it s.heap h' → Q ((items.toList.drop i).take n) { s with heap := h' }) → wpAny (model M w) A (draw (.ref it) n) Q E s
  | 0, i, s, Q, hit, _, _, hQ => by
    show wpAny _ _ (pure []) Q E s
    exact wpAny_pure (by simpa using hQ s.heap hit (Heap.SameBut.refl ..))
  | n + 1, i, s, Q, hit, ht, hle, hQ => by
    have hlt : i < items.size := by omega
    show wpAny _ _ (pyNext (.ref it) >>= _) Q E s
    refine wpAny_bind (wpAny_pyNext_list_item hit ht (x := items[i]) (by simp [hlt]) fun h1 hit1 hs1 => ?_)
    refine wpAny_bind (wpAny_holding (draw_list hne n (i + 1) _ _ hit1 (isList_but ht hs1 hne) (by omega) fun h2 hit2 hs2 => wpAny_pure ?_))
    have hd : items.toList.drop i = items[i] :: items.toList.drop (i + 1) := by simp [List.drop_eq_getElem_cons, hlt]
    have := hQ h2 (by rw [show i + (n + 1) = i + 1 + n by omega]; exact hit2) (hs1.trans hs2)
    rw [hd, List.take_succ_cons] at this
    exact this
theorem assign_Tuple_list {M : Program} {w : World} {A : Around} {E : Value → Shared → Prop} {s : Shared} {env : Env} {elts : List Expr} {x1 : Nat} {pos : Pos} {t : Addr} {items : Array Value} {Q : Unit → Shared → Prop} (hh : A.handled = none) (ht : s.heap.IsList t items)
    (hn : (assignEach elts env).length = items.size) (hstar : (assignEach elts env).findIdx? (·.1) = none)
    (h : ∀ h', Heap.ExtBut s.heap.objs.size s.heap h' → wpAny (model M w) A (assignInOrder ((assignEach elts env).map (·.2)) items.toList) Q E { s with heap := h' }) :
    wpAny (model M w) A (assign (.Tuple elts x1 pos) env (.ref t)) Q E s := by
  have hlt : t ≠ s.heap.objs.size := by obtain ⟨o, ho, _⟩ := ht; exact Nat.ne_of_lt (Heap.lt_size ho)
  rw [assign_Tuple]
  refine wpAny_bind (wpAny_standAt ?_)
  unfold unpack
  rw [hn, hstar]
  refine wpAny_bind (wpAny_holding ?_)
  unfold unpackItems
  refine wpAny_bind ?_
  unfold notIterableAtAll
  refine wpAny_bind (wpAny_specialOf ht.typeIs PySem.F.slot_list_iter.lookup ?_)
  refine wpAny_pure ?_
  simp only [Bool.false_eq_true, if_false]
  refine wpAny_bind (wpAny_holding (wpAny_pyIter_list ht ?_))
  have ht0 : (s.heap.push { cls := .type "list_iterator", data := .fields #[.ref t, rawInt 0] }).IsList t items := by
    obtain ⟨o, ho, r⟩ := ht
    exact ⟨o, Heap.get?_push_of_some _ ho, r⟩
  refine wpAny_bind (wpAny_holding (draw_list hlt items.size 0 _ _ ⟨_, Heap.get?_push_size _ rfl, rfl, rfl⟩ ht0 (by omega) fun h1 hit1 hs1 => ?_))
  have hall : List.take items.size (List.drop 0 items.toList) = items.toList := by
    rw [List.drop_zero]; exact List.take_of_length_le (by simp)
  rw [hall]
  rw [if_neg (by simp)]
  refine wpAny_bind (wpAny_holding (wpAny_pyNext_list_end hh hit1 (isList_but ht0 hs1 hlt) (by simp) fun h2 he2 => ?_))
  simp only [Option.isSome_none, Bool.false_eq_true, if_false]
  refine wpAny_pure (h h2 fun b o hb e => he2 b o hb (hs1.extBut b o hb (Heap.get?_push_of_some _ e)))
def gSeq (K : PySem.W.Frag) (n : Nat) (t : TGs) : TG := fun v σ H Q => ∃ a xs, v = .ref a ∧ (SqT K H a xs ∨ SqL K H a xs) ∧ xs.length = n ∧ t xs σ H Q
theorem pg_seq {es : List Expr} {k : Nat} {t : TGs} {n : Nat} (hc : X.calm = true) (h : PGs X es t)
    (hn : (assignEach es X.env).length = n := by rfl) (hst : (assignEach es X.env).findIdx? (·.1) = none := by rfl) : PG X (.Tuple es k pos) (gSeq X.K n t) := by
  intro pins s σ H v u Q I r hw
  obtain ⟨a, xs, e1, hq, hl, hw⟩ := hw
  rcases hq with hq | hq
  · exact pg_tup hc h hn hst pins s σ H v u Q I r ⟨a, xs, e1, hq, hl, hw⟩
  · subst e1
    cases r
    obtain ⟨its, rv, ht, hz⟩ := I.list hq
    refine assign_Tuple_list (I.ok.hd hc) ht.isList (by simp [hn, ← hl, rv.length]) hst fun h' hx => ?_
    have I1 : Inv X pins σ H { s with heap := h' } := I.kept (t' := s.toks) fun b o e => hx b o (Nat.ne_of_lt (Heap.lt_size e)) e
    exact h pins _ σ H xs _ Q I1 (by simpa using rv) hw
theorem setAll_len {s1 : PSt} : ∀ (is : List Nat) (ds : List D) (st : PSt), setAll is ds st = .ok s1 → ds.length = is.length := by
  intro is
  induction is with
  | nil => intro ds st h; cases ds with | nil => rfl | cons _ _ => exact nomatch h
  | cons i is ih => intro ds st h; cases ds with | nil => exact nomatch h | cons _ ds => exact congrArg (· + 1) (ih ds _ h)
theorem g_tup {is : List Nat} {es : List Expr} {k : Nat} (hc : X.calm = true) (h : PGs X es (tGs X.K B is)) (hn : (assignEach es X.env).length = is.length := by rfl) (hst : (assignEach es X.env).findIdx? (·.1) = none := by rfl) : PG X (.Tuple es k pos) (tG X.K B (tgT is)) := pg_imp (pg_seq hc h hn hst) (by
  rintro v σ H Q ⟨A, st, d, s1, rs, hr, hg, q⟩
  cases d <;> first | (cases hg; done) | skip
  · rename_i ds
    obtain ⟨a, vs, e, h1, h2⟩ := rep_tup.mp hr
    exact ⟨a, vs, e, .inl (sqT_mono (hide_sub _ _) h1), by rw [h2.length]; exact setAll_len is ds st hg, A, st, ds, s1, rs, h2, hg, q⟩
  · rename_i ds
    obtain ⟨a, vs, e, h1, h2⟩ := rep_lst.mp hr
    exact ⟨a, vs, e, .inr ((hide_sub _ _).seq h1), by rw [h2.length]; exact setAll_len is ds st hg, A, st, ds, s1, rs, h2, hg, q⟩)
/-! ### for, while -/
theorem s_tgt {tg : Expr} {t : Tg} (he : PE X e (tI X.K B f)) (hg : PG X tg (tG X.K B t)) (hs : swapsWithSole [tg] e pos.line X.env = pure false := by rfl) (hw : swappedStores [tg] e X.env = pure none := by rfl)
    (h1 : (assignEach [tg] X.env).map (·.2) = [assign tg X.env] := by rfl) : PS X (.Assign [tg] e pos) (tS X.K B (sTgt t f)) := ps_imp (ps_asg he hg hs hw h1) (by
  rintro Dn σ H ⟨A, st, r, rs, hr, p⟩
  obtain ⟨d, hd, h3⟩ := R.ok_of hr
  obtain ⟨s1, hs1, h4⟩ := R.ok_of h3
  cases h4
  exact ⟨A, st, d, rs, hd, fun v H' s q => ⟨A, st, d, s1, rs.mono s, q, hs1, fun σ' rs' => p A σ' H' (Le.of s) rs'⟩⟩)
theorem s_for {tg iter : Expr} {body : List Stmt} {t : Tg} {it : ItE} (hi : L2.PI X tg iter (tIt X.K B it)) (hg : PG X tg (tG X.K B t)) (hb : PSs X body (tS X.K B bd)) (hp : PassesOwn (model X.prog X.w) X.A X.env X.xe) (hc : X.calm = true)
    (hs : ∀ x, foldedSetIterable iter X.env x = pure x := by intro _; rfl) : PS X (.For tg iter body [] pos) (tS X.K B (sFor t it bd)) := ps_imp (ps_for hp hc hi hg hb hs) (by
  rintro Dn σ H ⟨A, st, r, rs, hr, p⟩
  obtain ⟨ds, hd, h3⟩ := R.ok_of hr
  refine ⟨A, st, ds, rs, hd, fun J H1 s1 ito => ?_⟩
  refine ⟨fun i m σ' H' => ∃ A' st', m = ds.length - i ∧ i ≤ ds.length ∧ RS X.K B A' H' st' σ' ∧ forR t bd (ds.drop i) st' = .ok r ∧ Le A H1 A' H', ⟨ds.length, A, st, by simp, Nat.zero_le _, rs.mono s1, by rw [List.drop_zero]; exact h3, Le.refl⟩, ?_⟩
  rintro i m σ' H' ⟨A', st', rfl, hle, rs', hf, l⟩
  obtain ⟨i1, i2⟩ := ito A' H' l rs'.own i
  by_cases hlt : i < ds.length
  · have hd' : ds[i]? = some ds[i] := List.getElem?_eq_getElem hlt
    obtain ⟨go, yl⟩ := i1 _ hd'
    rw [List.drop_eq_getElem_cons hlt] at hf
    obtain ⟨s2, hs2, h5⟩ := R.ok_of hf
    obtain ⟨fl, hfl, h6⟩ := R.ok_of h5
    refine .inr ⟨go, fun σ2 H2 => ∃ A2 st2, i + 1 ≤ ds.length ∧ RS X.K B A2 H2 st2 σ2 ∧ forR t bd (ds.drop (i + 1)) st2 = .ok r ∧ Le A H1 A2 H2, ?_, fun x H2 y => ?_⟩
    · rintro σ2 H2 ⟨A2, st2, hle2, rs2, hf2, l2⟩
      exact ⟨ds.length - (i + 1), by omega, A2, st2, rfl, hle2, rs2, hf2, l2⟩
    · obtain ⟨rfl, rx⟩ := yl x H2 y
      refine ⟨A', st', ds[i], s2, rs', rx, hs2, fun σ3 rs3 => ⟨A', s2, fl, rs3, hfl, ?_⟩⟩
      cases fl with
      | nx s4 => exact fun A4 σ4 H4 l4 rs4 => ⟨A4, s4, hlt, rs4, h6, l.trans l4⟩
      | ct s4 => exact fun A4 σ4 H4 l4 rs4 => ⟨A4, s4, hlt, rs4, h6, l.trans l4⟩
      | bk s4 => cases h6; exact p.mono ((Le.of s1).trans l)
      | rt d => cases h6; exact p.mono ((Le.of s1).trans l)
  · have e : i = ds.length := by omega
    subst e
    rw [List.drop_length] at hf
    cases hf
    exact .inl ⟨i2 (Nat.le_refl _), p A' σ' H' ((Le.of s1).trans l) rs'⟩)
theorem s_while (n : Nat) {c : Expr} {t : Ex} {body : List Stmt} (hc : PT X c (tT X.K B t)) (hb : PSs X body (tS X.K B bd)) (hp : PassesOwn (model X.prog X.w) X.A X.env X.xe) : PS X (.While c body [] pos) (tS X.K B (sWhile n t bd)) := ps_imp (ps_while hp hc hb) (by
  rintro Dn σ H ⟨A, st, r, rs, hr, p⟩
  refine ⟨fun m σ' H' => ∃ A' st', RS X.K B A' H' st' σ' ∧ whileR t bd m st' = .ok r ∧ Le A H A' H', ⟨n, A, st, rs, hr, Le.refl⟩, ?_⟩
  rintro m σ' H' ⟨A', st', rs', hw, l⟩
  cases m with
  | zero => exact nomatch hw
  | succ m =>
    obtain ⟨d, hd, h3⟩ := R.ok_of hw
    obtain ⟨k, rfl, h4⟩ := onB_of h3
    refine ⟨A', st', k, rs', hd, fun H1 s1 => ?_⟩
    cases k with
    | false =>
      cases h4
      exact p A' σ' H1 (l.trans (Le.of s1)) (rs'.mono s1)
    | true =>
      obtain ⟨fl, hfl, h6⟩ := R.ok_of h4
      refine ⟨fun σ2 H2 => ∃ A2 st2, RS X.K B A2 H2 st2 σ2 ∧ whileR t bd m st2 = .ok r ∧ Le A H A2 H2, ?_, A', st', fl, rs'.mono s1, hfl, ?_⟩
      · rintro σ2 H2 ⟨A2, st2, rs2, hf2, l2⟩
        exact ⟨m, Nat.lt_succ_self m, A2, st2, rs2, hf2, l2⟩
      · cases fl with
        | nx s4 => exact fun A4 σ4 H4 l4 rs4 => ⟨A4, s4, rs4, h6, l.trans ((Le.of s1).trans l4)⟩
        | ct s4 => exact fun A4 σ4 H4 l4 rs4 => ⟨A4, s4, rs4, h6, l.trans ((Le.of s1).trans l4)⟩
        | bk s4 => cases h6; exact p.mono (l.trans (Le.of s1))
        | rt d => cases h6; exact p.mono (l.trans (Le.of s1)))
/-! ### what a loop goes through -/
theorem itl_of {K : PySem.W.Frag} {A : List Addr} {H : Hp} {ds : List D} {vs : List V} {l : Addr} (hq : SqL K (hide (A ++ B) H) l vs) (r : Reps K (hide (A ++ B) H) ds vs) : ItOf K B A H (Itl K l) ds := by
  intro A' H' le own i
  have hq' : SqL K H' l vs := (hide_sub _ _).seq ((Le.app le).seq hq)
  refine ⟨fun d hd => ?_, fun hl => ⟨vs, hq', by rw [r.length]; exact hl⟩⟩
  obtain ⟨v, hv, rv⟩ := r.get hd
  refine ⟨⟨vs, v, hq', hv⟩, fun x H3 y => ⟨y.1, ?_⟩⟩
  have hx := y.2 vs hq'
  rw [hv] at hx
  cases hx
  exact rv.mono (Le.app le)
theorem itt_of {K : PySem.W.Frag} {A : List Addr} {H : Hp} {ds : List D} {vs : List V} {l : Addr} (hq : SqT K (hide (A ++ B) H) l vs) (r : Reps K (hide (A ++ B) H) ds vs) : ItOf K B A H (Itt K l) ds := by
  intro A' H' le own i
  have hq' : SqT K H' l vs := sqT_mono (hide_sub _ _) (sqT_mono (Le.app le) hq)
  refine ⟨fun d hd => ?_, fun hl => ⟨vs, hq', by rw [r.length]; exact hl⟩⟩
  obtain ⟨v, hv, rv⟩ := r.get hd
  refine ⟨⟨vs, v, hq', hv⟩, fun x H3 y => ⟨y.1, ?_⟩⟩
  have hx := y.2 vs hq'
  rw [hv] at hx
  cases hx
  exact rv.mono (Le.app le)
theorem itr_of {K : PySem.W.Frag} {A : List Addr} {H : Hp} {lo : Int} {n : Nat} : ItOf K B A H (Itr lo n) (rangeD lo n) := by
  intro A' H' le own i
  have hl : (rangeD lo n).length = n := by simp [rangeD]
  refine ⟨fun d hd => ?_, fun h => by rw [hl] at h; exact h⟩
  have hi : i < n := by
    have := (List.getElem?_eq_some_iff.mp hd).1
    rw [hl] at this; exact this
  have e : d = .int (lo + (i : Int)) := by
    unfold rangeD at hd
    rw [List.getElem?_map, List.getElem?_range hi] at hd
    exact (Option.some.inj hd).symm
  subst e
  exact ⟨hi, fun x H3 y => ⟨y.1, rep_int.mpr y.2⟩⟩
/-- the signs of a text -/
def Its (z : List Nat) : It := ⟨fun i _ => i < z.length, fun i H x H' => H' = H ∧ ∃ c, z[i]? = some c ∧ x = .str ⟨#[c]⟩, fun i _ => z.length ≤ i⟩
theorem turn_str {P : Program} {w : World} {K : PySem.W.Frag} {tg : Expr} {z : List Nat} {it : Addr} {n : String} {t : Tok} (hn : n = "str_ascii_iterator" ∨ n = "str_iterator") : Turn P w K tg (Its z) [it] it (fun i h => h.IsStrIter it n ⟨z.toArray⟩ t i) where
  mem := by simp
  obj := fun i h st b hb => by
    have e : b = it := by simpa using hb
    subst e
    obtain ⟨o, e, c, d⟩ := st
    exact ⟨o, e, fun v z => by rw [d] at z; cases z⟩
  keep := fun i h h' st k => let ⟨o, e, r⟩ := st; ⟨o, k it (by simp) o e, r⟩
  item := by
    intro X hP hw hK hc i pins s σ H E I hf st hg
    subst hP hw hK
    obtain ⟨f0, f1, f2, f3, f4, f5⟩ := hf it (by simp)
    have fin : ∀ v h' tk, SignAt ⟨z.toArray⟩ i v → Heap.IsStrIter h' it n ⟨z.toArray⟩ t (i + 1) → (∀ b o, b ∉ [it] → s.heap.get? b = some o → h'.get? b = some o) →
        ∃ u, some v = some u ∧ wpAny (model X.prog X.w) X.A (letOwnedTupleGo tg (.ref it) u) (fun _ s2 => ∃ x H', Inv X pins σ H' s2 ∧ RelV x u ∧ (Its z).yld i H x H' ∧ Heap.IsStrIter s2.heap it n ⟨z.toArray⟩ t (i + 1) ∧ ∀ b ∈ [it], H' b = none) E { s with heap := h', toks := tk } := by
      intro v h' tk hv st' kk
      obtain ⟨c, u, hcu, rfl⟩ := hv
      have I1 : Inv X pins σ H { s with heap := h', toks := tk } := I.turned (fun b o hb e => kk b o (by simpa using hb) e) f0 f1 f3 f4 f5
      obtain ⟨o, e, c', d⟩ := id st'
      refine ⟨_, rfl, go_of (s := { s with heap := h', toks := tk }) e c' d (by rcases hn with rfl | rfl <;> decide) ⟨.str ⟨#[c]⟩, H, I1, ⟨u, rfl⟩, ⟨rfl, c, ?_, rfl⟩, st', fun b hb => (hf b hb).1⟩⟩
      simpa using hcu
    have hg2 : i < z.length := hg
    have hg' : i < (⟨z.toArray⟩ : Str).cps.size := by simpa using hg2
    rcases hn with rfl | rfl
    · exact (Walks.strAscii (prog := X.prog) (w := X.w) (I.ok.hd hc) it ⟨z.toArray⟩ t).item i s _ _ hg' st fun v h' tk hv st' kk => fin v h' tk hv st' kk
    · exact (Walks.strWide (prog := X.prog) (w := X.w) (I.ok.hd hc) it ⟨z.toArray⟩ t).item i s _ _ hg' st fun v h' tk hv st' kk => fin v h' tk hv st' kk
  done := by
    intro X hP hw hK hc i pins s σ H E I hf st hg
    subst hP hw hK
    obtain ⟨f0, f1, f2, f3, f4, f5⟩ := hf it (by simp)
    have hg2 : z.length ≤ i := hg
    rcases hn with rfl | rfl
    · exact wpAny_pyNext_ascii_end (I.ok.hd hc) st (by simpa using hg2) fun h' eb => ⟨rfl, I.turned (t' := s.toks) (fun b o hb e => eb b o hb e) f0 f1 f3 f4 f5⟩
    · exact wpAny_pyNext_wide_end (I.ok.hd hc) st (by simpa using hg2) fun h' eb => ⟨rfl, I.turned (t' := s.toks) (fun b o hb e => eb b o hb e) f0 f1 f3 f4 f5⟩
  self := fun _ _ _ _ _ st h => by
    rcases hn with rfl | rfl
    · exact wpAny_pyIter_striter_ascii st h
    · exact wpAny_pyIter_striter_wide st h
theorem its_of {K : PySem.W.Frag} {A : List Addr} {H : Hp} {z : List Nat} : ItOf K B A H (Its z) (z.map fun c => .str [c]) := by
  intro A' H' le own i
  refine ⟨fun d hd => ?_, fun h => (by simpa using h : z.length ≤ i)⟩
  rw [List.getElem?_map] at hd
  cases hz : z[i]? with
  | none => rw [hz] at hd; cases hd
  | some c =>
    rw [hz] at hd
    cases hd
    refine ⟨(List.getElem?_eq_some_iff.mp hz).1, fun x H3 y => ⟨y.1, ?_⟩⟩
    obtain ⟨c', hc', rfl⟩ := y.2
    rw [hz] at hc'
    cases hc'
    exact rep_str.mpr rfl
/-- a list, a tuple or a text -/
def iSeq (K : PySem.W.Frag) (tl : TE) : TI := fun σ H R => tl σ H fun x H1 => (∃ a, x = .ref a ∧ (((∃ xs, SqL K H1 a xs) ∧ R (Itl K a) H1) ∨ ((∃ xs, SqT K H1 a xs) ∧ R (Itt K a) H1))) ∨ ∃ z : List Nat, x = .str ⟨z.toArray⟩ ∧ R (Its z) H1
theorem pi_seq {tg l : Expr} {tl : TE} (hl : PE X l tl) : L2.PI X tg l (iSeq X.K tl) := by
  intro pins s σ H R I h
  refine thn (hl pins s σ H _ I h) fun v s1 ⟨x, H1, I1, r1, q1⟩ => ?_
  rcases q1 with ⟨a, e, q⟩ | ⟨z, rfl, q⟩
  rotate_left
  · obtain ⟨t, rfl⟩ := r1
    refine wpAny_pyIter_strU ?_
    refine ⟨s1.heap.objs.size, [s1.heap.objs.size], _, _, H1, rfl, I1.kept (t' := s1.toks) fun b o e => Heap.get?_push_of_some _ e, turn_str (z := z) (n := strIterType ⟨z.toArray⟩) (t := t) (by unfold strIterType; split <;> simp), ⟨_, Heap.get?_push_size _ rfl, rfl, rfl⟩, fun b hb => ?_, q⟩
    have e : b = s1.heap.objs.size := by simpa using hb
    subst e
    exact I1.fpOk (Nat.le_refl _) (I1.hok.fresh (Nat.le_refl _))
  subst e
  cases r1
  rcases q with ⟨⟨xs, hq⟩, q⟩ | ⟨⟨xs, hq⟩, q⟩
  · obtain ⟨its, rv, p, hz⟩ := I1.list hq
    refine wpAny_pyIter_list p.isList ?_
    refine ⟨s1.heap.objs.size, [s1.heap.objs.size], _, _, H1, rfl, I1.kept (t' := s1.toks) fun b o e => Heap.get?_push_of_some _ e, turn_list a _, ⟨_, Heap.get?_push_size _ rfl, rfl, rfl⟩, fun b hb => ?_, q⟩
    have e : b = s1.heap.objs.size := by simpa using hb
    subst e
    exact I1.fpOk (Nat.le_refl _) (I1.hok.fresh (Nat.le_refl _))
  · obtain ⟨its, rv, p, hz⟩ := I1.tuple hq
    refine wpAny_pyIter_tuple (show s1.heap.IsTuple a its.toArray from p) ?_
    refine ⟨s1.heap.objs.size, [s1.heap.objs.size], _, _, H1, rfl, I1.kept (t' := s1.toks) fun b o e => Heap.get?_push_of_some _ e, turn_tuple a _, ⟨_, Heap.get?_push_size _ rfl, rfl, rfl⟩, fun b hb => ?_, q⟩
    have e : b = s1.heap.objs.size := by simpa using hb
    subst e
    exact I1.fpOk (Nat.le_refl _) (I1.hok.fresh (Nat.le_refl _))
theorem it_e {tg l : Expr} (hl : PE X l (tI X.K B f)) : L2.PI X tg l (tIt X.K B (itE f)) := pi_imp (pi_seq hl) (by
  rintro σ H Rq ⟨A, st, ds, rs, hd, q⟩
  obtain ⟨x, hx, h2⟩ := R.ok_of hd
  refine ⟨A, st, x, rs, hx, fun v H1 s1 r1 => ?_⟩
  cases x <;> first | (cases h2; done) | skip
  · obtain ⟨_, h2⟩ := guardR_of h2
    cases h2
    exact .inr ⟨_, rep_str.mp r1, q _ H1 s1 its_of⟩
  · cases h2
    obtain ⟨a, vs, e, h3, r3⟩ := rep_tup.mp r1
    exact .inl ⟨a, e, .inr ⟨⟨vs, sqT_mono (hide_sub _ _) h3⟩, q _ H1 s1 (itt_of h3 r3)⟩⟩
  · cases h2
    obtain ⟨a, vs, e, h3, r3⟩ := rep_lst.mp r1
    exact .inl ⟨a, e, .inl ⟨⟨vs, (hide_sub _ _).seq h3⟩, q _ H1 s1 (itl_of h3 r3)⟩⟩)
theorem tA1 {σ : LSt} {H : Hp} {Q : List V → Hp → Prop} (h : tP X.K B f σ H fun x H1 => Q [x] H1) : tCons (tP X.K B f) tNil σ H Q := h
theorem it_r1 {tg : Expr} {p : Pos} (hm : X.mg "range" = none) (ha : PE X a (tP X.K B f)) (hg : Gl X "range" := by rfl) (hs : starEach [a] X.env = [(false, eval a X.env)] := by rfl) : L2.PI X tg (.Call (.Name "range" p) [a] [] pos) (tIt X.K B (itR1 f)) := pi_imp (pi_range1 hg hm (pa_cons ha pa_nil hs) hs) (by
  rintro σ H Rq ⟨A, st, ds, rs, hd, q⟩
  obtain ⟨x, hx, h2⟩ := R.ok_of hd
  obtain ⟨j, rfl, h3⟩ := inI_of h2
  obtain ⟨c, h4⟩ := guardR_of h3
  rw [big_eq] at c
  cases h4
  exact ⟨A, st, _, rs, hx, fun v H1 s1 r1 => ⟨j, by rw [r1.int], by omega, by omega, q _ H1 s1 itr_of⟩⟩)
theorem it_r2 {tg : Expr} {p : Pos} (hm : X.mg "range" = none) (ha : PE X a (tP X.K B f)) (hb : PE X b (tP X.K B g)) (hg : Gl X "range" := by rfl) (hs : starEach [a, b] X.env = [(false, eval a X.env), (false, eval b X.env)] := by rfl) (hs2 : starEach [b] X.env = [(false, eval b X.env)] := by rfl)
    (hs3 : starEach [a, b] X.env = (false, eval a X.env) :: starEach [b] X.env := by rfl) : L2.PI X tg (.Call (.Name "range" p) [a, b] [] pos) (tIt X.K B (itR2 f g)) := pi_imp (pi_range2 hg hm (pa_cons ha (pa_cons hb pa_nil hs2) hs3) hs hs2) (by
  rintro σ H Rq ⟨A, st, ds, rs, hd, q⟩
  obtain ⟨x, hx, h2⟩ := R.ok_of hd
  obtain ⟨y, hy, h5⟩ := R.ok_of h2
  obtain ⟨i, rfl, h6⟩ := inI_of h5
  obtain ⟨j, rfl, h3⟩ := inI_of h6
  obtain ⟨c, h4⟩ := guardR_of h3
  rw [big_eq] at c
  cases h4
  exact ⟨A, st, _, rs, hx, fun v H1 s1 r1 => ⟨A, st, _, rs.mono s1, hy, fun u H2 s2 r2 => ⟨i, j, by rw [r1.int, r2.int], ⟨by omega, by omega, by omega, by omega⟩, q _ H2 (s1.trans s2) itr_of⟩⟩⟩)
end
/-! ### a def -/
theorem start_rs {K : PySem.W.Frag} {B : List Addr} {H : Hp} {N : List Str} {ds : List D} {vs : List V} (w : Own B H) (r : Reps K (hide B H) ds vs) : RS K B [] H (ds.map (fun d => some (Sl.v d)) ++ List.replicate (N.length - ds.length) none) (L2.start N vs) := by
  have hl := r.length
  have nov : ∀ (i : Nat) (s : Sl), (ds.map (fun d => some (Sl.v d)) ++ List.replicate (N.length - ds.length) none)[i]? = some (some s) → ∃ d, ds[i]? = some d ∧ s = .v d := fun i s e => by
    by_cases hi : i < ds.length
    · rw [List.getElem?_append_left (by simpa using hi), List.getElem?_map, List.getElem?_eq_getElem hi] at e
      simp at e
      exact ⟨ds[i], List.getElem?_eq_getElem hi, e.symm⟩
    · rw [List.getElem?_append_right (by simpa using hi), List.getElem?_replicate] at e
      split at e <;> simp at e
  refine ⟨by unfold L2.start; simp [hl], by rw [List.nil_append]; exact w, fun a ha => absurd ha (by simp), fun i d e => ?_, fun i xs e => ?_⟩
  · obtain ⟨d', e1, e2⟩ := nov i _ e
    cases e2
    obtain ⟨v, hv, rv⟩ := r.get e1
    refine ⟨v, ?_, by rw [List.nil_append]; exact rv⟩
    unfold L2.start
    have hi : i < vs.length := (List.getElem?_eq_some_iff.mp hv).1
    rw [List.getElem?_append_left (by simpa using hi), List.getElem?_map, hv]
    rfl
  · obtain ⟨d', e1, e2⟩ := nov i _ e
    cases e2
theorem fn_i {P : Program} {w : World} {K : PySem.W.Frag} {mg : Str → Option Value} {base : Heap} {x qual : Str} {st : Stmt} {f : Addr} {fd : FuncData} {N ps : List Str} {k : Nat} (F : Fun K x qual st f fd) (S : FnScope N ps (defScope st)) (np n : Nat) (bd : Bd) (hnp : ps.length = np) (hn : N.length = n)
    (hb : ∀ (cdv : Value) (A : Around) (outer : List Env) (s : Shared) (H : Hp) (E : XK) (B : List Addr), Room k (A.deeper (envOfC qual (defScope st) s.heap.objs.size f cdv)) →
      PSs (cxOf CX0 P w K mg base N qual (defScope st) f cdv A outer s H E).nox (defBody st) (tS K B bd)) : FnOk P w K mg base CX0 (k + 1) f fd ps (spI K np (runD np n bd)) := by
  refine F.ok S (fun vs H Q E h => ?_) (fun cdv A outer s H vs Q E hr h => ?_)
  · obtain ⟨A, ds, d, own, r, hl, _⟩ := h
    rw [r.length, hl, hnp]
  · obtain ⟨B, ds, d, own, r, hl, hp, q⟩ := h
    refine ⟨tS K B bd, hb cdv A outer s H E B hr, ?_⟩
    obtain ⟨_, h2⟩ := guardR_of hp
    obtain ⟨fl, hfl, h3⟩ := R.ok_of h2
    have rs := start_rs (N := N) own r
    rw [hl, hn] at rs
    refine ⟨[], _, fl, rs, hfl, ?_⟩
    have fin : ∀ {A' : List Addr} {H' : Hp}, Le [] H A' H' → Same H H' := fun {A' H'} l => by
      unfold Le at l
      rw [hide_nil] at l
      exact l.trans (hide_sub _ _)
    cases fl with
    | nx s1 =>
      cases h3
      exact fun A' σ' H' l rs' => q _ H' (fin l) (rep_non.mpr rfl)
    | rt d' =>
      cases h3
      exact fun A' v H' l rv => q v H' (fin l) (rv.mono (hide_more fun a ha => List.mem_append_right _ ha))
    | bk s1 => exact nomatch h3
    | ct s1 => exact nomatch h3
theorem runD_len {np n : Nat} {bd : Bd} (ds : List D) (d : D) (h : runD np n bd ds = .ok d) : ds.length = np := (guardR_of h).1
end Pu

/-! Calls of the text's defs by name, slices, len, isinstance, ==, texts. -/
namespace Pu
open PySem PySem.Spec PyProof.Rows L2
structure DefOk (P : Program) (w : World) (K : PySem.W.Frag) (mg : Str → Option Value) (base : Heap) (x : Str) (k np : Nat) (p : List D → R D) : Prop where
  ex : ∃ (fa : Addr) (fd : FuncData) (ps : List Str), FnOk P w K mg base CX0 k fa fd ps (spI K np p) ∧ mg x = some (.ref fa) ∧ PySem.W.keepIn K (.ref fa) = true ∧ Binds K fd ps []
  len : ∀ ds d, p ds = .ok d → ds.length = np
theorem DefOk.of {P : Program} {w : World} {K : PySem.W.Frag} {mg : Str → Option Value} {base : Heap} {x : Str} {k np : Nat} {p : List D → R D} {fa : Addr} {fd : FuncData} {ps : List Str} (h : FnOk P w K mg base CX0 k fa fd ps (spI K np p)) (m : mg x = some (.ref fa))
    (kp : PySem.W.keepIn K (.ref fa) = true) (b : Binds K fd ps []) (l : ∀ ds d, p ds = .ok d → ds.length = np) : DefOk P w K mg base x k np p := ⟨⟨fa, fd, ps, h, m, kp, b⟩, l⟩
section
variable {X : Cx} {B : List Addr} {a b e : Expr} {f g : Ex} {pos : Pos}
theorem i_callD {x : Str} {k j np : Nat} {p : List D → R D} {es : List Expr} {r : Exs} {p0 : Pos} (h : DefOk X.prog X.w X.K X.mg X.base x k np p) (hr : Room j X.A) (hk : k ≤ j) (ha : PA X (e :: es) (tA X.K B r)) (hg : Gl X x := by rfl) (hdb : (x == ("__debug__" : Str)) = false := by decide)
    (he : starEach (e :: es) X.env = (false, eval e X.env) :: starEach es X.env := by rfl) (hpl : (backTo pos (starEach es X.env)).any (·.1) = false := by rfl) : PE X (.Call (.Name x p0) (e :: es) [] pos) (tI X.K B (eCall p r)) := by
  obtain ⟨fa, fd, ps, F, m, kp, bd⟩ := h.ex
  exact i_call F (hr.mono hk) m kp bd h.len ha hg hdb he hpl
/-- the law's own promise at the script -/
theorem law_sp {K : PySem.W.Frag} {H : Hp} {a : Addr} {ns : List Int} {p : List D → R D} {E : XK} (hS : SqL K H a (ns.map V.int)) (h : p [.lst (ns.map D.int)] = .ok (.bl true)) : spI K 1 p [.ref a] H (fun v _ => v = .bl true) E := by
  refine ⟨[], [.lst (ns.map D.int)], .bl true, fun b hb => absurd hb (by simp), ?_, rfl, h, fun v H' _ r => rep_bl.mp r⟩
  rw [hide_nil]
  refine .cons (rep_lst.mpr ⟨a, _, rfl, hS, ?_⟩) .nil
  clear hS h
  induction ns with
  | nil => exact .nil
  | cons n ns ih => exact .cons (rep_int.mpr rfl) ih
/-! ### len -/
theorem i_len {p0 : Pos} (hm : X.mg "len" = none) (ha : PE X a (tP X.K B f)) (hg : Gl X "len" := by rfl) (hs : starEach [a] X.env = (false, eval a X.env) :: starEach [] X.env := by rfl) : PE X (.Call (.Name "len" p0) [a] [] pos) (tI X.K B (e1 dLen f)) := by
  refine pe_imp (pe_callB (call_len_seq.or call_len_str) hg hm PySem.boot_len (pa_cons ha pa_nil hs) (he := hs)) ?_
  rintro σ H Q ⟨A, st, d, rs, hd, q⟩
  obtain ⟨x, hx, h2⟩ := R.ok_of hd
  refine ⟨A, st, x, rs, hx, fun v H1 s1 r1 => ?_⟩
  cases x <;> first | (cases h2; done) | skip
  · obtain ⟨c, h3⟩ := guardR_of h2
    cases h3
    exact .inr ⟨_, by rw [r1.str], by rw [str_len]; exact lim c, by rw [str_len]; exact q _ H1 s1 (rep_int.mpr rfl)⟩
  · cases h2
    obtain ⟨l, vs, e, h3, r3⟩ := r1.tup
    exact .inl ⟨l, vs, by rw [e], .inr h3, by rw [r3.length]; exact q _ H1 s1 (rep_int.mpr rfl)⟩
  · cases h2
    obtain ⟨l, vs, e, h3, r3⟩ := r1.lst
    exact .inl ⟨l, vs, by rw [e], .inl h3, by rw [r3.length]; exact q _ H1 s1 (rep_int.mpr rfl)⟩
/-! ### slices -/
theorem o_none : PO X none (tO X.K B oNone) := po_imp po_none (by
  rintro σ H Q ⟨A, st, o, rs, ho, q⟩
  cases ho
  exact q H (Same.refl _))
theorem o_some (h : PE X e (tP X.K B f)) : PO X (some e) (tO X.K B (oSome f)) := po_imp (po_some h) (by
  rintro σ H Q ⟨A, st, o, rs, ho, q⟩
  obtain ⟨x, hx, h2⟩ := R.ok_of ho
  obtain ⟨i, rfl, h3⟩ := inI_of h2
  cases h3
  exact ⟨A, st, _, rs, hx, fun v H1 s1 r1 => ⟨i, r1.int, q H1 s1⟩⟩)
theorem fm_range {α : Type} (x : List α) : ∀ (k a : Nat), ((List.range k).map (a + ·)).filterMap (x[·]?) = (x.drop a).take k
  | 0, a => by simp
  | k + 1, a => by
    rw [List.range_succ_eq_map, List.map_cons, List.filterMap_cons, List.map_map]
    have e : ((fun b => a + b) ∘ Nat.succ) = fun b => (a + 1) + b := by funext b; simp only [Function.comp_apply]; omega
    rw [e]
    have ih := fm_range x k (a + 1)
    rw [ih]
    by_cases h : a < x.length
    · rw [Nat.add_zero, List.getElem?_eq_getElem h]
      simp only [List.drop_eq_getElem_cons h, List.take_succ_cons]
    · rw [Nat.add_zero, List.getElem?_eq_none (by omega)]
      simp only [List.drop_eq_nil_of_le (by omega : x.length ≤ a), List.drop_eq_nil_of_le (by omega : x.length ≤ a + 1), List.take_nil]
theorem clip_lo (n d : Nat) (o : Option Int) : (match o with | none => (d : Int) | some i => if (1 : Int) > 0 then max 0 (min (if i < 0 then i + (n : Int) else i) (n : Int)) else max (-1) (min (if i < 0 then i + (n : Int) else i) ((n : Int) - 1))) = ((sIx n d o : Nat) : Int) := by
  cases o with
  | none => rfl
  | some i =>
    show (if (1 : Int) > 0 then _ else _) = (((if i < 0 then (i + (n : Int)).toNat else min i.toNat n) : Nat) : Int)
    rw [if_pos (by decide)]
    by_cases h : i < 0
    · rw [if_pos h, if_pos h]; omega
    · rw [if_neg h, if_neg h]; omega
theorem slice_ix (lo hi : Option Int) (n : Nat) : Builtin.Str.strSliceIndices lo hi 1 n = (List.range (sIx n n hi - sIx n 0 lo)).map (sIx n 0 lo + ·) := by
  unfold Builtin.Str.strSliceIndices
  simp only [show (1 : Int) > 0 by decide, if_true]
  have e1 := clip_lo n 0 lo
  have e2 := clip_lo n n hi
  simp only [show (1 : Int) > 0 by decide, if_true] at e1 e2
  rw [show ((0 : Nat) : Int) = 0 from rfl] at e1
  refine Eq.trans (congrArg (fun z => sliceRange z _ 1) (show _ = ((sIx n 0 lo : Nat) : Int) from e1)) (Eq.trans (congrArg (fun z => sliceRange _ z 1) (show _ = ((sIx n n hi : Nat) : Int) from e2)) ?_)
  unfold sliceRange
  simp only [show (1 : Int) > 0 by decide, if_true]
  have hc : (if ((sIx n 0 lo : Nat) : Int) < ((sIx n n hi : Nat) : Int) then (((sIx n n hi : Nat) : Int) - ((sIx n 0 lo : Nat) : Int) + 1 - 1) / 1 else 0).toNat = sIx n n hi - sIx n 0 lo := by
    by_cases h : ((sIx n 0 lo : Nat) : Int) < ((sIx n n hi : Nat) : Int)
    · rw [if_pos h, Int.ediv_one]; omega
    · rw [if_neg h]; omega
  rw [hc]
  refine List.map_congr_left fun k _ => ?_
  omega
theorem sIx_le' (n d : Nat) (hd : d ≤ n) (o : Option Int) : sIx n d o ≤ n := by
  cases o with
  | none => exact hd
  | some v =>
    show (if v < 0 then (v + (n : Int)).toNat else min v.toNat n) ≤ n
    by_cases hv : v < 0
    · rw [if_pos hv]; omega
    · rw [if_neg hv]; omega
theorem cut_slice (x : List Nat) (lo hi : Option Int) : Txt.slice ⟨x.toArray⟩ lo hi = ⟨(cut x lo hi).toArray⟩ := by
  unfold Txt.slice cut
  rw [str_len, slice_ix, List.length_map, List.length_range]
  have h1 := sIx_le' x.length x.length (Nat.le_refl _) hi
  by_cases h : sIx x.length x.length hi - sIx x.length 0 lo = x.length
  · have e0 : sIx x.length 0 lo = 0 ∨ x.length = 0 := by omega
    rw [if_pos (by simp [h]), h]
    rcases e0 with e0 | e0
    · rw [e0, List.drop_zero, List.take_length]
    · rw [List.length_eq_zero_iff.mp e0]; simp
  · rw [if_neg (by simp [h])]
    have e : (fun (i : Nat) => (⟨x.toArray⟩ : Str).cps[i]?) = fun i => x[i]? := by funext i; simp
    rw [e, fm_range]
def rSlS : V → Option Int → Option Int → Hp → VK → Prop := fun x lo hi H Q => ∃ z : List Nat, x = .str ⟨z.toArray⟩ ∧ z.length ≤ sizeLine ∧ Q (.str ⟨(cut z lo hi).toArray⟩) H
theorem sl_str : SlR X rSlS := by
  intro pins s σ H x v vl vu lo hi sl Q I rx hs pl pu h
  obtain ⟨z, rfl, hz, q⟩ := h
  obtain ⟨t, rfl⟩ := rx
  refine ⟨"str", _, PySem.F.slot_str_getitem.lookup, typeIs_str _ _ _, ?_⟩
  have hl : (Txt.slice ⟨z.toArray⟩ lo hi).length ≤ sizeLine := Nat.le_trans (Txt.slice_le _ _ _) (by rw [str_len]; exact hz)
  have fin : ∀ t' k, EP X pins σ Q (.str (Txt.slice ⟨z.toArray⟩ lo hi) t') { s with toks := k } := fun t' k => ⟨.str ⟨(cut z lo hi).toArray⟩, H, I.tok k, ⟨t', by rw [cut_slice]⟩, q⟩
  cases pl with
  | none =>
    cases pu with
    | none => exact wpAny_getItem_str_slice (l := none) (u := none) (st := none) hs rfl (post_val_or_str ⟨hl, fin⟩)
    | int j uj => exact wpAny_getItem_str_slice (l := none) (u := some (j, uj)) (st := none) hs rfl (post_val_or_str ⟨hl, fin⟩)
  | int i ui =>
    cases pu with
    | none => exact wpAny_getItem_str_slice (l := some (i, ui)) (u := none) (st := none) hs rfl (post_val_or_str ⟨hl, fin⟩)
    | int j uj => exact wpAny_getItem_str_slice (l := some (i, ui)) (u := some (j, uj)) (st := none) hs rfl (post_val_or_str ⟨hl, fin⟩)
theorem cutV_cut {K : PySem.W.Frag} {H : Hp} {ds : List D} {vs : List V} (lo hi : Option Int) (r : Reps K H ds vs) : Reps K H (cut ds lo hi) (cutV vs lo hi) := by
  unfold cut cutV
  rw [r.length]
  exact (r.drop _).take _
theorem i_sl {lo hi : Option Expr} {l u : ExO} {p2 : Pos} (ha : PE X a (tP X.K B f)) (hl : PO X lo (tO X.K B l)) (hu : PO X hi (tO X.K B u)) : PE X (.Subscript a (.Slice lo hi none p2) pos) (tI X.K B (eSl f l u)) := by
  refine pe_imp (pe_slice (sl_list.or sl_str) ha hl hu) ?_
  rintro σ H Q ⟨A, st, d, rs, hd, q⟩
  obtain ⟨x, hx, h2⟩ := R.ok_of hd
  obtain ⟨l', hl', h3⟩ := R.ok_of h2
  obtain ⟨u', hu', h4⟩ := R.ok_of h3
  refine ⟨A, st, x, rs, hx, fun v H1 s1 r1 => ⟨A, st, l', rs.mono s1, hl', fun H2 s2 => ⟨A, st, u', rs.mono (s1.trans s2), hu', fun H3 s3 => ?_⟩⟩⟩
  have r3 := r1.mono (s2.trans s3)
  cases x <;> first | (cases h4; done) | skip
  · obtain ⟨c, h5⟩ := guardR_of h4
    cases h5
    exact .inr ⟨_, r3.str, lim c, q _ H3 (s1.trans (s2.trans s3)) (rep_str.mpr rfl)⟩
  · cases h4
    obtain ⟨p, vs, e, h6, r6⟩ := r3.lst
    refine .inl ⟨p, vs, e, h6, fun n hn => q _ _ (s1.trans (s2.trans (s3.trans (same_upd hn)))) ?_⟩
    exact rep_new_lst (rs.own.mono (s1.trans (s2.trans s3))) hn (cutV_cut _ _ r6)
end
end Pu

/-! A comprehension of one clause, as a block of its own. -/
namespace Pu
open PySem PySem.Spec PyProof.Rows L2
/-! ### the cells that a block takes along -/
def clo (cells : List (Str × Addr)) : List (Str × NameKind) → List (Str × Addr) → List (Str × Addr)
  | [], acc => acc
  | (n, k) :: r, acc => if k == .free then clo cells r ((n, (cells.lookup n).getD 0) :: acc) else clo cells r acc
theorem closure_eq {env : Env} : ∀ (names : List (Str × NameKind)) (acc : List (Str × Addr)), (∀ y ∈ names, y.2 = .free → ∃ c, env.cells.lookup y.1 = some c) →
    (forIn names acc fun x cs => if x.2 == .free then (do let c ← cellOf env x.1; pure (ForInStep.yield ((x.1, c) :: cs))) else pure (ForInStep.yield cs) : Sem (List (Str × Addr))) = pure (clo env.cells names acc)
  | [], acc, _ => by rw [List.forIn_nil]; rfl
  | (n, k) :: r, acc, h => by
    rw [List.forIn_cons]
    unfold clo
    by_cases hk : k = .free
    · subst hk
      obtain ⟨c, e⟩ := h (n, .free) List.mem_cons_self rfl
      have e2 : cellOf env n = pure c := by unfold cellOf; rw [e]
      simp only [beq_self_eq_true, if_true, e2, e, Option.getD_some]
      show (forIn r ((n, c) :: acc) _ : Sem (List (Str × Addr))) = _
      exact closure_eq r _ fun y hy => h y (List.mem_cons_of_mem _ hy)
    · have hb : (k == NameKind.free) = false := by simpa using hk
      simp only [hb, Bool.false_eq_true, if_false]
      show (forIn r acc _ : Sem (List (Str × Addr))) = _
      exact closure_eq r _ fun y hy => h y (List.mem_cons_of_mem _ hy)
theorem closureFor_eq {scope : Scope} {env : Env} (h : ∀ y ∈ scope.names, y.2 = .free → ∃ c, env.cells.lookup y.1 = some c) : closureFor scope env = pure (clo env.cells scope.names []) := by
  have q := closure_eq (env := env) scope.names [] h
  unfold closureFor
  rw [← q]
  simp only [pure_bind, bind_pure]
theorem clo_mem {cells : List (Str × Addr)} : ∀ (names : List (Str × NameKind)) (acc : List (Str × Addr)) (x : Str) (c : Addr), (∀ y ∈ names, y.2 = .free → ∃ c, cells.lookup y.1 = some c) → (x, c) ∈ clo cells names acc → ((x, NameKind.free) ∈ names ∧ cells.lookup x = some c) ∨ (x, c) ∈ acc
  | [], acc, x, c, _, h => .inr h
  | (n, k) :: r, acc, x, c, hn, h => by
    unfold clo at h
    have hr : ∀ y ∈ r, y.2 = .free → ∃ c, cells.lookup y.1 = some c := fun y hy => hn y (List.mem_cons_of_mem _ hy)
    by_cases hk : k = .free
    · subst hk
      rw [if_pos (by simp)] at h
      obtain ⟨c', e⟩ := hn (n, .free) List.mem_cons_self rfl
      rcases clo_mem r _ x c hr h with ⟨h1, h2⟩ | h1
      · exact .inl ⟨List.mem_cons_of_mem _ h1, h2⟩
      · rcases List.mem_cons.mp h1 with h1 | h1
        · cases h1
          refine .inl ⟨List.mem_cons_self, ?_⟩
          have e' : cells.lookup n = some c' := e
          rw [e']; rfl
        · exact .inr h1
    · rw [if_neg (by simpa using hk)] at h
      rcases clo_mem r _ x c hr h with ⟨h1, h2⟩ | h1
      · exact .inl ⟨List.mem_cons_of_mem _ h1, h2⟩
      · exact .inr h1
theorem clo_has {cells : List (Str × Addr)} : ∀ (names : List (Str × NameKind)) (acc : List (Str × Addr)) (x : Str), ((x, NameKind.free) ∈ names ∨ ∃ c, (x, c) ∈ acc) → ∃ c, (x, c) ∈ clo cells names acc
  | [], acc, x, h => by
    rcases h with h | h
    · cases h
    · exact h
  | (n, k) :: r, acc, x, h => by
    unfold clo
    by_cases hk : k = .free
    · subst hk
      rw [if_pos (by simp)]
      refine clo_has r _ x ?_
      rcases h with h | ⟨c, h⟩
      · rcases List.mem_cons.mp h with h | h
        · cases h; exact .inr ⟨_, List.mem_cons_self⟩
        · exact .inl h
      · exact .inr ⟨c, List.mem_cons_of_mem _ h⟩
    · rw [if_neg (by simpa using hk)]
      refine clo_has r _ x ?_
      rcases h with h | h
      · rcases List.mem_cons.mp h with h | h
        · cases h; exact absurd rfl hk
        · exact .inl h
      · exact .inr h
theorem lookup_of_mem {α : Type} : ∀ {l : List (Str × α)} {x : Str} {c : α}, (x, c) ∈ l → ∃ c', l.lookup x = some c'
  | (n, v) :: r, x, c, h => by
    rw [List.lookup_cons]
    cases hb : x == n with
    | true => exact ⟨v, rfl⟩
    | false =>
      rcases List.mem_cons.mp h with h | h
      · cases h; simp at hb
      · exact lookup_of_mem h
theorem relabel_lookup {env : Env} : ∀ (names : List (Str × NameKind)) (x : Str), (names.map fun (n, k) => if (k == NameKind.free && env.scope.kind == .function && env.kindOf n == some .cell) then (n, NameKind.cell) else (n, k)).lookup x =
    (names.lookup x).map fun k => if (k == NameKind.free && env.scope.kind == .function && env.kindOf x == some .cell) then NameKind.cell else k
  | [], _ => rfl
  | (n, k) :: r, x => by
    have ih := @relabel_lookup env r x
    rw [List.map_cons, List.lookup_cons]
    show List.lookup x ((if (k == NameKind.free && env.scope.kind == .function && env.kindOf n == some .cell) = true then (n, NameKind.cell) else (n, k)) :: _) = _
    cases hx : x == n with
    | true =>
      have e : x = n := beq_iff_eq.mp hx
      subst e
      by_cases hc : (k == NameKind.free && env.scope.kind == .function && env.kindOf x == some .cell) = true
      · rw [if_pos hc, List.lookup_cons, List.lookup_cons, hx]; simp only [Option.map_some]; rw [if_pos hc]
      · rw [if_neg hc, List.lookup_cons, List.lookup_cons, hx]; simp only [Option.map_some]; rw [if_neg hc]
    | false =>
      by_cases hc : (k == NameKind.free && env.scope.kind == .function && env.kindOf n == some .cell) = true
      · rw [if_pos hc, List.lookup_cons, List.lookup_cons, hx]; exact ih
      · rw [if_neg hc, List.lookup_cons, List.lookup_cons, hx]; exact ih

/-- what is asked of the block's names: no own cells, the free ones are cells around it -/
structure CScope (X : Cx) (scope : Scope) (is : List Nat) : Prop where
  kind : scope.kind = .function
  names : ∀ x ∈ scope.names, x.2 = .local → scope.names.lookup x.1 = some .local
  nocell : ∀ x ∈ scope.names, x.2 ≠ .cell
  free : ∀ x ∈ scope.names, x.2 = .free → X.env.kindOf x.1 = some .cell ∨ X.env.kindOf x.1 = some .free
  own : ∀ (i : Nat) x, X.N[i]? = some x → scope.names.lookup x = some .local → i ∈ is
section
variable {X : Cx} {scope : Scope} {is : List Nat}
/-- the context of the block: C its names' dict, s₀ and H₀ ahead of it, fp the iterator's records -/
def compCx (X : Cx) (scope : Scope) (C : Addr) (s₀ : Shared) (H₀ : Hp) (fp : List Addr) : Cx :=
  { X with s₀ := s₀, H₀ := H₀, env := compEnvC scope (clo X.env.cells scope.names []) C X.env, outer := X.stack, stack := X.stack, ex := fp, fn := fun _ => false, pn := [], xe := fun _ _ => False, calm := true }
theorem CScope.cells (S : CScope X scope is) (ok : X.Ok) : ∀ y ∈ scope.names, y.2 = .free → ∃ c, X.env.cells.lookup y.1 = some c := fun y hy hf => ok.has y.1 (S.free y hy hf)
theorem CScope.lk (S : CScope X scope is) (ok : X.Ok) {x : Str} {c : Addr} (h : (clo X.env.cells scope.names []).lookup x = some c) : X.env.cells.lookup x = some c := by
  rcases clo_mem scope.names [] x c (S.cells ok) (PySem.mem_of_lookup h) with ⟨_, h2⟩ | h2
  · exact h2
  · cases h2
def clrS (is : List Nat) (σ : LSt) : LSt := is.foldl (fun τ i => τ.set i none) σ
theorem clrS_len (is : List Nat) : ∀ σ : LSt, (clrS is σ).length = σ.length := by
  induction is with
  | nil => exact fun _ => rfl
  | cons i is ih => intro σ; show (clrS is (σ.set i none)).length = _; rw [ih, List.length_set]
theorem clrS_get (is : List Nat) : ∀ (σ : LSt) (j : Nat) (v : V), (clrS is σ)[j]? = some (some v) → σ[j]? = some (some v) ∧ j ∉ is := by
  induction is with
  | nil => exact fun σ j v h => ⟨h, by simp⟩
  | cons i is ih =>
    intro σ j v h
    obtain ⟨h1, h2⟩ := ih (σ.set i none) j v h
    rw [List.getElem?_set] at h1
    by_cases e : i = j
    · subst e
      rw [if_pos rfl] at h1
      split at h1 <;> cases h1
    · rw [if_neg e] at h1
      exact ⟨h1, fun z => (List.mem_cons.mp z).elim (fun z => e z.symm) h2⟩
theorem comp_start {pins : List (Addr × Obj)} {σ : LSt} {H : Hp} {s : Shared} {fp : List Addr} {h' : Heap} {t' : Nat} (S : CScope X scope is) (hc : X.calm = true) (I : Inv X pins σ H s) (hf : ∀ b ∈ fp, FpOk X pins H b) (hlt : ∀ b ∈ fp, b < s.heap.objs.size)
    (hn : h'.Ns s.heap.objs.size fun _ => none) (hk : ∀ b o, s.heap.get? b = some o → h'.get? b = some o) :
    Inv (compCx X scope s.heap.objs.size s H fp) [] (clrS is σ) H { s with heap := h', toks := t' } := by
  have lk := @CScope.lk X scope is S I.ok
  have nf : ∀ b ∈ fp, b ≠ s.heap.objs.size := fun b hb => Nat.ne_of_lt (hlt b hb)
  have cellLt : ∀ x c, X.env.cells.lookup x = some c → c < s.heap.objs.size := fun x c e => by
    obtain ⟨v, q⟩ := I.cell x c e
    exact q.lt
  refine ⟨⟨I.ok.mod, ?_, I.ok.glob, I.ok.blt, Nat.le_refl _, fun x y c h1 h2 => I.ok.inj x y c (lk h1) (lk h2), fun x hx => ?_, (fun x c h => Bool.noConfusion h), fun _ => I.ok.hd hc, I.ok.frames, .inl rfl, fun b hb => ⟨nf b hb, fun x c e z => ?_⟩, I.bs, ?_, fun b o e hb => ?_, fun b hb z => ?_, I.stack, I.stkFree⟩,
    rfl, I.bare, Un.kept hk, ⟨_, hn, fun i x v e1 e2 e3 => ?_⟩, fun x c e => ?_, I.hok.fresh (Nat.le_refl _), fun x c e => I.freeC x c (lk e), (fun p hp => absurd (show p ∈ ([] : List (Addr × Obj)) from hp) (by simp)), I.hok.kept hk, by rw [clrS_len]; exact I.len⟩
  · show (relabel scope X.env).kind = .function
    exact S.kind
  · have hx : (relabel scope X.env).names.lookup x = some .cell ∨ (relabel scope X.env).names.lookup x = some .free := hx
    unfold relabel at hx
    rw [relabel_lookup] at hx
    cases e : scope.names.lookup x with
    | none => rw [e] at hx; rcases hx with hx | hx <;> cases hx
    | some k =>
      have hm := PySem.mem_of_lookup e
      have hk : k = .free := by
        rw [e] at hx
        simp only [Option.map_some] at hx
        by_cases hc : (k == NameKind.free && X.env.scope.kind == .function && X.env.kindOf x == some .cell) = true
        · simp only [Bool.and_eq_true, beq_iff_eq] at hc
          exact hc.1.1
        · rw [if_neg hc] at hx
          rcases hx with hx | hx
          · exact absurd (Option.some.inj hx) (S.nocell _ hm)
          · exact Option.some.inj hx
      subst hk
      obtain ⟨c, hcm⟩ := clo_has (cells := X.env.cells) scope.names [] x (.inl hm)
      exact lookup_of_mem hcm
  · exact (hf b hb).2.2.2.2.1 x c (lk e) z
  · exact Nat.le_trans I.ok.bsz I.sz
  · rcases (hf b hb).2.2.2.1 with z | z
    · exact I.ok.noex b o e z
    · exact absurd (Nat.lt_of_lt_of_le (Heap.lt_size e) (Nat.le_trans I.ok.bsz z)) (Nat.lt_irrefl _)
  · rcases List.mem_cons.mp (I.stkSub b z) with z | z
    · exact (hf b hb).2.1 z
    · exact (hf b hb).2.2.1 z
  · obtain ⟨e2, hni⟩ := clrS_get is σ i v e2
    have e3 : (relabel scope X.env).names.lookup x = some .local ∨ (relabel scope X.env).names.lookup x = some .cell ∨ (relabel scope X.env).names.lookup x = some .free := e3
    have hfr : scope.names.lookup x = some .free ∧ ((relabel scope X.env).names.lookup x = some .cell ∨ (relabel scope X.env).names.lookup x = some .free) := by
      have e4 := e3
      unfold relabel at e4
      rw [relabel_lookup] at e4
      cases e : scope.names.lookup x with
      | none => rw [e] at e4; rcases e4 with e4 | e4 | e4 <;> cases e4
      | some k =>
        have hm := PySem.mem_of_lookup e
        have hk : k = .free := by
          rw [e] at e4
          simp only [Option.map_some] at e4
          by_cases hc : (k == NameKind.free && X.env.scope.kind == .function && X.env.kindOf x == some .cell) = true
          · simp only [Bool.and_eq_true, beq_iff_eq] at hc
            exact hc.1.1
          · rw [if_neg hc] at e4
            rcases e4 with e4 | e4 | e4
            · have e4 := Option.some.inj e4
              subst e4
              exact absurd (S.own i x e1 e) hni
            · exact absurd (Option.some.inj e4) (S.nocell _ hm)
            · exact Option.some.inj e4
        subst hk
        refine ⟨rfl, ?_⟩
        rcases e3 with e3 | e3 | e3
        · unfold relabel at e3
          rw [relabel_lookup, e] at e3
          simp only [Option.map_some] at e3
          split at e3 <;> cases e3
        · exact .inl e3
        · exact .inr e3
    have hvis := S.free _ (PySem.mem_of_lookup hfr.1) rfl
    obtain ⟨m, hm, hl⟩ := I.loc
    obtain ⟨u, ru, lu⟩ := hl i x v e1 e2 (.inr hvis)
    refine ⟨u, ru, .inr ⟨hfr.2, ?_⟩⟩
    rcases lu with ⟨k1, _⟩ | ⟨_, c, ec, zc⟩
    · have k1 : X.env.kindOf x = some .local := k1
      rcases hvis with q | q <;> rw [k1] at q <;> cases q
    · obtain ⟨c', hcm⟩ := clo_has (cells := X.env.cells) scope.names [] x (.inl (PySem.mem_of_lookup hfr.1))
      obtain ⟨c2, e5⟩ := lookup_of_mem hcm
      have e6 := lk e5
      rw [ec] at e6
      cases e6
      exact ⟨c, e5, zc.keeps hk⟩
  · obtain ⟨v, q⟩ := I.cell x c (lk e)
    exact ⟨v, q.keeps hk⟩
end
end Pu

/-! A comprehension: its rule in the layer, then in pure words. -/
namespace Pu
open PySem PySem.Spec PyProof.Rows L2
theorem compTurn_list2 (elt target iter c : Expr) (scope : Scope) (pos : Pos) (it acc : Value) (env : Env) :
    compTurn (.ListComp elt [⟨target, iter, [c], 0⟩] scope pos) 0 it acc env = (standAt iter.pos >>= fun _ => pyNext it >>= fun r => match r with
      | none => pure (.done .next)
      | some v => letOwnedTupleGo target it v >>= fun _ => assign target env v >>= fun _ => isTrue c env (eval c env) >>= fun ok =>
        if ok = true then (eval elt env >>= fun x => call (.builtin "list.append") [acc, x] >>= fun _ => again (.compLoop (.ListComp elt [⟨target, iter, [c], 0⟩] scope pos) 0 it acc env))
        else again (.compLoop (.ListComp elt [⟨target, iter, [c], 0⟩] scope pos) 0 it acc env)) := by
  unfold compTurn
  simp [List.forIn_cons, List.forIn_nil]
  rfl
theorem compTurn_list1' (elt target iter : Expr) (scope : Scope) (pos : Pos) (it acc : Value) (env : Env) :
    compTurn (.ListComp elt [⟨target, iter, [], 0⟩] scope pos) 0 it acc env = (standAt iter.pos >>= fun _ => pyNext it >>= fun r => match r with
      | none => pure (.done .next)
      | some v => letOwnedTupleGo target it v >>= fun _ => assign target env v >>= fun _ =>
        (eval elt env >>= fun x => call (.builtin "list.append") [acc, x] >>= fun _ => again (.compLoop (.ListComp elt [⟨target, iter, [], 0⟩] scope pos) 0 it acc env))) := by
  unfold compTurn
  simp [List.forIn_nil]
  rfl
section
variable {X : Cx} {scope : Scope} {is : List Nat} {elt tg iter : Expr} {pos : Pos} {wi : TI} {g : TG} {te : TE} {tt : TT}
/-- what a comprehension wants; tt: its test -/
def tLC (is : List Nat) (wi : TI) (g : TG) (tt : TT) (te : TE) : TE := fun σ H Q => wi σ H fun J H1 => ∀ p, H1 p = none → ∃ W : Nat → Nat → LSt → List V → Hp → Prop, (∃ m, W 0 m (clrS is σ) [] (upd H1 p (.lst []))) ∧
  ∀ i m τ vs H, W i m τ vs H → H p = some (.lst vs) ∧ ((J.stop i H ∧ Q (.ref p) H) ∨ (J.go i H ∧ ∀ x H', J.yld i H x H' → g x τ H' fun τ2 H2 => tt τ2 H2 fun k H3 =>
    if k = true then te τ2 H3 fun y H4 => H4 p = some (.lst vs) ∧ vs.length < sizeLine ∧ ∃ m', m' < m ∧ W (i + 1) m' τ2 (vs ++ [y]) (upd H4 p (.lst (vs ++ [y]))) else ∃ m', m' < m ∧ W (i + 1) m' τ2 vs H3))
theorem inv_end {pins : List (Addr × Obj)} {σ σ5 : LSt} {H H5 : Hp} {s s5 : Shared} {fp : List Addr} {C : Addr} {h' : Heap} (I : Inv X pins σ H s) (hf : ∀ b ∈ fp, FpOk X pins H b) (hC : s.heap.objs.size ≤ C) (J : Inv (compCx X scope C s H fp) [] σ5 H5 s5)
    (hs : Heap.SameBut C s5.heap h') : Inv X pins σ H5 { s5 with heap := h' } := by
  have hfree : H5 C = none := J.free
  have ne : ∀ b o, s.heap.get? b = some o → b ≠ C := fun b o e z => by
    have := Heap.lt_size e
    subst z
    exact absurd (Nat.lt_of_lt_of_le this hC) (Nat.lt_irrefl _)
  have u : Un (frs X.stack) fp H H5 s.heap h' := ⟨fun b o e n hb hx => hs.extBut b o (ne b o e) (J.base.keep b o e n hb hx), fun b o e n hb hx => by
      obtain ⟨sl, q⟩ := J.base.slot b o e n hb hx
      exact ⟨sl, hs.extBut b _ (ne b o e) q⟩, J.base.free, fun b o e hx => by
      obtain ⟨o', q⟩ := J.base.there b o e hx
      exact ⟨o', hs.extBut b _ (ne b o e) q⟩, J.base.tups, J.base.frzs, J.base.tbls⟩
  have hok : HOk X.prog X.w H5 h' := fun b o e => by
    refine (J.hok b o e).stay (fun c v hc q => hs.extBut c v ?_ q) (fun _ q => q) fun _ _ q => q
    rintro rfl
    rcases hc with z | z
    · subst z; rw [hfree] at e; cases e
    · rw [hfree] at z; cases z
  obtain ⟨hh, gg, dd, tt, os⟩ := s5
  have hos : os = s.os := J.os
  subst hos
  have fin := I.call (h' := h') (g' := gg) (d' := dd) (t' := tt) (ch := fp) u hok J.bare fun b hb => ⟨(hf b hb).2.2.2.1, (hf b hb).2.1, (hf b hb).2.2.2.2.1, (hf b hb).2.2.2.2.2⟩
  exact fin
/-- the element and its place in the new list -/
theorem comp_emit {Y : Cx} {pins : List (Addr × Obj)} {τ : LSt} {H : Hp} {s : Shared} {p : Addr} {vs : List V} {α : Type} {k : Sem α} {Q : α → Shared → Prop} {E : Value → Shared → Prop} (he : PE Y elt te) (hx : ∀ e s', Y.xe e s' → E e s') (I : Inv Y pins τ H s) (hw : te τ H fun y H4 => H4 p = some (.lst vs) ∧ vs.length < sizeLine ∧ ∀ s', Inv Y pins τ (upd H4 p (.lst (vs ++ [y]))) s' → wpAny (model Y.prog Y.w) Y.A k Q E s') :
    wpAny (model Y.prog Y.w) Y.A (eval elt Y.env >>= fun x => call (.builtin "list.append") [.ref p, x] >>= fun _ => k) Q E s := by
  refine wpAny_bind (wpAny_mono (he pins s τ H _ I hw) (fun u s1 ⟨y, H4, I4, r4, hp, hz, q⟩ => ?_) hx)
  obtain ⟨z, its, n, r, hl, e⟩ := I4.lstM hp
  refine wpAny_bind (call_meets PySem.F.slot_list_append ⟨_, e, rfl⟩ PySem.F.entry_list_append (PySem.F.args_list_append_2 _ _) (PySem.list_append p its.toArray n u (by rw [List.size_toArray]; omega)) ⟨e, ?_⟩)
  refine q _ (I4.lset (its' := its ++ [u]) (t' := s1.toks) hp e (by simp) (r.append (.cons r4 .nil)) ?_)
  rw [List.length_append, List.length_singleton]
  omega
end
/-- the loop of the block, whatever its turn is -/
theorem comp_loop {Y : Cx} {e tg : Expr} {env : Env} {g : TG} {te : TE} {tt : TT} {it p : Addr} {fp : List Addr} {tn : Nat → Heap → Prop} {J : It} {R : Result → Shared → Prop} {iterPos : Pos} {rest : Sem Fin}
    (T : Turn Y.prog Y.w Y.K tg J fp it tn) (hc : Y.calm = true) (hE : Y.xe = fun _ _ => False) (hg : PG Y tg g) (hq : (Code.compLoop e 0 (.ref it) (.ref p) Y.env).quiet = true)
    (hden : ∀ (s : Shared) (Q : Fin → Shared → Prop), wpAny (model Y.prog Y.w) Y.A (pyNext (.ref it) >>= fun r => match r with
        | none => pure (.done .next)
        | some v => letOwnedTupleGo tg (.ref it) v >>= fun _ => assign tg Y.env v >>= fun _ => rest) Q (fun _ _ => False) s →
      wpAny (model Y.prog Y.w) (Y.A.under (.compLoop e 0 (.ref it) (.ref p) Y.env)) ((model Y.prog Y.w).den (.compLoop e 0 (.ref it) (.ref p) Y.env)) Q (fun _ _ => False) s)
    (hrest : ∀ (τ : LSt) (H : Hp) (s : Shared) (pins : List (Addr × Obj)) (vs : List V) (N : Hp → List V → Prop) (Q : Fin → Shared → Prop), Inv Y pins τ H s →
      (tt τ H fun k H3 => if k = true then te τ H3 fun y H4 => H4 p = some (.lst vs) ∧ vs.length < sizeLine ∧ N (upd H4 p (.lst (vs ++ [y]))) (vs ++ [y]) else N H3 vs) →
      (∀ s' H' ws, Inv Y pins τ H' s' → N H' ws → Q (.again (.compLoop e 0 (.ref it) (.ref p) Y.env)) s') → wpAny (model Y.prog Y.w) Y.A rest Q (fun _ _ => False) s)
    (W : Nat → Nat → LSt → List V → Hp → Prop) {Qe : Hp → Prop}
    (step : ∀ i m τ vs H, W i m τ vs H → H p = some (.lst vs) ∧ ((J.stop i H ∧ Qe H) ∨ (J.go i H ∧ ∀ x H', J.yld i H x H' → g x τ H' fun τ2 H2 => tt τ2 H2 fun k H3 =>
      if k = true then te τ2 H3 fun y H4 => H4 p = some (.lst vs) ∧ vs.length < sizeLine ∧ ∃ m', m' < m ∧ W (i + 1) m' τ2 (vs ++ [y]) (upd H4 p (.lst (vs ++ [y]))) else ∃ m', m' < m ∧ W (i + 1) m' τ2 vs H3)))
    (hR : ∀ τ H s, Inv Y [] τ H s → Qe H → R (.ok .next) s) {s : Shared} {τ : LSt} {H : Hp} {vs : List V} {i m : Nat} (I : Inv Y [] τ H s) (st : tn i s.heap) (fr : ∀ b ∈ fp, FpOk Y [] H b) (w : W i m τ vs H) :
    codeAny (model Y.prog Y.w) Y.A (.compLoop e 0 (.ref it) (.ref p) Y.env) R s := by
  have stat : ∀ {H' : Hp}, (∀ b ∈ fp, H' b = none) → ∀ b ∈ fp, FpOk Y [] H' b := fun hn b hb => ⟨hn b hb, (fr b hb).2⟩
  refine codeAny_loop hq (fun n s' => ∃ i τ' vs' H', Inv Y [] τ' H' s' ∧ tn i s'.heap ∧ (∀ b ∈ fp, H' b = none) ∧ W i n τ' vs' H') (fun n s3 hI => ?_) m ⟨i, τ, vs, H, I, st, fun b hb => (fr b hb).1, w⟩
  obtain ⟨i, τ3, vs3, H3, I3, st3, fr3, w3⟩ := hI
  refine wpAny_mono (hden s3 _ ?_) (fun _ _ q => q) (fun _ _ q => q.elim)
  obtain ⟨hp, hs⟩ := step i n τ3 vs3 H3 w3
  rcases hs with ⟨stop, qe⟩ | ⟨go, hs⟩
  · refine wpAny_bind (thn (T.done Y rfl rfl rfl hc i [] s3 τ3 H3 (fun _ _ => False) I3 (stat fr3) st3 stop) fun r s4 ⟨hr, I4⟩ => ?_)
    subst hr
    exact wpAny_pure (hR τ3 H3 s4 I4 qe)
  · refine wpAny_bind (thn (T.item Y rfl rfl rfl hc i [] s3 τ3 H3 (fun _ _ => False) I3 (stat fr3) st3 go) fun r s4 ⟨u, hr, h4⟩ => ?_)
    subst hr
    refine wpAny_bind (thn h4 fun _ s5 ⟨x, H5, I5, r5, y5, st5, fr5⟩ => ?_)
    have I5' := I5.pinned (stat fr5) (T.obj _ _ st5)
    have hg' := hg _ s5 τ3 H5 x u _ I5' r5 (hs x H5 y5)
    rw [hE] at hg'
    refine wpAny_bind (thn hg' fun _ s6 ⟨τ6, H6, I6, q6⟩ => ?_)
    refine hrest τ6 H6 s6 _ vs3 (fun H' ws => ∃ m', m' < n ∧ W (i + 1) m' τ6 ws H') _ I6 q6 fun s7 H7 ws I7 ⟨m', hm, w7⟩ => ?_
    refine ⟨rfl, m', hm, i + 1, τ6, ws, H7, I7.unpinned, T.keep _ _ _ st5 fun b hb o e => (I7.pin (b, o) (List.mem_append_right _ (List.mem_append_right _ (mem_pinsAt hb e)))).1, fun b hb => ?_, w7⟩
    obtain ⟨o, e, d⟩ := T.obj _ _ st5 b hb
    exact (I7.pin (b, o) (List.mem_append_right _ (List.mem_append_right _ (mem_pinsAt hb e)))).2.1
end Pu

/-! The comprehension's rules. -/
namespace Pu
open PySem PySem.Spec PyProof.Rows L2
section
variable {X : Cx} {scope : Scope} {is : List Nat} {elt tg iter c : Expr} {pos : Pos} {wi : TI} {g : TG} {te : TE} {tt : TT}
theorem comp_core {use : Option (Value → Sem Unit)} {Qf : Value → Shared → Prop} {ppos : Pos} {pins : List (Addr × Obj)} {s : Shared} {σ : LSt} {H : Hp} {Q : VK} {ifs : List Expr} {rest : Env → Value → Value → Sem Fin} (S : CScope X scope is) (hc : X.calm = true) (hi : L2.PI X tg iter wi) (hg : ∀ C s₀ H₀ fp, PG (compCx X scope C s₀ H₀ fp) tg g)
    (hquiet : ∀ it acc env, (Code.compLoop (.ListComp elt [⟨tg, iter, ifs, 0⟩] scope pos) 0 it acc env).quiet = true)
    (hden : ∀ C s₀ H₀ fp it p (s : Shared) (Q : Fin → Shared → Prop), wpAny (model X.prog X.w) X.A (pyNext (.ref it) >>= fun r => match r with
        | none => pure (.done .next)
        | some v => letOwnedTupleGo tg (.ref it) v >>= fun _ => assign tg (compCx X scope C s₀ H₀ fp).env v >>= fun _ => rest (compCx X scope C s₀ H₀ fp).env (.ref it) (.ref p)) Q (fun _ _ => False) s →
      wpAny (model X.prog X.w) (X.A.under (.compLoop (.ListComp elt [⟨tg, iter, ifs, 0⟩] scope pos) 0 (.ref it) (.ref p) (compCx X scope C s₀ H₀ fp).env)) ((model X.prog X.w).den (.compLoop (.ListComp elt [⟨tg, iter, ifs, 0⟩] scope pos) 0 (.ref it) (.ref p) (compCx X scope C s₀ H₀ fp).env)) Q (fun _ _ => False) s)
    (hrest : ∀ C s₀ H₀ fp it p (τ : LSt) (H : Hp) (s : Shared) (pins : List (Addr × Obj)) (vs : List V) (N : Hp → List V → Prop) (Q : Fin → Shared → Prop), Inv (compCx X scope C s₀ H₀ fp) pins τ H s →
      (tt τ H fun k H3 => if k = true then te τ H3 fun y H4 => H4 p = some (.lst vs) ∧ vs.length < sizeLine ∧ N (upd H4 p (.lst (vs ++ [y]))) (vs ++ [y]) else N H3 vs) →
      (∀ s' H' ws, Inv (compCx X scope C s₀ H₀ fp) pins τ H' s' → N H' ws → Q (.again (.compLoop (.ListComp elt [⟨tg, iter, ifs, 0⟩] scope pos) 0 (.ref it) (.ref p) (compCx X scope C s₀ H₀ fp).env)) s') →
      wpAny (model X.prog X.w) X.A (rest (compCx X scope C s₀ H₀ fp).env (.ref it) (.ref p)) Q (fun _ _ => False) s)
    (hs : ∀ x, foldedSetIterable iter X.env x = pure x) (I : Inv X pins σ H s) (h : tLC is wi g tt te σ H Q)
    (hfin : ∀ C p H5 s5 m5 s3 H3 fp τ, s3.heap.objs.size ≤ C → Inv X pins σ H3 s3 → (∀ b ∈ fp, FpOk X pins H3 b) → Inv (compCx X scope C s3 H3 fp) [] τ H5 s5 → s5.heap.Ns C m5 → Q (.ref p) H5 → compPost (model X.prog X.w) X.A X.xe use Qf (.ref p) C (.ok .next) s5) :
    wpAny (model X.prog X.w) X.A (comprehension (.ListComp elt [⟨tg, iter, ifs, 0⟩] scope pos) scope X.env ppos (newList []) false (eval iter X.env) use) Qf X.xe s := by
  refine wpAny_comprehension_free (use := use) rfl hs (closureFor_eq (S.cells I.ok)) S.kind S.names ?_
  refine thn (hi pins s σ H _ I h) fun v s1 h1 => thn h1 fun itv s2 h2 => ?_
  obtain ⟨it, fp, tn, J, H2, e, I2, T, st2, f2, hW⟩ := h2
  subst e
  refine wpAny_newObj_type (wpAny_newFunctionEnv S.nocell (by intro y hy; simp at hy) (fun h₁ hns₁ hsb₁ => ?_) S.kind)
  have I3 : Inv X pins σ (upd H2 s2.heap.objs.size (.lst [])) { s2 with heap := s2.heap.push { cls := .type "list", data := .seq ([] : List Value).toArray } } := I2.lnew (t' := s2.toks) .nil (Nat.zero_le _)
  obtain ⟨W, ⟨m, w0⟩, step⟩ := hW s2.heap.objs.size I2.fresh
  have hob : ∀ b ∈ fp, b < s2.heap.objs.size := fun b hb => let ⟨o, e, _⟩ := T.obj 0 _ st2 b hb; Heap.lt_size e
  have hfp : ∀ b ∈ fp, FpOk X pins (upd H2 s2.heap.objs.size (.lst [])) b := fun b hb => ⟨by rw [upd_ne (Nat.ne_of_lt (hob b hb))]; exact (f2 b hb).1, (f2 b hb).2⟩
  have hk : ∀ b o, (s2.heap.push { cls := .type "list", data := .seq ([] : List Value).toArray }).get? b = some o → h₁.get? b = some o := fun b o e => hsb₁.extBut b o (Nat.ne_of_lt (Heap.lt_size e)) (Heap.get?_push_of_some _ e)
  have Ic := comp_start (t' := s2.toks + ([] : List (Str × Value)).length) S hc I3 hfp (fun b hb => Nat.lt_of_lt_of_le (hob b hb) (by rw [Heap.size_push]; exact Nat.le_succ _)) hns₁ hk
  have st4 : tn 0 h₁ := T.keep 0 _ _ st2 fun b _ o e => hk b o (Heap.get?_push_of_some _ e)
  have fr4 : ∀ b ∈ fp, FpOk (compCx X scope _ _ _ fp) [] (upd H2 s2.heap.objs.size (.lst [])) b := fun b hb => ⟨(hfp b hb).1, (Ic.ok.exf b hb).1, Ic.ok.exfs b hb, .inl hb, fun x c e => (Ic.ok.exf b hb).2 x c e, fun p hp => absurd (show p ∈ ([] : List (Addr × Obj)) from hp) (by simp)⟩
  have loop := comp_loop (Y := compCx X scope _ _ _ fp) (e := .ListComp elt [⟨tg, iter, ifs, 0⟩] scope pos) (env := X.env) (iterPos := pos) T rfl rfl (hg _ _ _ fp) (hquiet _ _ _) (hden _ _ _ fp it s2.heap.objs.size) (hrest _ _ _ fp it s2.heap.objs.size) W step
    (R := compPost (model X.prog X.w) X.A X.xe use Qf (.ref s2.heap.objs.size) (s2.heap.push { cls := .type "list", data := .seq ([] : List Value).toArray }).objs.size) (fun τ H5 s5 I5 q5 => by
      obtain ⟨m5, hn5, _⟩ := I5.loc
      exact hfin _ _ H5 s5 m5 _ _ fp τ (Nat.le_refl _) I3 hfp I5 hn5 q5) Ic st4 fr4 w0
  exact codeAny_compStart_list loop (T.self _ 0 _ _ _ st4 loop)
theorem quiet_comp {e : Expr} {it acc : Value} {env : Env} : (Code.compLoop e 0 it acc env).quiet = true := rfl
theorem den0 {Y : Cx} {it p : Addr} {s : Shared} {Q : Fin → Shared → Prop} (h : wpAny (model X.prog X.w) X.A (pyNext (.ref it) >>= fun r => match r with
        | none => pure (.done .next)
        | some v => letOwnedTupleGo tg (.ref it) v >>= fun _ => assign tg Y.env v >>= fun _ => (eval elt Y.env >>= fun x => call (.builtin "list.append") [.ref p, x] >>= fun _ => again (.compLoop (.ListComp elt [⟨tg, iter, [], 0⟩] scope pos) 0 (.ref it) (.ref p) Y.env))) Q (fun _ _ => False) s) :
      wpAny (model X.prog X.w) (X.A.under (.compLoop (.ListComp elt [⟨tg, iter, [], 0⟩] scope pos) 0 (.ref it) (.ref p) Y.env)) ((model X.prog X.w).den (.compLoop (.ListComp elt [⟨tg, iter, [], 0⟩] scope pos) 0 (.ref it) (.ref p) Y.env)) Q (fun _ _ => False) s := by
  show wpAny _ _ ((compTurn (.ListComp elt [⟨tg, iter, [], 0⟩] scope pos) 0 (.ref it) (.ref p) Y.env).onRaise (fun x => do noteFrame x Y.env; theTreesLotGoes x)) _ _ s
  refine wpAny_noted ?_
  rw [compTurn_list1']
  exact wpAny_bind (wpAny_standAt (wpAny_mono h (fun _ _ q => q) fun _ _ q => q.elim))
theorem den1 {Y : Cx} {it p : Addr} {s : Shared} {Q : Fin → Shared → Prop} (h : wpAny (model X.prog X.w) X.A (pyNext (.ref it) >>= fun r => match r with
        | none => pure (.done .next)
        | some v => letOwnedTupleGo tg (.ref it) v >>= fun _ => assign tg Y.env v >>= fun _ => (isTrue c Y.env (eval c Y.env) >>= fun ok => if ok = true then (eval elt Y.env >>= fun x => call (.builtin "list.append") [.ref p, x] >>= fun _ => again (.compLoop (.ListComp elt [⟨tg, iter, [c], 0⟩] scope pos) 0 (.ref it) (.ref p) Y.env))
          else again (.compLoop (.ListComp elt [⟨tg, iter, [c], 0⟩] scope pos) 0 (.ref it) (.ref p) Y.env))) Q (fun _ _ => False) s) :
      wpAny (model X.prog X.w) (X.A.under (.compLoop (.ListComp elt [⟨tg, iter, [c], 0⟩] scope pos) 0 (.ref it) (.ref p) Y.env)) ((model X.prog X.w).den (.compLoop (.ListComp elt [⟨tg, iter, [c], 0⟩] scope pos) 0 (.ref it) (.ref p) Y.env)) Q (fun _ _ => False) s := by
  show wpAny _ _ ((compTurn (.ListComp elt [⟨tg, iter, [c], 0⟩] scope pos) 0 (.ref it) (.ref p) Y.env).onRaise (fun x => do noteFrame x Y.env; theTreesLotGoes x)) _ _ s
  refine wpAny_noted ?_
  rw [compTurn_list2]
  exact wpAny_bind (wpAny_standAt (wpAny_mono h (fun _ _ q => q) fun _ _ q => q.elim))
def tAlways : TT := fun _ H Q => Q true H
theorem rest0 {Y : Cx} (hY : Y.xe = fun _ _ => False) (he : PE Y elt te) {it p : Addr} (τ : LSt) (H : Hp) (s : Shared) (pins : List (Addr × Obj)) (vs : List V) (N : Hp → List V → Prop) (Q : Fin → Shared → Prop) (I : Inv Y pins τ H s)
    (h : tAlways τ H fun k H3 => if k = true then te τ H3 fun y H4 => H4 p = some (.lst vs) ∧ vs.length < sizeLine ∧ N (upd H4 p (.lst (vs ++ [y]))) (vs ++ [y]) else N H3 vs)
    (mono : ∀ (Q Q' : VK), (∀ v H', Q v H' → Q' v H') → te τ H Q → te τ H Q')
    (q : ∀ s' H' ws, Inv Y pins τ H' s' → N H' ws → Q (.again (.compLoop (.ListComp elt [⟨tg, iter, [], 0⟩] scope pos) 0 (.ref it) (.ref p) Y.env)) s') :
    wpAny (model Y.prog Y.w) Y.A (eval elt Y.env >>= fun x => call (.builtin "list.append") [.ref p, x] >>= fun _ => again (.compLoop (.ListComp elt [⟨tg, iter, [], 0⟩] scope pos) 0 (.ref it) (.ref p) Y.env)) Q (fun _ _ => False) s := by
  have h' : te τ H fun y H4 => H4 p = some (.lst vs) ∧ vs.length < sizeLine ∧ N (upd H4 p (.lst (vs ++ [y]))) (vs ++ [y]) := h
  exact comp_emit he (by rw [hY]; exact fun _ _ z => z) I (mono _ _ (fun y H4 ⟨a, b, n⟩ => ⟨a, b, fun s' I' => wpAny_pure (q s' _ _ I' n)⟩) h')
end
end Pu

/-! Comprehensions in pure words. -/
namespace Pu
open PySem PySem.Spec PyProof.Rows L2
section
variable {K : PySem.W.Frag} {B A : List Addr} {H : Hp} {st st' : PSt} {σ : LSt}
theorem clr_len (is : List Nat) : ∀ st : PSt, (clr is st).length = st.length := by
  induction is with
  | nil => exact fun _ => rfl
  | cons i is ih => intro st; show (clr is (st.set i none)).length = _; rw [ih, List.length_set]
theorem clr_get (is : List Nat) : ∀ (st : PSt) (j : Nat) (x : Sl), (clr is st)[j]? = some (some x) → st[j]? = some (some x) ∧ j ∉ is := by
  induction is with
  | nil => exact fun σ j v h => ⟨h, by simp⟩
  | cons i is ih =>
    intro σ j v h
    obtain ⟨h1, h2⟩ := ih (σ.set i none) j v h
    rw [List.getElem?_set] at h1
    by_cases e : i = j
    · subst e
      rw [if_pos rfl] at h1
      split at h1 <;> cases h1
    · rw [if_neg e] at h1
      exact ⟨h1, fun z => (List.mem_cons.mp z).elim (fun z => e z.symm) h2⟩
theorem clrS_out (is : List Nat) : ∀ (σ : LSt) (j : Nat), j ∉ is → (clrS is σ)[j]? = σ[j]? := by
  induction is with
  | nil => exact fun σ j _ => rfl
  | cons i is ih =>
    intro σ j h
    show (clrS is (σ.set i none))[j]? = _
    rw [ih _ j fun z => h (List.mem_cons_of_mem _ z), List.getElem?_set, if_neg (show ¬ i = j from fun z => h (z ▸ List.mem_cons_self))]
theorem RS.clr (is : List Nat) (r : RS K B A H st σ) : RS K B A H (Pu.clr is st) (clrS is σ) where
  len := by rw [clr_len, clrS_len, r.len]
  own := r.own
  dis := r.dis
  val := fun i d e => by
    obtain ⟨e1, h⟩ := clr_get is st i _ e
    rw [clrS_out is σ i h]
    exact r.val i d e1
  lst := fun i xs e => by
    obtain ⟨e1, h⟩ := clr_get is st i _ e
    obtain ⟨a, vs, e2, m, h1, q, u⟩ := r.lst i xs e1
    refine ⟨a, vs, by rw [clrS_out is σ i h]; exact e2, m, h1, q, fun j ys ej ej2 => ?_⟩
    obtain ⟨e3, h3⟩ := clr_get is st j _ ej
    rw [clrS_out is σ j h3] at ej2
    exact u j ys e3 ej2
theorem RS.weaken (r : RS K B A H st σ) (hl : st'.length = st.length) (h : ∀ (j : Nat) (x : Sl), st'[j]? = some (some x) → st[j]? = some (some x)) : RS K B A H st' σ where
  len := hl.trans r.len
  own := r.own
  dis := r.dis
  val := fun i d e => r.val i d (h i _ e)
  lst := fun i xs e => by
    obtain ⟨a, vs, e2, m, h1, q, u⟩ := r.lst i xs (h i _ e)
    exact ⟨a, vs, e2, m, h1, q, fun j ys ej ej2 => u j ys (h j _ ej) ej2⟩
theorem mem_mid {A B : List Addr} {p b : Addr} : b ∈ A ++ p :: B ↔ b = p ∨ b ∈ A ++ B := by
  simp only [List.mem_append, List.mem_cons]
  constructor
  · rintro (h | h | h)
    · exact .inr (.inl h)
    · exact .inl h
    · exact .inr (.inr h)
  · rintro (h | h | h)
    · exact .inr (.inl h)
    · exact .inl h
    · exact .inr (.inr h)
theorem same_mid {p : Addr} {o : HO} (hp : H p = none) : Same (hide (A ++ B) H) (hide (A ++ p :: B) (upd H p o)) := fun b u q => by
  have q1 := hide_sub _ _ _ _ q
  have hb : b ∉ A ++ B := fun z => by rw [hide_in z] at q; cases q
  have ne : b ≠ p := ne_of_none q1 hp
  rw [hide_out (show b ∉ A ++ p :: B from fun z => (mem_mid.mp z).elim ne hb), upd_ne ne]
  exact q1
/-- one address more that is hidden -/
theorem RS.grow (r : RS K B A H st σ) {p : Addr} {vs : List V} (hp : H p = none) : RS K (p :: B) A (upd H p (.lst vs)) st σ where
  len := r.len
  own := fun a ha => by
    by_cases e : a = p
    · subst e; rw [upd_same]; rfl
    · rw [upd_ne e]; exact r.own a ((mem_mid.mp ha).resolve_left e)
  dis := fun a ha hb => by
    rcases List.mem_cons.mp hb with rfl | hb
    · exact r.own.free hp (List.mem_append_left _ ha)
    · exact r.dis a ha hb
  val := fun j d' e => let ⟨u, e1, q⟩ := r.val j d' e; ⟨u, e1, q.mono (same_mid hp)⟩
  lst := fun j xs e => by
    obtain ⟨a, vs', e1, m, h1, q, u⟩ := r.lst j xs e
    exact ⟨a, vs', e1, m, by rw [upd_ne (ne_of_none h1 hp)]; exact h1, q.mono (same_mid hp), u⟩
/-- the hidden list at p is changed -/
theorem RS.put {p : Addr} (r : RS K (p :: B) A H st σ) {vs : List V} : RS K (p :: B) A (upd H p (.lst vs)) st σ := by
  have hh : hide (A ++ p :: B) (upd H p (.lst vs)) = hide (A ++ p :: B) H := hide_upd (mem_mid.mpr (.inl rfl))
  refine ⟨r.len, fun b hb => ?_, r.dis, fun j d e => by rw [hh]; exact r.val j d e, fun j xs e => ?_⟩
  · by_cases e : b = p
    · subst e; rw [upd_same]; rfl
    · rw [upd_ne e]; exact r.own b hb
  · obtain ⟨a, vs', e1, m, h1, q, u⟩ := r.lst j xs e
    refine ⟨a, vs', e1, m, ?_, by rw [hh]; exact q, u⟩
    have : a ≠ p := fun z => r.dis a m (z ▸ List.mem_cons_self)
    rw [upd_ne this]; exact h1
end
/-- a target stores into its own names alone -/
def TgSub (is : List Nat) (t : Tg) : Prop := ∀ d st s2, t d st = .ok s2 → s2.length = st.length ∧ ∀ (j : Nat), j ∉ is → s2[j]? = st[j]?
theorem sub_N {i : Nat} : TgSub [i] (tgN i) := fun d st s2 h => by
  cases h
  refine ⟨List.length_set, fun j hj => ?_⟩
  rw [List.getElem?_set, if_neg fun z => hj (by simp [z])]
theorem sub_T {is : List Nat} : TgSub is (tgT is) := by
  have key : ∀ (is : List Nat) (ds : List D) (st s2 : PSt), setAll is ds st = .ok s2 → s2.length = st.length ∧ ∀ (j : Nat), j ∉ is → s2[j]? = st[j]? := by
    intro is
    induction is with
    | nil => intro ds st s2 h; cases ds with | nil => cases h; exact ⟨rfl, fun _ _ => rfl⟩ | cons _ _ => cases h
    | cons i is ih =>
      intro ds st s2 h
      cases ds with
      | nil => cases h
      | cons d ds =>
        obtain ⟨h1, h2⟩ := ih ds _ s2 h
        refine ⟨by rw [h1, List.length_set], fun j hj => ?_⟩
        rw [h2 j fun z => hj (List.mem_cons_of_mem _ z), List.getElem?_set, if_neg (show ¬ i = j from fun z => hj (z ▸ List.mem_cons_self))]
  intro d st s2 h
  cases d <;> first | (cases h; done) | exact key is _ st s2 h
def chkC (scope : Scope) (outer : List (Str × NameKind)) (N : List Str) (is : List Nat) : Bool :=
  scope.kind == .function && scope.names.all (fun x => (x.2 != .local || scope.names.lookup x.1 == some .local) && x.2 != .cell && (x.2 != .free || outer.lookup x.1 == some .cell || outer.lookup x.1 == some .free)) &&
    (List.range N.length).all fun i => scope.names.lookup (N.getD i "") != some .local || is.contains i
theorem CScope.of {X : Cx} {scope : Scope} {is : List Nat} (h : chkC scope X.env.scope.names X.N is = true) : CScope X scope is := by
  unfold chkC at h
  simp only [Bool.and_eq_true, List.all_eq_true] at h
  obtain ⟨⟨h1, h2⟩, h3⟩ := h
  refine ⟨by simpa using h1, fun x hx hl => ?_, fun x hx => ?_, fun x hx hf => ?_, fun i x e hl => ?_⟩
  · have := (h2 x hx).1.1
    simp only [Bool.or_eq_true, bne_iff_ne, ne_eq, beq_iff_eq] at this
    exact this.resolve_left fun z => z hl
  · have := (h2 x hx).1.2
    simpa using this
  · have := (h2 x hx).2
    simp only [Bool.or_eq_true, bne_iff_ne, ne_eq, beq_iff_eq] at this
    rcases this with (z | z) | z
    · exact absurd hf z
    · exact .inl z
    · exact .inr z
  · have hi : i < X.N.length := (List.getElem?_eq_some_iff.mp e).1
    have := h3 i (List.mem_range.mpr hi)
    rw [List.getD_eq_getElem?_getD, e] at this
    simp only [Option.getD_some, Bool.or_eq_true, bne_iff_ne, ne_eq] at this
    rcases this with z | z
    · exact absurd hl z
    · simpa using z
theorem tI_mono {K : PySem.W.Frag} {B : List Addr} {f : Ex} {τ : LSt} {H : Hp} (Q Q' : VK) (m : ∀ v H', Q v H' → Q' v H') (h : tI K B f τ H Q) : tI K B f τ H Q' :=
  let ⟨A, st, d, rs, hd, q⟩ := h; ⟨A, st, d, rs, hd, fun v H' s r => m v H' (q v H' s r)⟩
/-! ### whatever is hidden -/
def tIx (K : PySem.W.Frag) (f : Ex) : TE := fun τ H Q => ∃ B, tI K B f τ H Q
def tTx (K : PySem.W.Frag) (f : Ex) : TT := fun τ H Q => ∃ B, tT K B f τ H Q
def tGx (K : PySem.W.Frag) (t : Tg) : TG := fun v τ H Q => ∃ B, tG K B t v τ H Q
theorem pe_x {X : Cx} {e : Expr} {f : Ex} (h : ∀ B, PE X e (tI X.K B f)) : PE X e (tIx X.K f) := fun pins s σ H Q I ⟨B, q⟩ => h B pins s σ H Q I q
theorem pt_x {X : Cx} {e : Expr} {f : Ex} (h : ∀ B, PT X e (tT X.K B f)) : PT X e (tTx X.K f) := fun pins s σ H Q I ⟨B, q⟩ => h B pins s σ H Q I q
theorem pg_x {X : Cx} {e : Expr} {t : Tg} (h : ∀ B, PG X e (tG X.K B t)) : PG X e (tGx X.K t) := fun pins s σ H v u Q I r ⟨B, q⟩ => h B pins s σ H v u Q I r q
theorem tIx_mono {K : PySem.W.Frag} {f : Ex} {τ : LSt} {H : Hp} (Q Q' : VK) (m : ∀ v H', Q v H' → Q' v H') (h : tIx K f τ H Q) : tIx K f τ H Q' := let ⟨B, q⟩ := h; ⟨B, tI_mono Q Q' m q⟩
/-- the pure run gives what the rule wants -/
theorem lc_of {K : PySem.W.Frag} {B : List Addr} {is : List Nat} {t : Tg} {it : ItE} {c f : Ex} {tt : TT} {σ : LSt} {H : Hp} (hsub : TgSub is t)
    (htt : ∀ τ H Q, tTx K c τ H Q → tt τ H Q) {A : List Addr} {st : PSt} {xs ys : List D} (rs : RS K B A H st σ) (hx : it st = .ok xs) (hl : xs.length ≤ big) (hy : compR t c f (clr is st) xs = .ok ys) {Q : VK}
    (q : ∀ p vs H1 H', Same H H1 → H1 p = none → Same H1 H' → H' p = some (.lst vs) → Reps K (hide (A ++ p :: B) H') ys vs → Q (.ref p) H') : tLC is (tIt K B it) (tGx K t) tt (tIx K f) σ H Q := by
  refine ⟨A, st, xs, rs, hx, fun J H1 s1 ito p hp => ?_⟩
  have rs1 := rs.mono s1
  refine ⟨fun i m τ vs H' => m = xs.length - i ∧ i ≤ xs.length ∧ vs.length ≤ i ∧ H' p = some (.lst vs) ∧ Same H1 H' ∧ RS K (p :: B) A H' (clr is st) τ ∧
      ∃ ds rest, Reps K (hide (A ++ p :: B) H') ds vs ∧ compR t c f (clr is st) (xs.drop i) = .ok rest ∧ ds ++ rest = ys, ⟨xs.length, by simp, Nat.zero_le _, Nat.zero_le _, upd_same, same_upd hp, (rs1.clr is).grow hp, [], ys, .nil, by rw [List.drop_zero]; exact hy, rfl⟩, ?_⟩
  rintro i m τ vs H' ⟨rfl, hi, hvl, hpv, s2, rs2, ds, rest, rds, hr, hcat⟩
  refine ⟨hpv, ?_⟩
  have mv : ∀ a, a ∈ (p :: A) ++ B ↔ a ∈ A ++ p :: B := fun a => by
    rw [mem_mid]
    exact List.mem_cons
  have le : Le A H1 (p :: A) H' := fun b u z => by
    have z1 := hide_sub _ _ _ _ z
    have hb : b ∉ A := fun w => by rw [hide_in w] at z; cases z
    have ne : b ≠ p := ne_of_none z1 hp
    rw [hide_out (show b ∉ p :: A from fun w => (List.mem_cons.mp w).elim ne hb)]
    exact s2 b u z1
  obtain ⟨i1, i2⟩ := ito (p :: A) H' le (fun a ha => rs2.own a ((mv a).mp ha)) i
  by_cases hlt : i < xs.length
  · have hd' : xs[i]? = some xs[i] := List.getElem?_eq_getElem hlt
    obtain ⟨go, yl⟩ := i1 _ hd'
    rw [List.drop_eq_getElem_cons hlt] at hr
    obtain ⟨st2, hst2, h5⟩ := R.ok_of hr
    obtain ⟨cb, hcb, h6⟩ := R.ok_of h5
    obtain ⟨k, rfl, h7⟩ := onB_of h6
    refine .inr ⟨go, fun x H2 y => ?_⟩
    obtain ⟨rfl, rx⟩ := yl x H2 y
    have rx' : Rep K (hide (A ++ p :: B) H2) xs[i] x := rx.mono (hide_more fun a ha => (mv a).mpr ha)
    obtain ⟨sl, sg⟩ := hsub _ _ _ hst2
    have back : ∀ (j : Nat) (z : Sl), (clr is st)[j]? = some (some z) → st2[j]? = some (some z) := fun j z ez => by rw [sg j (clr_get is st j z ez).2]; exact ez
    refine ⟨p :: B, A, clr is st, xs[i], st2, rs2, rx', hst2, fun τ2 rs3 => htt _ _ _ ⟨p :: B, A, st2, k, rs3, hcb, fun H3 s3 => ?_⟩⟩
    cases k with
    | true =>
      obtain ⟨y', hy', h8⟩ := R.ok_of h7
      obtain ⟨rest', hrest', h9⟩ := R.ok_of h8
      cases h9
      refine ⟨p :: B, A, st2, y', rs3.mono s3, hy', fun v H4 s4 r4 => ⟨s4 _ _ (s3 _ _ hpv), ?_, xs.length - (i + 1), by omega, rfl, hlt, by rw [List.length_append, List.length_singleton]; omega, upd_same, ?_, ?_, ds ++ [y'], rest', ?_, hrest', by rw [List.append_assoc]; exact hcat⟩⟩
      · have : sizeLine = 16777216 := by decide
        have hbg := big_eq
        omega
      · exact fun b u z => by rw [upd_ne (ne_of_none z hp)]; exact s4 _ _ (s3 _ _ (s2 b u z))
      · exact (((rs3.mono s3).mono s4).weaken (by rw [sl]) back).put
      · rw [hide_upd (mem_mid.mpr (.inl rfl))]
        exact (rds.mono (Same.hide (s3.trans s4))).append (.cons r4 .nil)
    | false => exact ⟨xs.length - (i + 1), by omega, rfl, hlt, by omega, s3 _ _ hpv, s2.trans s3, (rs3.mono s3).weaken (by rw [sl]) back, ds, rest, rds.mono (Same.hide s3), h7, hcat⟩
  · have e : i = xs.length := by omega
    subst e
    rw [List.drop_length] at hr
    cases hr
    rw [List.append_nil] at hcat
    subst hcat
    exact .inl ⟨i2 (Nat.le_refl _), q p vs H1 H' s1 hp s2 hpv rds⟩
section
variable {X : Cx} {B : List Addr} {scope : Scope} {elt tg iter c : Expr} {pos : Pos} {t : Tg} {it : ItE} {f u : Ex}
theorem rest1 {Y : Cx} {te : TE} {tt : TT} (hY : Y.xe = fun _ _ => False) (he : PE Y elt te) (ht : PT Y c tt) {it p : Addr} (τ : LSt) (H : Hp) (s : Shared) (pins : List (Addr × Obj)) (vs : List V) (N : Hp → List V → Prop) (Q : Fin → Shared → Prop) (I : Inv Y pins τ H s)
    (h : tt τ H fun k H3 => if k = true then te τ H3 fun y H4 => H4 p = some (.lst vs) ∧ vs.length < sizeLine ∧ N (upd H4 p (.lst (vs ++ [y]))) (vs ++ [y]) else N H3 vs)
    (mono : ∀ H (Q Q' : VK), (∀ v H', Q v H' → Q' v H') → te τ H Q → te τ H Q')
    (q : ∀ s' H' ws, Inv Y pins τ H' s' → N H' ws → Q (.again (.compLoop (.ListComp elt [⟨tg, iter, [c], 0⟩] scope pos) 0 (.ref it) (.ref p) Y.env)) s') :
    wpAny (model Y.prog Y.w) Y.A (isTrue c Y.env (eval c Y.env) >>= fun ok => if ok = true then (eval elt Y.env >>= fun x => call (.builtin "list.append") [.ref p, x] >>= fun _ => again (.compLoop (.ListComp elt [⟨tg, iter, [c], 0⟩] scope pos) 0 (.ref it) (.ref p) Y.env))
          else again (.compLoop (.ListComp elt [⟨tg, iter, [c], 0⟩] scope pos) 0 (.ref it) (.ref p) Y.env)) Q (fun _ _ => False) s := by
  have ht' := ht pins s τ H _ I h
  rw [hY] at ht'
  refine wpAny_bind (thn ht' fun k s1 ⟨H1, I1, q1⟩ => ?_)
  cases k with
  | true =>
    rw [if_pos rfl]
    have q1 : te τ H1 fun y H4 => H4 p = some (.lst vs) ∧ vs.length < sizeLine ∧ N (upd H4 p (.lst (vs ++ [y]))) (vs ++ [y]) := q1
    exact comp_emit he (by rw [hY]; exact fun _ _ z => z) I1 (mono _ _ _ (fun y H4 ⟨a, b, n⟩ => ⟨a, b, fun s' I' => wpAny_pure (q s' _ _ I' n)⟩) q1)
  | false =>
    rw [if_neg Bool.false_ne_true]
    exact wpAny_pure (q s1 H1 vs I1 q1)
theorem comp_e {σ : LSt} {H : Hp} {Q : VK} {st : PSt} {A : List Addr} {ys : List D} {p : Addr} {vs : List V} {H1 H' : Hp} (rs : RS X.K B A H st σ) (q : ∀ v H', Same H H' → Rep X.K (hide (A ++ B) H') (.lst ys) v → Q v H') (s1 : Same H H1) (hp : H1 p = none) (s2 : Same H1 H')
    (hv : H' p = some (.lst vs)) (r : Reps X.K (hide (A ++ p :: B) H') ys vs) : Q (.ref p) H' :=
  q _ H' (s1.trans s2) (rep_lst.mpr ⟨p, vs, rfl, SqL.of (by rw [hide_out ((rs.own.mono s1).free hp)]; exact hv), r.mono (hide_more fun a ha => mem_mid.mpr (.inr ha))⟩)
/-- [elt for tg in iter] -/
theorem i_comp (is : List Nat) (hsub : TgSub is t) (S : CScope X scope is) (hi : L2.PI X tg iter (tIt X.K B it)) (hg : ∀ (B : List Addr) (C : Addr) (s₀ : Shared) (H₀ : Hp) (fp : List Addr), PG (compCx X scope C s₀ H₀ fp) tg (tG X.K B t))
    (he : ∀ (B : List Addr) (C : Addr) (s₀ : Shared) (H₀ : Hp) (fp : List Addr), PE (compCx X scope C s₀ H₀ fp) elt (tI X.K B f)) (hc : X.calm = true) (hs : ∀ x, foldedSetIterable iter X.env x = pure x := by intro _; rfl) :
    PE X (.ListComp elt [⟨tg, iter, [], 0⟩] scope pos) (tI X.K B (eComp is t it eTrue f)) := by
  intro pins s σ H Q I h
  obtain ⟨A, st, d, rs, hd, q⟩ := h
  obtain ⟨xs, hx, h2⟩ := R.ok_of hd
  obtain ⟨hl, h3⟩ := guardR_of h2
  obtain ⟨ys, hy, h4⟩ := R.ok_of h3
  cases h4
  rw [eval_ListComp]
  refine comp_core (use := none) (Qf := EP X pins σ Q) (Q := Q) (tt := tAlways) (te := tIx X.K f) (rest := fun env it p => eval elt env >>= fun x => call (.builtin "list.append") [p, x] >>= fun _ => again (.compLoop (.ListComp elt [⟨tg, iter, [], 0⟩] scope pos) 0 it p env)) S hc hi (fun C s₀ H₀ fp => pg_x fun B => hg B C s₀ H₀ fp) (fun _ _ _ => quiet_comp)
    (fun C s₀ H₀ fp it p s Q h => den0 (Y := compCx X scope C s₀ H₀ fp) h) (fun C s₀ H₀ fp it p τ H s pins vs N Q I h q => rest0 (Y := compCx X scope C s₀ H₀ fp) rfl (pe_x fun B => he B C s₀ H₀ fp) τ H s pins vs N Q I h (fun Q Q' m h => tIx_mono Q Q' m h) q) hs I
    (lc_of hsub (fun τ H Q ⟨B, A, st, k, rs, hk, q⟩ => ?_) rs hx hl hy fun p vs H1 H' s1 hp s2 hv r => comp_e rs q s1 hp s2 hv r) fun C p H5 s5 m5 s3 H3 fp τ hC I3 hfp I5 hn5 q5 => ⟨m5, hn5, fun h' hs' => ⟨.ref p, H5, inv_end I3 hfp hC I5 hs', rfl, q5⟩⟩
  cases hk
  exact q H (Same.refl _)
/-- [elt for tg in iter if c] -/
theorem i_compif (is : List Nat) (hsub : TgSub is t) (S : CScope X scope is) (hi : L2.PI X tg iter (tIt X.K B it)) (hg : ∀ (B : List Addr) (C : Addr) (s₀ : Shared) (H₀ : Hp) (fp : List Addr), PG (compCx X scope C s₀ H₀ fp) tg (tG X.K B t))
    (ht : ∀ (B : List Addr) (C : Addr) (s₀ : Shared) (H₀ : Hp) (fp : List Addr), PT (compCx X scope C s₀ H₀ fp) c (tT X.K B u))
    (he : ∀ (B : List Addr) (C : Addr) (s₀ : Shared) (H₀ : Hp) (fp : List Addr), PE (compCx X scope C s₀ H₀ fp) elt (tI X.K B f)) (hc : X.calm = true) (hs : ∀ x, foldedSetIterable iter X.env x = pure x := by intro _; rfl) :
    PE X (.ListComp elt [⟨tg, iter, [c], 0⟩] scope pos) (tI X.K B (eComp is t it u f)) := by
  intro pins s σ H Q I h
  obtain ⟨A, st, d, rs, hd, q⟩ := h
  obtain ⟨xs, hx, h2⟩ := R.ok_of hd
  obtain ⟨hl, h3⟩ := guardR_of h2
  obtain ⟨ys, hy, h4⟩ := R.ok_of h3
  cases h4
  rw [eval_ListComp]
  exact comp_core (use := none) (Qf := EP X pins σ Q) (Q := Q) (tt := tTx X.K u) (te := tIx X.K f) (rest := fun env it p => isTrue c env (eval c env) >>= fun ok => if ok = true then (eval elt env >>= fun x => call (.builtin "list.append") [p, x] >>= fun _ => again (.compLoop (.ListComp elt [⟨tg, iter, [c], 0⟩] scope pos) 0 it p env)) else again (.compLoop (.ListComp elt [⟨tg, iter, [c], 0⟩] scope pos) 0 it p env)) S hc hi (fun C s₀ H₀ fp => pg_x fun B => hg B C s₀ H₀ fp) (fun _ _ _ => quiet_comp)
    (fun C s₀ H₀ fp it p s Q h => den1 (Y := compCx X scope C s₀ H₀ fp) h) (fun C s₀ H₀ fp it p τ H s pins vs N Q I h q => rest1 (Y := compCx X scope C s₀ H₀ fp) rfl (pe_x fun B => he B C s₀ H₀ fp) (pt_x fun B => ht B C s₀ H₀ fp) τ H s pins vs N Q I h (fun _ Q Q' m h => tIx_mono Q Q' m h) q) hs I
    (lc_of hsub (fun τ H Q h => h) rs hx hl hy fun p vs H1 H' s1 hp s2 hv r => comp_e rs q s1 hp s2 hv r) fun C p H5 s5 m5 s3 H3 fp τ hC I3 hfp I5 hn5 q5 => ⟨m5, hn5, fun h' hs' => ⟨.ref p, H5, inv_end I3 hfp hC I5 hs', rfl, q5⟩⟩
end
end Pu

/-! == and != of data. -/
namespace Pu
open PySem PySem.Spec PyProof.Rows L2 PySem.SeqAt
section
variable {X : Cx} {pins : List (Addr × Obj)} {σ : LSt} {H : Hp} {s : Shared}
theorem no_both (I : Inv X pins σ H s) {a : Addr} {xs ys : List V} (h1 : SqL X.K H a xs) (h2 : SqT X.K H a ys) : False := by
  obtain ⟨its, _, ⟨o, n, e, hc, _⟩, _⟩ := I.list h1
  obtain ⟨its2, _, ⟨o2, e2, hc2, _⟩, _⟩ := I.tuple h2
  rw [e] at e2; cases e2
  rw [hc] at hc2; simp at hc2
mutual
theorem Rep.inj (I : Inv X pins σ H s) : ∀ {x y : D} {v : V}, plain x = true → plain y = true → Rep X.K H x v → Rep X.K H y v → x = y
  | .non, y, v, px, py, h, h' => by
    have e := rep_non.mp h; subst e
    cases y <;> first | (simp at py; done) | skip
    all_goals simp only [rep_non, rep_bl, rep_int, rep_str, rep_tup, rep_lst] at h'
    all_goals first | rfl | (obtain ⟨_, _, h', _⟩ := h'; cases h'; done) | (cases h'; done)
  | .bl b, y, v, px, py, h, h' => by
    have e := rep_bl.mp h; subst e
    cases y <;> first | (simp at py; done) | skip
    all_goals simp only [rep_non, rep_bl, rep_int, rep_str, rep_tup, rep_lst] at h'
    all_goals first | (obtain ⟨_, _, h', _⟩ := h'; cases h'; done) | (cases h'; first | rfl | done)
  | .int i, y, v, px, py, h, h' => by
    have e := rep_int.mp h; subst e
    cases y <;> first | (simp at py; done) | skip
    all_goals simp only [rep_non, rep_bl, rep_int, rep_str, rep_tup, rep_lst] at h'
    all_goals first | (obtain ⟨_, _, h', _⟩ := h'; cases h'; done) | (cases h'; first | rfl | done)
  | .str x, y, v, px, py, h, h' => by
    have e := rep_str.mp h; subst e
    cases y with
    | dct _ _ => simp at py
    | ins _ _ _ => simp at py
    | exn _ _ _ => simp at py
    | str z =>
      have e2 := rep_str.mp h'
      injection e2 with e2
      injection e2 with e2
      have : x = z := by simpa using congrArg Array.toList e2
      rw [this]
    | non => exact nomatch rep_non.mp h'
    | bl _ => exact nomatch rep_bl.mp h'
    | int _ => exact nomatch rep_int.mp h'
    | tup _ => obtain ⟨_, _, h', _⟩ := rep_tup.mp h'; cases h'
    | lst _ => obtain ⟨_, _, h', _⟩ := rep_lst.mp h'; cases h'
  | .tup ds, y, v, px, py, h, h' => by
    obtain ⟨a, vs, e, hq, hr⟩ := rep_tup.mp h
    subst e
    cases y with
    | dct _ _ => simp at py
    | ins _ _ _ => simp at py
    | exn _ _ _ => simp at py
    | tup es =>
      obtain ⟨a', vs', e', hq', hr'⟩ := rep_tup.mp h'
      cases e'
      have := I.tuple_inj hq hq'
      subst this
      rw [Reps.inj I (by simpa using px) (by simpa using py) hr hr']
    | lst es =>
      obtain ⟨a', vs', e', hq', hr'⟩ := rep_lst.mp h'
      cases e'
      exact (no_both I hq' hq).elim
    | non => exact nomatch rep_non.mp h'
    | bl _ => exact nomatch rep_bl.mp h'
    | int _ => exact nomatch rep_int.mp h'
    | str _ => exact nomatch rep_str.mp h'
  | .lst ds, y, v, px, py, h, h' => by
    obtain ⟨a, vs, e, hq, hr⟩ := rep_lst.mp h
    subst e
    cases y with
    | dct _ _ => simp at py
    | ins _ _ _ => simp at py
    | exn _ _ _ => simp at py
    | lst es =>
      obtain ⟨a', vs', e', hq', hr'⟩ := rep_lst.mp h'
      cases e'
      have := I.list_inj hq hq'
      subst this
      rw [Reps.inj I (by simpa using px) (by simpa using py) hr hr']
    | tup es =>
      obtain ⟨a', vs', e', hq', hr'⟩ := rep_tup.mp h'
      cases e'
      exact (no_both I hq hq').elim
    | non => exact nomatch rep_non.mp h'
    | bl _ => exact nomatch rep_bl.mp h'
    | int _ => exact nomatch rep_int.mp h'
    | str _ => exact nomatch rep_str.mp h'
  | .dct _ _, y, v, px, py, h, h' => by simp at px
  | .ins _ _ _, y, v, px, py, h, h' => by simp at px
  | .exn _ _ _, y, v, px, py, h, h' => by simp at px
theorem Reps.inj (I : Inv X pins σ H s) : ∀ {xs ys : List D} {vs : List V}, plains xs = true → plains ys = true → Reps X.K H xs vs → Reps X.K H ys vs → xs = ys
  | [], ys, vs, px, py, h, h' => by
    have e := reps_nil.mp h; subst e
    cases ys with
    | nil => rfl
    | cons y ys => obtain ⟨_, _, h', _⟩ := reps_cons.mp h'; cases h'
  | x :: xs, ys, vs, px, py, h, h' => by
    obtain ⟨v, r, e, h1, h2⟩ := reps_cons.mp h
    subst e
    cases ys with
    | nil => exact nomatch reps_nil.mp h'
    | cons y ys =>
      obtain ⟨v', r', e', h1', h2'⟩ := reps_cons.mp h'
      cases e'
      simp only [plains_cons, Bool.and_eq_true] at px py
      rw [Rep.inj I px.1 py.1 h1 h1', Reps.inj I px.2 py.2 h2 h2']
end
mutual
theorem eqD_refl : ∀ x : D, plain x = true → eqD x x = true
  | .non, _ => by unfold eqD; rfl
  | .bl b, _ => by unfold eqD; simp
  | .int i, _ => by unfold eqD; simp
  | .str x, _ => by unfold eqD; simp
  | .tup x, h => by unfold eqD; exact eqDs_refl x (by simpa using h)
  | .lst x, h => by unfold eqD; exact eqDs_refl x (by simpa using h)
  | .dct _ _, h => by simp at h
  | .ins _ _ _, h => by simp at h
  | .exn _ _ _, h => by simp at h
theorem eqDs_refl : ∀ x : List D, plains x = true → eqDs x x = true
  | [], _ => by unfold eqDs; rfl
  | a :: x, h => by
    simp only [plains_cons, Bool.and_eq_true] at h
    unfold eqDs; rw [eqD_refl a h.1, eqDs_refl x h.2]; rfl
end
def pairE (xs ys : List D) (j : Nat) : Bool := eqD (xs.getD j .non) (ys.getD j .non)
theorem eqDs_all : ∀ xs ys : List D, ((List.range (min xs.length ys.length)).all (pairE xs ys) && xs.length == ys.length) = eqDs xs ys
  | [], [] => by unfold eqDs; rfl
  | [], _ :: _ => by unfold eqDs; simp
  | _ :: _, [] => by unfold eqDs; simp
  | x :: xs, y :: ys => by
    have ih := eqDs_all xs ys
    have e : eqDs (x :: xs) (y :: ys) = (eqD x y && eqDs xs ys) := by conv => lhs; unfold eqDs
    rw [e, ← ih]
    have hm : min (x :: xs).length (y :: ys).length = min xs.length ys.length + 1 := by simp only [List.length_cons]; omega
    rw [hm, List.range_succ_eq_map, List.all_cons, List.all_map]
    have e1 : pairE (x :: xs) (y :: ys) 0 = eqD x y := rfl
    have e2 : (pairE (x :: xs) (y :: ys) ∘ Nat.succ) = pairE xs ys := rfl
    rw [e1, e2, Bool.and_assoc]
    congr 1
    simp
theorem eqDs_other {xs ys : List D} (h : xs.length ≠ ys.length) : eqDs xs ys = false := by
  rw [← eqDs_all]; simp [h]
mutual
theorem eqAt_rep (I : Inv X pins σ H s) : ∀ (x y : D) (A : Around) (v u : V) (a b : Value), Rep X.K H x v → Rep X.K H y u → RelV v a → RelV u b → A.units + dep x < cLine → plain x = true → plain y = true → EqAt A s a b (eqD x y)
  | .non, y, A, v, u, a, b, ra, rb, va, vb, hu, px, py => by
    have zv := rep_non.mp ra; subst zv; have za : a = Value.none := va; subst za
    cases y with
    | dct _ _ => simp at py
    | ins _ _ _ => simp at py
    | exn _ _ _ => simp at py
    | non =>
      have zu := rep_non.mp rb; subst zu; have zb : b = Value.none := vb; subst zb
      have e : eqD (.non) (.non) = eqD _ _ := rfl
      unfold eqD
      exact EqAt.same _
    | bl y =>
      have zu := rep_bl.mp rb; subst zu; have zb : b = Value.bool y := vb; subst zb
      have e : eqD (.non) (.bl y) = eqD _ _ := rfl
      unfold eqD
      exact EqAt.none_bool y
    | int y =>
      have zu := rep_int.mp rb; subst zu; obtain ⟨tb, zb⟩ : ∃ t, b = Value.int y t := vb; subst zb
      have e : eqD (.non) (.int y) = eqD _ _ := rfl
      unfold eqD
      exact EqAt.none_int y tb
    | str y =>
      have zu := rep_str.mp rb; subst zu; obtain ⟨tb, zb⟩ : ∃ t, b = Value.str ⟨y.toArray⟩ t := vb; subst zb
      have e : eqD (.non) (.str y) = eqD _ _ := rfl
      unfold eqD
      exact EqAt.none_str _ tb
    | tup y =>
      obtain ⟨lb, wsb, zu, hqb, hrb⟩ := rep_tup.mp rb; subst zu; have zb : b = Value.ref lb := vb; subst zb; obtain ⟨itsb, rvb, plb, _⟩ := I.tuple hqb; have ilb : s.heap.IsTuple lb itsb.toArray := plb
      have e : eqD (.non) (.tup y) = eqD _ _ := rfl
      unfold eqD
      exact EqAt.none_tuple ilb (Nat.lt_of_le_of_lt (Nat.le_add_right _ _) hu)
    | lst y =>
      obtain ⟨lb, wsb, zu, hqb, hrb⟩ := rep_lst.mp rb; subst zu; have zb : b = Value.ref lb := vb; subst zb; obtain ⟨itsb, rvb, plb, _⟩ := I.list hqb; have ilb := plb.isList
      have e : eqD (.non) (.lst y) = eqD _ _ := rfl
      unfold eqD
      exact EqAt.none_list ilb (Nat.lt_of_le_of_lt (Nat.le_add_right _ _) hu)
  | .bl x, y, A, v, u, a, b, ra, rb, va, vb, hu, px, py => by
    have zv := rep_bl.mp ra; subst zv; have za : a = Value.bool x := va; subst za
    cases y with
    | dct _ _ => simp at py
    | ins _ _ _ => simp at py
    | exn _ _ _ => simp at py
    | non =>
      have zu := rep_non.mp rb; subst zu; have zb : b = Value.none := vb; subst zb
      have e : eqD (.bl x) (.non) = eqD _ _ := rfl
      unfold eqD
      exact EqAt.bool_none x
    | bl y =>
      have zu := rep_bl.mp rb; subst zu; have zb : b = Value.bool y := vb; subst zb
      have e : eqD (.bl x) (.bl y) = eqD _ _ := rfl
      unfold eqD
      exact EqAt.bool_bool x y
    | int y =>
      have zu := rep_int.mp rb; subst zu; obtain ⟨tb, zb⟩ : ∃ t, b = Value.int y t := vb; subst zb
      have e : eqD (.bl x) (.int y) = eqD _ _ := rfl
      unfold eqD
      exact EqAt.bool_int x y tb
    | str y =>
      have zu := rep_str.mp rb; subst zu; obtain ⟨tb, zb⟩ : ∃ t, b = Value.str ⟨y.toArray⟩ t := vb; subst zb
      have e : eqD (.bl x) (.str y) = eqD _ _ := rfl
      unfold eqD
      exact EqAt.bool_str x _ tb
    | tup y =>
      obtain ⟨lb, wsb, zu, hqb, hrb⟩ := rep_tup.mp rb; subst zu; have zb : b = Value.ref lb := vb; subst zb; obtain ⟨itsb, rvb, plb, _⟩ := I.tuple hqb; have ilb : s.heap.IsTuple lb itsb.toArray := plb
      have e : eqD (.bl x) (.tup y) = eqD _ _ := rfl
      unfold eqD
      exact EqAt.bool_tuple x ilb (Nat.lt_of_le_of_lt (Nat.le_add_right _ _) hu)
    | lst y =>
      obtain ⟨lb, wsb, zu, hqb, hrb⟩ := rep_lst.mp rb; subst zu; have zb : b = Value.ref lb := vb; subst zb; obtain ⟨itsb, rvb, plb, _⟩ := I.list hqb; have ilb := plb.isList
      have e : eqD (.bl x) (.lst y) = eqD _ _ := rfl
      unfold eqD
      exact EqAt.bool_list x ilb (Nat.lt_of_le_of_lt (Nat.le_add_right _ _) hu)
  | .int x, y, A, v, u, a, b, ra, rb, va, vb, hu, px, py => by
    have zv := rep_int.mp ra; subst zv; obtain ⟨ta, za⟩ : ∃ t, a = Value.int x t := va; subst za
    cases y with
    | dct _ _ => simp at py
    | ins _ _ _ => simp at py
    | exn _ _ _ => simp at py
    | non =>
      have zu := rep_non.mp rb; subst zu; have zb : b = Value.none := vb; subst zb
      have e : eqD (.int x) (.non) = eqD _ _ := rfl
      unfold eqD
      exact EqAt.int_none x ta
    | bl y =>
      have zu := rep_bl.mp rb; subst zu; have zb : b = Value.bool y := vb; subst zb
      have e : eqD (.int x) (.bl y) = eqD _ _ := rfl
      unfold eqD
      exact EqAt.int_bool x ta y
    | int y =>
      have zu := rep_int.mp rb; subst zu; obtain ⟨tb, zb⟩ : ∃ t, b = Value.int y t := vb; subst zb
      have e : eqD (.int x) (.int y) = eqD _ _ := rfl
      unfold eqD
      exact EqAt.int_int x ta y tb
    | str y =>
      have zu := rep_str.mp rb; subst zu; obtain ⟨tb, zb⟩ : ∃ t, b = Value.str ⟨y.toArray⟩ t := vb; subst zb
      have e : eqD (.int x) (.str y) = eqD _ _ := rfl
      unfold eqD
      exact EqAt.int_str x ta _ tb
    | tup y =>
      obtain ⟨lb, wsb, zu, hqb, hrb⟩ := rep_tup.mp rb; subst zu; have zb : b = Value.ref lb := vb; subst zb; obtain ⟨itsb, rvb, plb, _⟩ := I.tuple hqb; have ilb : s.heap.IsTuple lb itsb.toArray := plb
      have e : eqD (.int x) (.tup y) = eqD _ _ := rfl
      unfold eqD
      exact EqAt.int_tuple x ta ilb (Nat.lt_of_le_of_lt (Nat.le_add_right _ _) hu)
    | lst y =>
      obtain ⟨lb, wsb, zu, hqb, hrb⟩ := rep_lst.mp rb; subst zu; have zb : b = Value.ref lb := vb; subst zb; obtain ⟨itsb, rvb, plb, _⟩ := I.list hqb; have ilb := plb.isList
      have e : eqD (.int x) (.lst y) = eqD _ _ := rfl
      unfold eqD
      exact EqAt.int_list x ta ilb (Nat.lt_of_le_of_lt (Nat.le_add_right _ _) hu)
  | .str x, y, A, v, u, a, b, ra, rb, va, vb, hu, px, py => by
    have zv := rep_str.mp ra; subst zv; obtain ⟨ta, za⟩ : ∃ t, a = Value.str ⟨x.toArray⟩ t := va; subst za
    cases y with
    | dct _ _ => simp at py
    | ins _ _ _ => simp at py
    | exn _ _ _ => simp at py
    | non =>
      have zu := rep_non.mp rb; subst zu; have zb : b = Value.none := vb; subst zb
      have e : eqD (.str x) (.non) = eqD _ _ := rfl
      unfold eqD
      exact EqAt.str_none _ ta
    | bl y =>
      have zu := rep_bl.mp rb; subst zu; have zb : b = Value.bool y := vb; subst zb
      have e : eqD (.str x) (.bl y) = eqD _ _ := rfl
      unfold eqD
      exact EqAt.str_bool _ ta y
    | int y =>
      have zu := rep_int.mp rb; subst zu; obtain ⟨tb, zb⟩ : ∃ t, b = Value.int y t := vb; subst zb
      have e : eqD (.str x) (.int y) = eqD _ _ := rfl
      unfold eqD
      exact EqAt.str_int _ ta y tb
    | str y =>
      have zu := rep_str.mp rb; subst zu; obtain ⟨tb, zb⟩ : ∃ t, b = Value.str ⟨y.toArray⟩ t := vb; subst zb
      have e : eqD (.str x) (.str y) = ((⟨x.toArray⟩ : Str) == ⟨y.toArray⟩) := by rw [← str_beq]; unfold eqD; simp
      rw [e]
      exact EqAt.str_str _ ta _ tb
    | tup y =>
      obtain ⟨lb, wsb, zu, hqb, hrb⟩ := rep_tup.mp rb; subst zu; have zb : b = Value.ref lb := vb; subst zb; obtain ⟨itsb, rvb, plb, _⟩ := I.tuple hqb; have ilb : s.heap.IsTuple lb itsb.toArray := plb
      have e : eqD (.str x) (.tup y) = eqD _ _ := rfl
      unfold eqD
      exact EqAt.str_tuple _ ta ilb (Nat.lt_of_le_of_lt (Nat.le_add_right _ _) hu)
    | lst y =>
      obtain ⟨lb, wsb, zu, hqb, hrb⟩ := rep_lst.mp rb; subst zu; have zb : b = Value.ref lb := vb; subst zb; obtain ⟨itsb, rvb, plb, _⟩ := I.list hqb; have ilb := plb.isList
      have e : eqD (.str x) (.lst y) = eqD _ _ := rfl
      unfold eqD
      exact EqAt.str_list _ ta ilb (Nat.lt_of_le_of_lt (Nat.le_add_right _ _) hu)
  | .tup x, y, A, v, u, a, b, ra, rb, va, vb, hu, px, py => by
    obtain ⟨la, wsa, zv, hqa, hra⟩ := rep_tup.mp ra; subst zv; have za : a = Value.ref la := va; subst za; obtain ⟨itsa, rva, pla, _⟩ := I.tuple hqa; have ila : s.heap.IsTuple la itsa.toArray := pla
    cases y with
    | dct _ _ => simp at py
    | ins _ _ _ => simp at py
    | exn _ _ _ => simp at py
    | non =>
      have zu := rep_non.mp rb; subst zu; have zb : b = Value.none := vb; subst zb
      have e : eqD (.tup x) (.non) = eqD _ _ := rfl
      unfold eqD
      exact EqAt.tuple_none ila (Nat.lt_of_le_of_lt (Nat.le_add_right _ _) hu)
    | bl y =>
      have zu := rep_bl.mp rb; subst zu; have zb : b = Value.bool y := vb; subst zb
      have e : eqD (.tup x) (.bl y) = eqD _ _ := rfl
      unfold eqD
      exact EqAt.tuple_bool y ila (Nat.lt_of_le_of_lt (Nat.le_add_right _ _) hu)
    | int y =>
      have zu := rep_int.mp rb; subst zu; obtain ⟨tb, zb⟩ : ∃ t, b = Value.int y t := vb; subst zb
      have e : eqD (.tup x) (.int y) = eqD _ _ := rfl
      unfold eqD
      exact EqAt.tuple_int y tb ila (Nat.lt_of_le_of_lt (Nat.le_add_right _ _) hu)
    | str y =>
      have zu := rep_str.mp rb; subst zu; obtain ⟨tb, zb⟩ : ∃ t, b = Value.str ⟨y.toArray⟩ t := vb; subst zb
      have e : eqD (.tup x) (.str y) = eqD _ _ := rfl
      unfold eqD
      exact EqAt.tuple_str _ tb ila (Nat.lt_of_le_of_lt (Nat.le_add_right _ _) hu)
    | tup y =>
      obtain ⟨lb, wsb, zu, hqb, hrb⟩ := rep_tup.mp rb; subst zu; have zb : b = Value.ref lb := vb; subst zb; obtain ⟨itsb, rvb, plb, _⟩ := I.tuple hqb; have ilb : s.heap.IsTuple lb itsb.toArray := plb
      have n1 : itsa.length = x.length := by rw [← rva.length, hra.length]
      have n2 : itsb.length = y.length := by rw [← rvb.length, hrb.length]
      have e : eqD (.tup x) (.tup y) = eqDs x y := by conv => lhs; unfold eqD
      have hd : dep (.tup x) = deps x + 1 := by conv => lhs; unfold dep
      rw [hd] at hu
      have hin : A.in1.units + deps x < cLine := by show A.units + 1 + deps x < cLine; omega
      by_cases hll : la = lb
      · subst hll
        have := Rep.inj I px py ra rb
        rw [this, eqD_refl _ py]
        exact EqAt.same _
      · rw [e]
        have e3 : eqDs x y = ((List.range (min itsa.toArray.size itsb.toArray.size)).all (pairE x y) && itsa.toArray.size == itsb.toArray.size) := by rw [← eqDs_all, List.size_toArray, List.size_toArray, n1, n2]
        rw [e3]
        refine EqAt.of_refs hll (RcAt.tuples ila ilb (by omega) fun j j1 j2 => ?_)
        have := eqAt_reps I x y A.in1 wsa wsb itsa itsb hra hrb rva rvb hin (by simpa using px) (by simpa using py) j (by simpa using j1) (by simpa using j2)
        simpa using this
    | lst y =>
      obtain ⟨lb, wsb, zu, hqb, hrb⟩ := rep_lst.mp rb; subst zu; have zb : b = Value.ref lb := vb; subst zb; obtain ⟨itsb, rvb, plb, _⟩ := I.list hqb; have ilb := plb.isList
      have e : eqD (.tup x) (.lst y) = eqD _ _ := rfl
      unfold eqD
      exact EqAt.tuple_list ila ilb (Nat.lt_of_le_of_lt (Nat.le_add_right _ _) hu)
  | .lst x, y, A, v, u, a, b, ra, rb, va, vb, hu, px, py => by
    obtain ⟨la, wsa, zv, hqa, hra⟩ := rep_lst.mp ra; subst zv; have za : a = Value.ref la := va; subst za; obtain ⟨itsa, rva, pla, _⟩ := I.list hqa; have ila := pla.isList
    cases y with
    | dct _ _ => simp at py
    | ins _ _ _ => simp at py
    | exn _ _ _ => simp at py
    | non =>
      have zu := rep_non.mp rb; subst zu; have zb : b = Value.none := vb; subst zb
      have e : eqD (.lst x) (.non) = eqD _ _ := rfl
      unfold eqD
      exact EqAt.list_none ila (Nat.lt_of_le_of_lt (Nat.le_add_right _ _) hu)
    | bl y =>
      have zu := rep_bl.mp rb; subst zu; have zb : b = Value.bool y := vb; subst zb
      have e : eqD (.lst x) (.bl y) = eqD _ _ := rfl
      unfold eqD
      exact EqAt.list_bool y ila (Nat.lt_of_le_of_lt (Nat.le_add_right _ _) hu)
    | int y =>
      have zu := rep_int.mp rb; subst zu; obtain ⟨tb, zb⟩ : ∃ t, b = Value.int y t := vb; subst zb
      have e : eqD (.lst x) (.int y) = eqD _ _ := rfl
      unfold eqD
      exact EqAt.list_int y tb ila (Nat.lt_of_le_of_lt (Nat.le_add_right _ _) hu)
    | str y =>
      have zu := rep_str.mp rb; subst zu; obtain ⟨tb, zb⟩ : ∃ t, b = Value.str ⟨y.toArray⟩ t := vb; subst zb
      have e : eqD (.lst x) (.str y) = eqD _ _ := rfl
      unfold eqD
      exact EqAt.list_str _ tb ila (Nat.lt_of_le_of_lt (Nat.le_add_right _ _) hu)
    | tup y =>
      obtain ⟨lb, wsb, zu, hqb, hrb⟩ := rep_tup.mp rb; subst zu; have zb : b = Value.ref lb := vb; subst zb; obtain ⟨itsb, rvb, plb, _⟩ := I.tuple hqb; have ilb : s.heap.IsTuple lb itsb.toArray := plb
      have e : eqD (.lst x) (.tup y) = eqD _ _ := rfl
      unfold eqD
      exact EqAt.list_tuple ila ilb (Nat.lt_of_le_of_lt (Nat.le_add_right _ _) hu)
    | lst y =>
      obtain ⟨lb, wsb, zu, hqb, hrb⟩ := rep_lst.mp rb; subst zu; have zb : b = Value.ref lb := vb; subst zb; obtain ⟨itsb, rvb, plb, _⟩ := I.list hqb; have ilb := plb.isList
      have n1 : itsa.length = x.length := by rw [← rva.length, hra.length]
      have n2 : itsb.length = y.length := by rw [← rvb.length, hrb.length]
      have e : eqD (.lst x) (.lst y) = eqDs x y := by conv => lhs; unfold eqD
      have hd : dep (.lst x) = deps x + 1 := by conv => lhs; unfold dep
      rw [hd] at hu
      have hin : A.in1.units + deps x < cLine := by show A.units + 1 + deps x < cLine; omega
      by_cases hll : la = lb
      · subst hll
        have := Rep.inj I px py ra rb
        rw [this, eqD_refl _ py]
        exact EqAt.same _
      · rw [e]
        by_cases hsz : itsa.length = itsb.length
        · have e3 : eqDs x y = (List.range itsa.toArray.size).all (pairE x y) := by rw [← eqDs_all, List.size_toArray, n1]; simp [show x.length = y.length by omega]
          rw [e3]
          refine EqAt.of_refs hll (RcAt.lists ila ilb (by simpa using hsz) (by omega) fun j j1 j2 => ?_)
          have := eqAt_reps I x y A.in1 wsa wsb itsa itsb hra hrb rva rvb hin (by simpa using px) (by simpa using py) j (by simpa using j1) (by simpa using j2)
          simpa using this
        · rw [eqDs_other (by omega)]
          exact EqAt.of_refs hll (RcAt.lists_lengths ila ilb (by simpa using hsz) (by omega))
  | .dct _ _, y, A, v, u, a, b, ra, rb, va, vb, hu, px, py => by simp at px
  | .ins _ _ _, y, A, v, u, a, b, ra, rb, va, vb, hu, px, py => by simp at px
  | .exn _ _ _, y, A, v, u, a, b, ra, rb, va, vb, hu, px, py => by simp at px
theorem eqAt_reps (I : Inv X pins σ H s) : ∀ (xs ys : List D) (A : Around) (vs us : List V) (as bs : List Value), Reps X.K H xs vs → Reps X.K H ys us → Vals vs as → Vals us bs → A.units + deps xs < cLine → plains xs = true → plains ys = true → ∀ (j : Nat) (h1 : j < as.length) (h2 : j < bs.length), EqAt A s as[j] bs[j] (pairE xs ys j)
  | [], _, A, vs, us, as, bs, ra, rb, va, vb, hu, px, py, j, h1, h2 => by
    have e := reps_nil.mp ra; subst e; cases va; exact absurd h1 (Nat.not_lt_zero _)
  | x :: xs, [], A, vs, us, as, bs, ra, rb, va, vb, hu, px, py, j, h1, h2 => by
    have e := reps_nil.mp rb; subst e; cases vb; exact absurd h2 (Nat.not_lt_zero _)
  | x :: xs, y :: ys, A, vs, us, as, bs, ra, rb, va, vb, hu, px, py, j, h1, h2 => by
    obtain ⟨v, r, e, p1, p2⟩ := reps_cons.mp ra; subst e
    obtain ⟨u, r', e, q1, q2⟩ := reps_cons.mp rb; subst e
    have hd : deps (x :: xs) = max (dep x) (deps xs) := by conv => lhs; unfold deps
    rw [hd] at hu
    simp only [plains_cons, Bool.and_eq_true] at px py
    cases va with
    | cons va vas =>
      cases vb with
      | cons vb vbs =>
        cases j with
        | zero => exact eqAt_rep I x y A v u _ _ p1 q1 va vb (by omega) px.1 py.1
        | succ j => exact eqAt_reps I xs ys A r r' _ _ p2 q2 vas vbs (by omega) px.2 py.2 j (Nat.lt_of_succ_lt_succ h1) (Nat.lt_of_succ_lt_succ h2)
end
theorem rcAt_rep (I : Inv X pins σ H s) : ∀ (x y : D) (A : Around) (v u : V) (a b : Value), Rep X.K H x v → Rep X.K H y u → RelV v a → RelV u b → A.units + dep x < cLine → plain x = true → plain y = true → RcAt A s a b (eqD x y)
  | .non, y, A, v, u, a, b, ra, rb, va, vb, hu, px, py => by
    have zv := rep_non.mp ra; subst zv; have za : a = Value.none := va; subst za
    cases y with
    | dct _ _ => simp at py
    | ins _ _ _ => simp at py
    | exn _ _ _ => simp at py
    | non =>
      have zu := rep_non.mp rb; subst zu; have zb : b = Value.none := vb; subst zb
      have e : eqD (.non) (.non) = eqD _ _ := rfl
      unfold eqD
      exact RcAt.none_none
    | bl y =>
      have zu := rep_bl.mp rb; subst zu; have zb : b = Value.bool y := vb; subst zb
      have e : eqD (.non) (.bl y) = eqD _ _ := rfl
      unfold eqD
      exact RcAt.none_bool y
    | int y =>
      have zu := rep_int.mp rb; subst zu; obtain ⟨tb, zb⟩ : ∃ t, b = Value.int y t := vb; subst zb
      have e : eqD (.non) (.int y) = eqD _ _ := rfl
      unfold eqD
      exact RcAt.none_int y tb
    | str y =>
      have zu := rep_str.mp rb; subst zu; obtain ⟨tb, zb⟩ : ∃ t, b = Value.str ⟨y.toArray⟩ t := vb; subst zb
      have e : eqD (.non) (.str y) = eqD _ _ := rfl
      unfold eqD
      exact RcAt.none_str _ tb
    | tup y =>
      obtain ⟨lb, wsb, zu, hqb, hrb⟩ := rep_tup.mp rb; subst zu; have zb : b = Value.ref lb := vb; subst zb; obtain ⟨itsb, rvb, plb, _⟩ := I.tuple hqb; have ilb : s.heap.IsTuple lb itsb.toArray := plb
      have e : eqD (.non) (.tup y) = eqD _ _ := rfl
      unfold eqD
      exact RcAt.none_tuple ilb (Nat.lt_of_le_of_lt (Nat.le_add_right _ _) hu)
    | lst y =>
      obtain ⟨lb, wsb, zu, hqb, hrb⟩ := rep_lst.mp rb; subst zu; have zb : b = Value.ref lb := vb; subst zb; obtain ⟨itsb, rvb, plb, _⟩ := I.list hqb; have ilb := plb.isList
      have e : eqD (.non) (.lst y) = eqD _ _ := rfl
      unfold eqD
      exact RcAt.none_list ilb (Nat.lt_of_le_of_lt (Nat.le_add_right _ _) hu)
  | .bl x, y, A, v, u, a, b, ra, rb, va, vb, hu, px, py => by
    have zv := rep_bl.mp ra; subst zv; have za : a = Value.bool x := va; subst za
    cases y with
    | dct _ _ => simp at py
    | ins _ _ _ => simp at py
    | exn _ _ _ => simp at py
    | non =>
      have zu := rep_non.mp rb; subst zu; have zb : b = Value.none := vb; subst zb
      have e : eqD (.bl x) (.non) = eqD _ _ := rfl
      unfold eqD
      exact RcAt.bool_none x
    | bl y =>
      have zu := rep_bl.mp rb; subst zu; have zb : b = Value.bool y := vb; subst zb
      have e : eqD (.bl x) (.bl y) = eqD _ _ := rfl
      unfold eqD
      exact RcAt.bool_bool x y
    | int y =>
      have zu := rep_int.mp rb; subst zu; obtain ⟨tb, zb⟩ : ∃ t, b = Value.int y t := vb; subst zb
      have e : eqD (.bl x) (.int y) = eqD _ _ := rfl
      unfold eqD
      exact RcAt.bool_int x y tb
    | str y =>
      have zu := rep_str.mp rb; subst zu; obtain ⟨tb, zb⟩ : ∃ t, b = Value.str ⟨y.toArray⟩ t := vb; subst zb
      have e : eqD (.bl x) (.str y) = eqD _ _ := rfl
      unfold eqD
      exact RcAt.bool_str x _ tb
    | tup y =>
      obtain ⟨lb, wsb, zu, hqb, hrb⟩ := rep_tup.mp rb; subst zu; have zb : b = Value.ref lb := vb; subst zb; obtain ⟨itsb, rvb, plb, _⟩ := I.tuple hqb; have ilb : s.heap.IsTuple lb itsb.toArray := plb
      have e : eqD (.bl x) (.tup y) = eqD _ _ := rfl
      unfold eqD
      exact RcAt.bool_tuple x ilb (Nat.lt_of_le_of_lt (Nat.le_add_right _ _) hu)
    | lst y =>
      obtain ⟨lb, wsb, zu, hqb, hrb⟩ := rep_lst.mp rb; subst zu; have zb : b = Value.ref lb := vb; subst zb; obtain ⟨itsb, rvb, plb, _⟩ := I.list hqb; have ilb := plb.isList
      have e : eqD (.bl x) (.lst y) = eqD _ _ := rfl
      unfold eqD
      exact RcAt.bool_list x ilb (Nat.lt_of_le_of_lt (Nat.le_add_right _ _) hu)
  | .int x, y, A, v, u, a, b, ra, rb, va, vb, hu, px, py => by
    have zv := rep_int.mp ra; subst zv; obtain ⟨ta, za⟩ : ∃ t, a = Value.int x t := va; subst za
    cases y with
    | dct _ _ => simp at py
    | ins _ _ _ => simp at py
    | exn _ _ _ => simp at py
    | non =>
      have zu := rep_non.mp rb; subst zu; have zb : b = Value.none := vb; subst zb
      have e : eqD (.int x) (.non) = eqD _ _ := rfl
      unfold eqD
      exact RcAt.int_none x ta
    | bl y =>
      have zu := rep_bl.mp rb; subst zu; have zb : b = Value.bool y := vb; subst zb
      have e : eqD (.int x) (.bl y) = eqD _ _ := rfl
      unfold eqD
      exact RcAt.int_bool x ta y
    | int y =>
      have zu := rep_int.mp rb; subst zu; obtain ⟨tb, zb⟩ : ∃ t, b = Value.int y t := vb; subst zb
      have e : eqD (.int x) (.int y) = eqD _ _ := rfl
      unfold eqD
      exact RcAt.int_int x ta y tb
    | str y =>
      have zu := rep_str.mp rb; subst zu; obtain ⟨tb, zb⟩ : ∃ t, b = Value.str ⟨y.toArray⟩ t := vb; subst zb
      have e : eqD (.int x) (.str y) = eqD _ _ := rfl
      unfold eqD
      exact RcAt.int_str x ta _ tb
    | tup y =>
      obtain ⟨lb, wsb, zu, hqb, hrb⟩ := rep_tup.mp rb; subst zu; have zb : b = Value.ref lb := vb; subst zb; obtain ⟨itsb, rvb, plb, _⟩ := I.tuple hqb; have ilb : s.heap.IsTuple lb itsb.toArray := plb
      have e : eqD (.int x) (.tup y) = eqD _ _ := rfl
      unfold eqD
      exact RcAt.int_tuple x ta ilb (Nat.lt_of_le_of_lt (Nat.le_add_right _ _) hu)
    | lst y =>
      obtain ⟨lb, wsb, zu, hqb, hrb⟩ := rep_lst.mp rb; subst zu; have zb : b = Value.ref lb := vb; subst zb; obtain ⟨itsb, rvb, plb, _⟩ := I.list hqb; have ilb := plb.isList
      have e : eqD (.int x) (.lst y) = eqD _ _ := rfl
      unfold eqD
      exact RcAt.int_list x ta ilb (Nat.lt_of_le_of_lt (Nat.le_add_right _ _) hu)
  | .str x, y, A, v, u, a, b, ra, rb, va, vb, hu, px, py => by
    have zv := rep_str.mp ra; subst zv; obtain ⟨ta, za⟩ : ∃ t, a = Value.str ⟨x.toArray⟩ t := va; subst za
    cases y with
    | dct _ _ => simp at py
    | ins _ _ _ => simp at py
    | exn _ _ _ => simp at py
    | non =>
      have zu := rep_non.mp rb; subst zu; have zb : b = Value.none := vb; subst zb
      have e : eqD (.str x) (.non) = eqD _ _ := rfl
      unfold eqD
      exact RcAt.str_none _ ta
    | bl y =>
      have zu := rep_bl.mp rb; subst zu; have zb : b = Value.bool y := vb; subst zb
      have e : eqD (.str x) (.bl y) = eqD _ _ := rfl
      unfold eqD
      exact RcAt.str_bool _ ta y
    | int y =>
      have zu := rep_int.mp rb; subst zu; obtain ⟨tb, zb⟩ : ∃ t, b = Value.int y t := vb; subst zb
      have e : eqD (.str x) (.int y) = eqD _ _ := rfl
      unfold eqD
      exact RcAt.str_int _ ta y tb
    | str y =>
      have zu := rep_str.mp rb; subst zu; obtain ⟨tb, zb⟩ : ∃ t, b = Value.str ⟨y.toArray⟩ t := vb; subst zb
      have e : eqD (.str x) (.str y) = ((⟨x.toArray⟩ : Str) == ⟨y.toArray⟩) := by rw [← str_beq]; unfold eqD; simp
      rw [e]
      exact RcAt.str_str _ ta _ tb
    | tup y =>
      obtain ⟨lb, wsb, zu, hqb, hrb⟩ := rep_tup.mp rb; subst zu; have zb : b = Value.ref lb := vb; subst zb; obtain ⟨itsb, rvb, plb, _⟩ := I.tuple hqb; have ilb : s.heap.IsTuple lb itsb.toArray := plb
      have e : eqD (.str x) (.tup y) = eqD _ _ := rfl
      unfold eqD
      exact RcAt.str_tuple _ ta ilb (Nat.lt_of_le_of_lt (Nat.le_add_right _ _) hu)
    | lst y =>
      obtain ⟨lb, wsb, zu, hqb, hrb⟩ := rep_lst.mp rb; subst zu; have zb : b = Value.ref lb := vb; subst zb; obtain ⟨itsb, rvb, plb, _⟩ := I.list hqb; have ilb := plb.isList
      have e : eqD (.str x) (.lst y) = eqD _ _ := rfl
      unfold eqD
      exact RcAt.str_list _ ta ilb (Nat.lt_of_le_of_lt (Nat.le_add_right _ _) hu)
  | .tup x, y, A, v, u, a, b, ra, rb, va, vb, hu, px, py => by
    obtain ⟨la, wsa, zv, hqa, hra⟩ := rep_tup.mp ra; subst zv; have za : a = Value.ref la := va; subst za; obtain ⟨itsa, rva, pla, _⟩ := I.tuple hqa; have ila : s.heap.IsTuple la itsa.toArray := pla
    cases y with
    | dct _ _ => simp at py
    | ins _ _ _ => simp at py
    | exn _ _ _ => simp at py
    | non =>
      have zu := rep_non.mp rb; subst zu; have zb : b = Value.none := vb; subst zb
      have e : eqD (.tup x) (.non) = eqD _ _ := rfl
      unfold eqD
      exact RcAt.tuple_none ila (Nat.lt_of_le_of_lt (Nat.le_add_right _ _) hu)
    | bl y =>
      have zu := rep_bl.mp rb; subst zu; have zb : b = Value.bool y := vb; subst zb
      have e : eqD (.tup x) (.bl y) = eqD _ _ := rfl
      unfold eqD
      exact RcAt.tuple_bool y ila (Nat.lt_of_le_of_lt (Nat.le_add_right _ _) hu)
    | int y =>
      have zu := rep_int.mp rb; subst zu; obtain ⟨tb, zb⟩ : ∃ t, b = Value.int y t := vb; subst zb
      have e : eqD (.tup x) (.int y) = eqD _ _ := rfl
      unfold eqD
      exact RcAt.tuple_int y tb ila (Nat.lt_of_le_of_lt (Nat.le_add_right _ _) hu)
    | str y =>
      have zu := rep_str.mp rb; subst zu; obtain ⟨tb, zb⟩ : ∃ t, b = Value.str ⟨y.toArray⟩ t := vb; subst zb
      have e : eqD (.tup x) (.str y) = eqD _ _ := rfl
      unfold eqD
      exact RcAt.tuple_str _ tb ila (Nat.lt_of_le_of_lt (Nat.le_add_right _ _) hu)
    | tup y =>
      obtain ⟨lb, wsb, zu, hqb, hrb⟩ := rep_tup.mp rb; subst zu; have zb : b = Value.ref lb := vb; subst zb; obtain ⟨itsb, rvb, plb, _⟩ := I.tuple hqb; have ilb : s.heap.IsTuple lb itsb.toArray := plb
      have n1 : itsa.length = x.length := by rw [← rva.length, hra.length]
      have n2 : itsb.length = y.length := by rw [← rvb.length, hrb.length]
      have e : eqD (.tup x) (.tup y) = eqDs x y := by conv => lhs; unfold eqD
      have hd : dep (.tup x) = deps x + 1 := by conv => lhs; unfold dep
      rw [hd] at hu
      have hin : A.in1.units + deps x < cLine := by show A.units + 1 + deps x < cLine; omega
      rw [e]
      have e3 : eqDs x y = ((List.range (min itsa.toArray.size itsb.toArray.size)).all (pairE x y) && itsa.toArray.size == itsb.toArray.size) := by rw [← eqDs_all, List.size_toArray, List.size_toArray, n1, n2]
      rw [e3]
      refine  (RcAt.tuples ila ilb (by omega) fun j j1 j2 => ?_)
      have := eqAt_reps I x y A.in1 wsa wsb itsa itsb hra hrb rva rvb hin (by simpa using px) (by simpa using py) j (by simpa using j1) (by simpa using j2)
      simpa using this
    | lst y =>
      obtain ⟨lb, wsb, zu, hqb, hrb⟩ := rep_lst.mp rb; subst zu; have zb : b = Value.ref lb := vb; subst zb; obtain ⟨itsb, rvb, plb, _⟩ := I.list hqb; have ilb := plb.isList
      have e : eqD (.tup x) (.lst y) = eqD _ _ := rfl
      unfold eqD
      exact RcAt.tuple_list ila ilb (Nat.lt_of_le_of_lt (Nat.le_add_right _ _) hu)
  | .lst x, y, A, v, u, a, b, ra, rb, va, vb, hu, px, py => by
    obtain ⟨la, wsa, zv, hqa, hra⟩ := rep_lst.mp ra; subst zv; have za : a = Value.ref la := va; subst za; obtain ⟨itsa, rva, pla, _⟩ := I.list hqa; have ila := pla.isList
    cases y with
    | dct _ _ => simp at py
    | ins _ _ _ => simp at py
    | exn _ _ _ => simp at py
    | non =>
      have zu := rep_non.mp rb; subst zu; have zb : b = Value.none := vb; subst zb
      have e : eqD (.lst x) (.non) = eqD _ _ := rfl
      unfold eqD
      exact RcAt.list_none ila (Nat.lt_of_le_of_lt (Nat.le_add_right _ _) hu)
    | bl y =>
      have zu := rep_bl.mp rb; subst zu; have zb : b = Value.bool y := vb; subst zb
      have e : eqD (.lst x) (.bl y) = eqD _ _ := rfl
      unfold eqD
      exact RcAt.list_bool y ila (Nat.lt_of_le_of_lt (Nat.le_add_right _ _) hu)
    | int y =>
      have zu := rep_int.mp rb; subst zu; obtain ⟨tb, zb⟩ : ∃ t, b = Value.int y t := vb; subst zb
      have e : eqD (.lst x) (.int y) = eqD _ _ := rfl
      unfold eqD
      exact RcAt.list_int y tb ila (Nat.lt_of_le_of_lt (Nat.le_add_right _ _) hu)
    | str y =>
      have zu := rep_str.mp rb; subst zu; obtain ⟨tb, zb⟩ : ∃ t, b = Value.str ⟨y.toArray⟩ t := vb; subst zb
      have e : eqD (.lst x) (.str y) = eqD _ _ := rfl
      unfold eqD
      exact RcAt.list_str _ tb ila (Nat.lt_of_le_of_lt (Nat.le_add_right _ _) hu)
    | tup y =>
      obtain ⟨lb, wsb, zu, hqb, hrb⟩ := rep_tup.mp rb; subst zu; have zb : b = Value.ref lb := vb; subst zb; obtain ⟨itsb, rvb, plb, _⟩ := I.tuple hqb; have ilb : s.heap.IsTuple lb itsb.toArray := plb
      have e : eqD (.lst x) (.tup y) = eqD _ _ := rfl
      unfold eqD
      exact RcAt.list_tuple ila ilb (Nat.lt_of_le_of_lt (Nat.le_add_right _ _) hu)
    | lst y =>
      obtain ⟨lb, wsb, zu, hqb, hrb⟩ := rep_lst.mp rb; subst zu; have zb : b = Value.ref lb := vb; subst zb; obtain ⟨itsb, rvb, plb, _⟩ := I.list hqb; have ilb := plb.isList
      have n1 : itsa.length = x.length := by rw [← rva.length, hra.length]
      have n2 : itsb.length = y.length := by rw [← rvb.length, hrb.length]
      have e : eqD (.lst x) (.lst y) = eqDs x y := by conv => lhs; unfold eqD
      have hd : dep (.lst x) = deps x + 1 := by conv => lhs; unfold dep
      rw [hd] at hu
      have hin : A.in1.units + deps x < cLine := by show A.units + 1 + deps x < cLine; omega
      rw [e]
      by_cases hsz : itsa.length = itsb.length
      · have e3 : eqDs x y = (List.range itsa.toArray.size).all (pairE x y) := by rw [← eqDs_all, List.size_toArray, n1]; simp [show x.length = y.length by omega]
        rw [e3]
        refine  (RcAt.lists ila ilb (by simpa using hsz) (by omega) fun j j1 j2 => ?_)
        have := eqAt_reps I x y A.in1 wsa wsb itsa itsb hra hrb rva rvb hin (by simpa using px) (by simpa using py) j (by simpa using j1) (by simpa using j2)
        simpa using this
      · rw [eqDs_other (by omega)]
        exact  (RcAt.lists_lengths ila ilb (by simpa using hsz) (by omega))
  | .dct _ _, y, A, v, u, a, b, ra, rb, va, vb, hu, px, py => by simp at px
  | .ins _ _ _, y, A, v, u, a, b, ra, rb, va, vb, hu, px, py => by simp at px
  | .exn _ _ _, y, A, v, u, a, b, ra, rb, va, vb, hu, px, py => by simp at px
theorem rcNe_rep (I : Inv X pins σ H s) : ∀ (x y : D) (A : Around) (v u : V) (a b : Value), Rep X.K H x v → Rep X.K H y u → RelV v a → RelV u b → A.units + dep x < cLine → plain x = true → plain y = true → RcNeAt A s a b (!eqD x y)
  | .non, y, A, v, u, a, b, ra, rb, va, vb, hu, px, py => by
    have zv := rep_non.mp ra; subst zv; have za : a = Value.none := va; subst za
    cases y with
    | dct _ _ => simp at py
    | ins _ _ _ => simp at py
    | exn _ _ _ => simp at py
    | non =>
      have zu := rep_non.mp rb; subst zu; have zb : b = Value.none := vb; subst zb
      have e : eqD (.non) (.non) = eqD _ _ := rfl
      unfold eqD
      exact RcNeAt.none_none
    | bl y =>
      have zu := rep_bl.mp rb; subst zu; have zb : b = Value.bool y := vb; subst zb
      have e : eqD (.non) (.bl y) = eqD _ _ := rfl
      unfold eqD
      exact RcNeAt.none_bool y
    | int y =>
      have zu := rep_int.mp rb; subst zu; obtain ⟨tb, zb⟩ : ∃ t, b = Value.int y t := vb; subst zb
      have e : eqD (.non) (.int y) = eqD _ _ := rfl
      unfold eqD
      exact RcNeAt.none_int y tb
    | str y =>
      have zu := rep_str.mp rb; subst zu; obtain ⟨tb, zb⟩ : ∃ t, b = Value.str ⟨y.toArray⟩ t := vb; subst zb
      have e : eqD (.non) (.str y) = eqD _ _ := rfl
      unfold eqD
      exact RcNeAt.none_str _ tb
    | tup y =>
      obtain ⟨lb, wsb, zu, hqb, hrb⟩ := rep_tup.mp rb; subst zu; have zb : b = Value.ref lb := vb; subst zb; obtain ⟨itsb, rvb, plb, _⟩ := I.tuple hqb; have ilb : s.heap.IsTuple lb itsb.toArray := plb
      have e : eqD (.non) (.tup y) = eqD _ _ := rfl
      unfold eqD
      exact RcNeAt.none_tuple ilb (Nat.lt_of_le_of_lt (Nat.le_add_right _ _) hu)
    | lst y =>
      obtain ⟨lb, wsb, zu, hqb, hrb⟩ := rep_lst.mp rb; subst zu; have zb : b = Value.ref lb := vb; subst zb; obtain ⟨itsb, rvb, plb, _⟩ := I.list hqb; have ilb := plb.isList
      have e : eqD (.non) (.lst y) = eqD _ _ := rfl
      unfold eqD
      exact RcNeAt.none_list ilb (Nat.lt_of_le_of_lt (Nat.le_add_right _ _) hu)
  | .bl x, y, A, v, u, a, b, ra, rb, va, vb, hu, px, py => by
    have zv := rep_bl.mp ra; subst zv; have za : a = Value.bool x := va; subst za
    cases y with
    | dct _ _ => simp at py
    | ins _ _ _ => simp at py
    | exn _ _ _ => simp at py
    | non =>
      have zu := rep_non.mp rb; subst zu; have zb : b = Value.none := vb; subst zb
      have e : eqD (.bl x) (.non) = eqD _ _ := rfl
      unfold eqD
      exact RcNeAt.bool_none x
    | bl y =>
      have zu := rep_bl.mp rb; subst zu; have zb : b = Value.bool y := vb; subst zb
      have e : eqD (.bl x) (.bl y) = eqD _ _ := rfl
      unfold eqD
      exact RcNeAt.bool_bool x y
    | int y =>
      have zu := rep_int.mp rb; subst zu; obtain ⟨tb, zb⟩ : ∃ t, b = Value.int y t := vb; subst zb
      have e : eqD (.bl x) (.int y) = eqD _ _ := rfl
      unfold eqD
      exact RcNeAt.bool_int x y tb
    | str y =>
      have zu := rep_str.mp rb; subst zu; obtain ⟨tb, zb⟩ : ∃ t, b = Value.str ⟨y.toArray⟩ t := vb; subst zb
      have e : eqD (.bl x) (.str y) = eqD _ _ := rfl
      unfold eqD
      exact RcNeAt.bool_str x _ tb
    | tup y =>
      obtain ⟨lb, wsb, zu, hqb, hrb⟩ := rep_tup.mp rb; subst zu; have zb : b = Value.ref lb := vb; subst zb; obtain ⟨itsb, rvb, plb, _⟩ := I.tuple hqb; have ilb : s.heap.IsTuple lb itsb.toArray := plb
      have e : eqD (.bl x) (.tup y) = eqD _ _ := rfl
      unfold eqD
      exact RcNeAt.bool_tuple x ilb (Nat.lt_of_le_of_lt (Nat.le_add_right _ _) hu)
    | lst y =>
      obtain ⟨lb, wsb, zu, hqb, hrb⟩ := rep_lst.mp rb; subst zu; have zb : b = Value.ref lb := vb; subst zb; obtain ⟨itsb, rvb, plb, _⟩ := I.list hqb; have ilb := plb.isList
      have e : eqD (.bl x) (.lst y) = eqD _ _ := rfl
      unfold eqD
      exact RcNeAt.bool_list x ilb (Nat.lt_of_le_of_lt (Nat.le_add_right _ _) hu)
  | .int x, y, A, v, u, a, b, ra, rb, va, vb, hu, px, py => by
    have zv := rep_int.mp ra; subst zv; obtain ⟨ta, za⟩ : ∃ t, a = Value.int x t := va; subst za
    cases y with
    | dct _ _ => simp at py
    | ins _ _ _ => simp at py
    | exn _ _ _ => simp at py
    | non =>
      have zu := rep_non.mp rb; subst zu; have zb : b = Value.none := vb; subst zb
      have e : eqD (.int x) (.non) = eqD _ _ := rfl
      unfold eqD
      exact RcNeAt.int_none x ta
    | bl y =>
      have zu := rep_bl.mp rb; subst zu; have zb : b = Value.bool y := vb; subst zb
      have e : eqD (.int x) (.bl y) = eqD _ _ := rfl
      unfold eqD
      exact RcNeAt.int_bool x ta y
    | int y =>
      have zu := rep_int.mp rb; subst zu; obtain ⟨tb, zb⟩ : ∃ t, b = Value.int y t := vb; subst zb
      have e : eqD (.int x) (.int y) = eqD _ _ := rfl
      unfold eqD
      exact RcNeAt.int_int x ta y tb
    | str y =>
      have zu := rep_str.mp rb; subst zu; obtain ⟨tb, zb⟩ : ∃ t, b = Value.str ⟨y.toArray⟩ t := vb; subst zb
      have e : eqD (.int x) (.str y) = eqD _ _ := rfl
      unfold eqD
      exact RcNeAt.int_str x ta _ tb
    | tup y =>
      obtain ⟨lb, wsb, zu, hqb, hrb⟩ := rep_tup.mp rb; subst zu; have zb : b = Value.ref lb := vb; subst zb; obtain ⟨itsb, rvb, plb, _⟩ := I.tuple hqb; have ilb : s.heap.IsTuple lb itsb.toArray := plb
      have e : eqD (.int x) (.tup y) = eqD _ _ := rfl
      unfold eqD
      exact RcNeAt.int_tuple x ta ilb (Nat.lt_of_le_of_lt (Nat.le_add_right _ _) hu)
    | lst y =>
      obtain ⟨lb, wsb, zu, hqb, hrb⟩ := rep_lst.mp rb; subst zu; have zb : b = Value.ref lb := vb; subst zb; obtain ⟨itsb, rvb, plb, _⟩ := I.list hqb; have ilb := plb.isList
      have e : eqD (.int x) (.lst y) = eqD _ _ := rfl
      unfold eqD
      exact RcNeAt.int_list x ta ilb (Nat.lt_of_le_of_lt (Nat.le_add_right _ _) hu)
  | .str x, y, A, v, u, a, b, ra, rb, va, vb, hu, px, py => by
    have zv := rep_str.mp ra; subst zv; obtain ⟨ta, za⟩ : ∃ t, a = Value.str ⟨x.toArray⟩ t := va; subst za
    cases y with
    | dct _ _ => simp at py
    | ins _ _ _ => simp at py
    | exn _ _ _ => simp at py
    | non =>
      have zu := rep_non.mp rb; subst zu; have zb : b = Value.none := vb; subst zb
      have e : eqD (.str x) (.non) = eqD _ _ := rfl
      unfold eqD
      exact RcNeAt.str_none _ ta
    | bl y =>
      have zu := rep_bl.mp rb; subst zu; have zb : b = Value.bool y := vb; subst zb
      have e : eqD (.str x) (.bl y) = eqD _ _ := rfl
      unfold eqD
      exact RcNeAt.str_bool _ ta y
    | int y =>
      have zu := rep_int.mp rb; subst zu; obtain ⟨tb, zb⟩ : ∃ t, b = Value.int y t := vb; subst zb
      have e : eqD (.str x) (.int y) = eqD _ _ := rfl
      unfold eqD
      exact RcNeAt.str_int _ ta y tb
    | str y =>
      have zu := rep_str.mp rb; subst zu; obtain ⟨tb, zb⟩ : ∃ t, b = Value.str ⟨y.toArray⟩ t := vb; subst zb
      have e : eqD (.str x) (.str y) = ((⟨x.toArray⟩ : Str) == ⟨y.toArray⟩) := by rw [← str_beq]; unfold eqD; simp
      rw [e]
      exact RcNeAt.str_str _ ta _ tb
    | tup y =>
      obtain ⟨lb, wsb, zu, hqb, hrb⟩ := rep_tup.mp rb; subst zu; have zb : b = Value.ref lb := vb; subst zb; obtain ⟨itsb, rvb, plb, _⟩ := I.tuple hqb; have ilb : s.heap.IsTuple lb itsb.toArray := plb
      have e : eqD (.str x) (.tup y) = eqD _ _ := rfl
      unfold eqD
      exact RcNeAt.str_tuple _ ta ilb (Nat.lt_of_le_of_lt (Nat.le_add_right _ _) hu)
    | lst y =>
      obtain ⟨lb, wsb, zu, hqb, hrb⟩ := rep_lst.mp rb; subst zu; have zb : b = Value.ref lb := vb; subst zb; obtain ⟨itsb, rvb, plb, _⟩ := I.list hqb; have ilb := plb.isList
      have e : eqD (.str x) (.lst y) = eqD _ _ := rfl
      unfold eqD
      exact RcNeAt.str_list _ ta ilb (Nat.lt_of_le_of_lt (Nat.le_add_right _ _) hu)
  | .tup x, y, A, v, u, a, b, ra, rb, va, vb, hu, px, py => by
    obtain ⟨la, wsa, zv, hqa, hra⟩ := rep_tup.mp ra; subst zv; have za : a = Value.ref la := va; subst za; obtain ⟨itsa, rva, pla, _⟩ := I.tuple hqa; have ila : s.heap.IsTuple la itsa.toArray := pla
    cases y with
    | dct _ _ => simp at py
    | ins _ _ _ => simp at py
    | exn _ _ _ => simp at py
    | non =>
      have zu := rep_non.mp rb; subst zu; have zb : b = Value.none := vb; subst zb
      have e : eqD (.tup x) (.non) = eqD _ _ := rfl
      unfold eqD
      exact RcNeAt.tuple_none ila (Nat.lt_of_le_of_lt (Nat.le_add_right _ _) hu)
    | bl y =>
      have zu := rep_bl.mp rb; subst zu; have zb : b = Value.bool y := vb; subst zb
      have e : eqD (.tup x) (.bl y) = eqD _ _ := rfl
      unfold eqD
      exact RcNeAt.tuple_bool y ila (Nat.lt_of_le_of_lt (Nat.le_add_right _ _) hu)
    | int y =>
      have zu := rep_int.mp rb; subst zu; obtain ⟨tb, zb⟩ : ∃ t, b = Value.int y t := vb; subst zb
      have e : eqD (.tup x) (.int y) = eqD _ _ := rfl
      unfold eqD
      exact RcNeAt.tuple_int y tb ila (Nat.lt_of_le_of_lt (Nat.le_add_right _ _) hu)
    | str y =>
      have zu := rep_str.mp rb; subst zu; obtain ⟨tb, zb⟩ : ∃ t, b = Value.str ⟨y.toArray⟩ t := vb; subst zb
      have e : eqD (.tup x) (.str y) = eqD _ _ := rfl
      unfold eqD
      exact RcNeAt.tuple_str _ tb ila (Nat.lt_of_le_of_lt (Nat.le_add_right _ _) hu)
    | tup y =>
      obtain ⟨lb, wsb, zu, hqb, hrb⟩ := rep_tup.mp rb; subst zu; have zb : b = Value.ref lb := vb; subst zb; obtain ⟨itsb, rvb, plb, _⟩ := I.tuple hqb; have ilb : s.heap.IsTuple lb itsb.toArray := plb
      have n1 : itsa.length = x.length := by rw [← rva.length, hra.length]
      have n2 : itsb.length = y.length := by rw [← rvb.length, hrb.length]
      have e : eqD (.tup x) (.tup y) = eqDs x y := by conv => lhs; unfold eqD
      have hd : dep (.tup x) = deps x + 1 := by conv => lhs; unfold dep
      rw [hd] at hu
      have hin : A.in1.units + deps x < cLine := by show A.units + 1 + deps x < cLine; omega
      rw [e]
      have e3 : eqDs x y = ((List.range (min itsa.toArray.size itsb.toArray.size)).all (pairE x y) && itsa.toArray.size == itsb.toArray.size) := by rw [← eqDs_all, List.size_toArray, List.size_toArray, n1, n2]
      rw [e3]
      refine  (RcNeAt.tuples ila ilb (by omega) fun j j1 j2 => ?_)
      have := eqAt_reps I x y A.in1 wsa wsb itsa itsb hra hrb rva rvb hin (by simpa using px) (by simpa using py) j (by simpa using j1) (by simpa using j2)
      simpa using this
    | lst y =>
      obtain ⟨lb, wsb, zu, hqb, hrb⟩ := rep_lst.mp rb; subst zu; have zb : b = Value.ref lb := vb; subst zb; obtain ⟨itsb, rvb, plb, _⟩ := I.list hqb; have ilb := plb.isList
      have e : eqD (.tup x) (.lst y) = eqD _ _ := rfl
      unfold eqD
      exact RcNeAt.tuple_list ila ilb (Nat.lt_of_le_of_lt (Nat.le_add_right _ _) hu)
  | .lst x, y, A, v, u, a, b, ra, rb, va, vb, hu, px, py => by
    obtain ⟨la, wsa, zv, hqa, hra⟩ := rep_lst.mp ra; subst zv; have za : a = Value.ref la := va; subst za; obtain ⟨itsa, rva, pla, _⟩ := I.list hqa; have ila := pla.isList
    cases y with
    | dct _ _ => simp at py
    | ins _ _ _ => simp at py
    | exn _ _ _ => simp at py
    | non =>
      have zu := rep_non.mp rb; subst zu; have zb : b = Value.none := vb; subst zb
      have e : eqD (.lst x) (.non) = eqD _ _ := rfl
      unfold eqD
      exact RcNeAt.list_none ila (Nat.lt_of_le_of_lt (Nat.le_add_right _ _) hu)
    | bl y =>
      have zu := rep_bl.mp rb; subst zu; have zb : b = Value.bool y := vb; subst zb
      have e : eqD (.lst x) (.bl y) = eqD _ _ := rfl
      unfold eqD
      exact RcNeAt.list_bool y ila (Nat.lt_of_le_of_lt (Nat.le_add_right _ _) hu)
    | int y =>
      have zu := rep_int.mp rb; subst zu; obtain ⟨tb, zb⟩ : ∃ t, b = Value.int y t := vb; subst zb
      have e : eqD (.lst x) (.int y) = eqD _ _ := rfl
      unfold eqD
      exact RcNeAt.list_int y tb ila (Nat.lt_of_le_of_lt (Nat.le_add_right _ _) hu)
    | str y =>
      have zu := rep_str.mp rb; subst zu; obtain ⟨tb, zb⟩ : ∃ t, b = Value.str ⟨y.toArray⟩ t := vb; subst zb
      have e : eqD (.lst x) (.str y) = eqD _ _ := rfl
      unfold eqD
      exact RcNeAt.list_str _ tb ila (Nat.lt_of_le_of_lt (Nat.le_add_right _ _) hu)
    | tup y =>
      obtain ⟨lb, wsb, zu, hqb, hrb⟩ := rep_tup.mp rb; subst zu; have zb : b = Value.ref lb := vb; subst zb; obtain ⟨itsb, rvb, plb, _⟩ := I.tuple hqb; have ilb : s.heap.IsTuple lb itsb.toArray := plb
      have e : eqD (.lst x) (.tup y) = eqD _ _ := rfl
      unfold eqD
      exact RcNeAt.list_tuple ila ilb (Nat.lt_of_le_of_lt (Nat.le_add_right _ _) hu)
    | lst y =>
      obtain ⟨lb, wsb, zu, hqb, hrb⟩ := rep_lst.mp rb; subst zu; have zb : b = Value.ref lb := vb; subst zb; obtain ⟨itsb, rvb, plb, _⟩ := I.list hqb; have ilb := plb.isList
      have n1 : itsa.length = x.length := by rw [← rva.length, hra.length]
      have n2 : itsb.length = y.length := by rw [← rvb.length, hrb.length]
      have e : eqD (.lst x) (.lst y) = eqDs x y := by conv => lhs; unfold eqD
      have hd : dep (.lst x) = deps x + 1 := by conv => lhs; unfold dep
      rw [hd] at hu
      have hin : A.in1.units + deps x < cLine := by show A.units + 1 + deps x < cLine; omega
      rw [e]
      by_cases hsz : itsa.length = itsb.length
      · have e3 : eqDs x y = (List.range itsa.toArray.size).all (pairE x y) := by rw [← eqDs_all, List.size_toArray, n1]; simp [show x.length = y.length by omega]
        rw [e3]
        refine  (RcNeAt.lists ila ilb (by simpa using hsz) (by omega) fun j j1 j2 => ?_)
        have := eqAt_reps I x y A.in1 wsa wsb itsa itsb hra hrb rva rvb hin (by simpa using px) (by simpa using py) j (by simpa using j1) (by simpa using j2)
        simpa using this
      · rw [eqDs_other (by omega)]
        exact  (RcNeAt.lists_lengths ila ilb (by simpa using hsz) (by omega))
  | .dct _ _, y, A, v, u, a, b, ra, rb, va, vb, hu, px, py => by simp at px
  | .ins _ _ _, y, A, v, u, a, b, ra, rb, va, vb, hu, px, py => by simp at px
  | .exn _ _ _, y, A, v, u, a, b, ra, rb, va, vb, hu, px, py => by simp at px
end
end Pu

/-! ==, != as rules; isinstance; * of texts; is. -/
namespace Pu
open PySem PySem.Spec PyProof.Rows L2
section
variable {X : Cx} {B : List Addr} {a b e : Expr} {f g : Ex} {pos : Pos}
theorem RepP.rep {K : PySem.W.Frag} {A : List Addr} {H : Hp} {d : D} {v : V} (h : RepP K A H d v) : Rep K H d v := by
  rcases h with h | ⟨a, ds, vs, e1, e2, e3, q⟩
  · exact h.mono (hide_sub _ _)
  · subst e1 e2
    exact rep_lst.mpr ⟨a, vs, rfl, SqL.of e3, q.mono (hide_sub _ _)⟩
def rEqD (K : PySem.W.Frag) (neg : Bool) : R2 := fun v u H Q => ∃ x y, Rep K H x v ∧ Rep K H y u ∧ (dep x ≤ 64 ∧ plain x = true ∧ plain y = true) ∧ Q (.bl (if neg then !eqD x y else eqD x y)) H
theorem op_eqD (hu : X.A.units + 64 < cLine) : OpR X (compareOp .Eq) (rEqD X.K false) := by
  intro pins s σ H v u a b Q I ra rb h
  obtain ⟨x, y, rx, ry, hd, q⟩ := h
  exact rcAt_rep I x y X.A v u a b rx ry ra rb (by omega) hd.2.1 hd.2.2 X.prog X.w X.xe _ ⟨.bl _, H, I, rfl, q⟩
theorem op_neD (hu : X.A.units + 64 < cLine) : OpR X (compareOp .NotEq) (rEqD X.K true) := by
  intro pins s σ H v u a b Q I ra rb h
  obtain ⟨x, y, rx, ry, hd, q⟩ := h
  exact rcNe_rep I x y X.A v u a b rx ry ra rb (by omega) hd.2.1 hd.2.2 X.prog X.w X.xe _ ⟨.bl _, H, I, rfl, q⟩
theorem sem_eq {K : PySem.W.Frag} : Sem2 K (rEqD K false) dEq := by
  intro A H x y d v u Q w rx ry e q
  obtain ⟨c, e⟩ := guardR_of e
  cases e
  exact ⟨x, y, rx.rep, ry.rep, c, q _ H (Same.refl _) (rep_bl.mpr rfl)⟩
theorem sem_ne {K : PySem.W.Frag} : Sem2 K (rEqD K true) dNe := by
  intro A H x y d v u Q w rx ry e q
  obtain ⟨c, e⟩ := guardR_of e
  cases e
  exact ⟨x, y, rx.rep, ry.rep, c, q _ H (Same.refl _) (rep_bl.mpr rfl)⟩
/-! ### isinstance of a built-in kind -/
def tyD : D → String
  | .non => "NoneType"
  | .bl _ => "bool"
  | .int _ => "int"
  | .str _ => "str"
  | .tup _ => "tuple"
  | .lst _ => "list"
  | .dct _ _ => "dict"
  | .ins _ _ _ => ""
  | .exn _ _ _ => ""
/-- T is asked for; p tells it of data -/
structure IsT (T : String) (p : D → Bool) : Prop where
  boot : bootBuiltins T = some (.type T)
  ans : ∀ (K : PySem.W.Frag) (d : D), bltD d = true → PySem.W.kitOne K (.type (tyD d)) (.type T) = some (p d)
theorem call_isT {T : String} {p : D → Bool} (h : IsT T p) : CallR X (.builtin "isinstance") (fun xs H Q => ∃ v d, xs = [v, .ty T] ∧ bltD d = true ∧ Rep X.K H d v ∧ Q (.bl (p d)) H) := by
  intro pins s σ H xs us Q I r q
  obtain ⟨v, d, rfl, hbl, rd, q⟩ := q
  obtain ⟨u, u2, rfl, ru, ru2⟩ := r.two
  have e2 : u2 = Value.type T := ru2
  subst e2
  have fin : ∀ tk, EP X pins σ Q (.bool (p d)) { s with toks := tk } := fun tk => ⟨.bl (p d), H, I.tok tk, rfl, q⟩
  have e := h.ans X.K d hbl
  cases d with
  | non => have z := rep_non.mp rd; subst z; have z : u = Value.none := ru; subst z; exact PySem.W.kia_one PySem.W.kitx_none I.kIn True.intro e (fun z => nomatch z) fin
  | bl x => have z := rep_bl.mp rd; subst z; have z : u = Value.bool x := ru; subst z; exact PySem.W.kia_one PySem.W.kitx_bool I.kIn True.intro e (fun z => nomatch z) fin
  | int x => have z := rep_int.mp rd; subst z; obtain ⟨t, z⟩ : ∃ t, u = Value.int x t := ru; subst z; exact PySem.W.kia_one PySem.W.kitx_int I.kIn True.intro e (fun z => nomatch z) fin
  | str x => have z := rep_str.mp rd; subst z; obtain ⟨t, z⟩ : ∃ t, u = Value.str ⟨x.toArray⟩ t := ru; subst z; exact PySem.W.kia_one PySem.W.kitx_str I.kIn True.intro e (fun z => nomatch z) fin
  | tup x =>
    obtain ⟨l, vs, z, hq, _⟩ := rep_tup.mp rd; subst z
    have z : u = Value.ref l := ru; subst z
    obtain ⟨its, _, ⟨o, h1, h2, _⟩, _⟩ := I.tuple hq
    exact PySem.W.kia_one PySem.W.kitx_tuple I.kIn ⟨o, h1, h2⟩ e (fun z => nomatch z) fin
  | lst x =>
    obtain ⟨l, vs, z, hq, _⟩ := rep_lst.mp rd; subst z
    have z : u = Value.ref l := ru; subst z
    obtain ⟨its, _, ⟨o, n, h1, h2, _⟩, _⟩ := I.list hq
    exact PySem.W.kia_one PySem.W.kitx_list I.kIn ⟨o, h1, h2⟩ e (fun z => nomatch z) fin
  | dct ks x =>
    obtain ⟨l, vs, z, hq, _⟩ := rep_dct.mp rd; subst z
    have z : u = Value.ref l := ru; subst z
    have hd : ∃ o, s.heap.get? l = some o ∧ o.ExactDict := by
      rcases hq with ⟨kvs, hq, _⟩ | ⟨kvs, hq, _⟩
      · obtain ⟨_, _, vs', _, m⟩ : kvs.length ≤ sizeLine ∧ (l == sysModules) = false ∧ ∃ vs, KV kvs vs ∧ s.heap.DictOf (mixKind X.prog X.w) l vs := I.hok l _ hq
        obtain ⟨o, es, n, h1, h2, _⟩ := m
        exact ⟨o, h1, h2⟩
      · obtain ⟨_, _, xs, _, o, es, ep, h1, h2, _⟩ := I.hok l _ hq
        exact ⟨o, h1, h2⟩
    obtain ⟨o, h1, h2⟩ := hd
    exact PySem.W.kia_one PySem.W.kitx_dict I.kIn ⟨o, h1, h2.1⟩ e (fun z => nomatch z) fin
  | ins _ _ _ => exact nomatch hbl
  | exn _ _ _ => exact nomatch hbl
theorem i_isinst {T : Str} {S : String} {p : D → Bool} {p0 p1 : Pos} (hT : IsT S p) (hm : X.mg "isinstance" = none) (hmT : X.mg T = none) (ha : PE X a (tP X.K B f)) (hST : bootBuiltins T = some (.type S) := by first | rfl | exact hT.boot) (hg : Gl X "isinstance" := by rfl) (hgT : Gl X T := by rfl) (hnT : T ≠ "__name__" := by decide) (hdT : (T == ("__debug__" : Str)) = false := by decide)
    (hs : starEach [a, .Name T p1] X.env = (false, eval a X.env) :: starEach [.Name T p1] X.env := by rfl) (hs2 : starEach [.Name T p1] X.env = (false, eval (.Name T p1) X.env) :: starEach [] X.env := by rfl) :
    PE X (.Call (.Name "isinstance" p0) [a, .Name T p1] [] pos) (tI X.K B (eB p f)) := by
  have hTy : PE X (.Name T p1) (tC (.ty S)) := pe_bltn hgT hmT hST rfl hnT hdT
  refine pe_imp (pe_callB (call_isT hT) hg hm boot_isinstance (pa_cons ha (pa_cons hTy pa_nil hs2) hs) (he := hs)) ?_
  rintro σ H Q ⟨A, st, d, rs, hd, q⟩
  obtain ⟨x, hx, h2⟩ := R.ok_of hd
  obtain ⟨hbl, h2⟩ := guardR_of h2
  cases h2
  exact ⟨A, st, x, rs, hx, fun v H1 s1 r1 => ⟨v, x, rfl, hbl, r1.rep, q _ H1 s1 (rep_bl.mpr rfl)⟩⟩
theorem ty_str : IsT "str" isSt := ⟨rfl, fun K d hb => by cases d <;> first | (cases hb; done) | kernel_rfl⟩
theorem ty_bool : IsT "bool" isBl := ⟨rfl, fun K d hb => by cases d <;> first | (cases hb; done) | kernel_rfl⟩
theorem ty_int : IsT "int" isIn := ⟨rfl, fun K d hb => by cases d <;> first | (cases hb; done) | kernel_rfl⟩
theorem ty_tuple : IsT "tuple" isTu := ⟨rfl, fun K d hb => by cases d <;> first | (cases hb; done) | kernel_rfl⟩
theorem ty_dict : IsT "dict" isDc := ⟨rfl, fun K d hb => by cases d <;> first | (cases hb; done) | kernel_rfl⟩
theorem ty_list : IsT "list" isLs := ⟨rfl, fun K d hb => by cases d <;> first | (cases hb; done) | kernel_rfl⟩
/-! ### texts times ints -/
theorem foldl_flat (z : List Nat) : ∀ (n : Nat) (acc : List Nat), (List.replicate n z.toArray).foldl (· ++ ·) acc.toArray = (acc ++ rep n z).toArray
  | 0, acc => by simp [rep]
  | n + 1, acc => by
    rw [List.replicate_succ, List.foldl_cons]
    have e : acc.toArray ++ z.toArray = (acc ++ z).toArray := by simp
    rw [e, foldl_flat z n (acc ++ z)]
    unfold rep
    rw [List.replicate_succ, List.flatten_cons, List.append_assoc]
theorem rep_len (z : List Nat) (n : Nat) : (rep n z).length = n * z.length := by
  unfold rep
  induction n with
  | zero => simp
  | succ n ih => rw [List.replicate_succ, List.flatten_cons, List.length_append, ih, Nat.succ_mul, Nat.add_comm]
theorem rep_nil' {α : Type} (n : Nat) : rep n ([] : List α) = [] := by
  unfold rep
  induction n with
  | zero => rfl
  | succ n ih => rw [List.replicate_succ, List.flatten_cons, ih]; rfl
def rMulS : R2 := fun x y H Q => ∃ (z : List Nat) (k : Int), x = .str ⟨z.toArray⟩ ∧ y = .int k ∧ z.length * k.toNat ≤ big ∧ -4611686018427387904 ≤ k ∧ k < 4611686018427387904 ∧ Q (.str ⟨(rep k.toNat z).toArray⟩) H
theorem op_mulS : OpR X (binaryOp .Mult) rMulS := by
  intro pins s σ H x y v u Q I rx ry h
  obtain ⟨z, k, rfl, rfl, hz, h1, h2, q⟩ := h
  obtain ⟨t, rfl⟩ := rx
  obtain ⟨t', rfl⟩ := ry
  have fin : ∀ tk t2, EP X pins σ Q (.str ⟨(rep k.toNat z).toArray⟩ t2) { s with toks := tk } := fun tk t2 => ⟨.str ⟨(rep k.toNat z).toArray⟩, H, I.tok tk, ⟨t2, rfl⟩, q⟩
  refine PySem.P.mul_str ?_ (fun h0 hne => ?_) (fun h0 hne => ?_) ?_
  · have e1 : ¬ k < -(2 ^ 63 : Int) := by omega
    have e2 : ¬ k ≥ 2 ^ 63 := by omega
    rw [decide_eq_false e1, decide_eq_false e2]; rfl
  · rw [str_len]
    have hk : 0 < k := by omega
    have hm : (z.length : Int) * k ≤ 10000000 := by
      have : ((z.length * k.toNat : Nat) : Int) ≤ 10000000 := by rw [big_eq] at hz; omega
      rw [Int.natCast_mul, Int.toNat_of_nonneg (by omega)] at this
      exact this
    intro hgt
    have : (z.length : Int) ≤ (2 ^ 63 - 1) / k := by
      rw [Int.le_ediv_iff_mul_le hk]
      omega
    omega
  · rw [str_len]
    unfold Builtin.Str.tooLong
    exact decide_eq_false (by have : sizeLine = 16777216 := by decide
                              have hbg := big_eq
                              omega)
  · by_cases h0 : k < 1
    · rw [if_pos h0]
      have e : rep k.toNat z = [] := by rw [show k.toNat = 0 by omega]; rfl
      have := fin (s.toks + 1) s.toks
      rw [e] at this
      exact ⟨by decide, this⟩
    · rw [if_neg h0]
      by_cases h3 : (k == 1 || (⟨z.toArray⟩ : Str).length == 0) = true
      · rw [if_pos h3]
        have e : rep k.toNat z = z := by
          simp only [Bool.or_eq_true, beq_iff_eq, str_len] at h3
          rcases h3 with h3 | h3
          · subst h3
            show rep 1 z = z
            unfold rep
            simp
          · rw [List.length_eq_zero_iff.mp h3, rep_nil']
        have := fin s.toks t
        rw [e] at this
        exact this
      · rw [if_neg h3]
        have e : (List.replicate k.toNat (⟨z.toArray⟩ : Str).cps).foldl (· ++ ·) #[] = (rep k.toNat z).toArray := by
          have := foldl_flat z k.toNat []
          rw [List.nil_append] at this
          exact this
        have := fin (s.toks + 1) s.toks
        rw [e]
        refine ⟨?_, this⟩
        rw [str_len, rep_len, Nat.mul_comm]
        exact lim hz
theorem cmul_of {i j : Int} (c : (-18446744073709551616 < i ∧ i < 18446744073709551616) ∨ (-18446744073709551616 < j ∧ j < 18446744073709551616)) : CMul i j := by
  unfold CMul
  omega
theorem i_mul (ha : PE X a (tP X.K B f)) (hb : PE X b (tP X.K B g)) : PE X (.BinOp a .Mult b pos) (tI X.K B (e2 dMul f g)) := by
  refine i_op (op_mul.or op_mulS) ?_ ha hb
  intro A H x y d v u Q w rx ry e q
  cases x <;> cases y <;> first | (cases e; done) | skip
  · obtain ⟨c, e⟩ := guardR_of e
    cases e
    exact .inl ⟨_, _, rx.int, ry.int, cmul_of c, q _ H (Same.refl _) (rep_int.mpr rfl)⟩
  · obtain ⟨c, e⟩ := guardR_of e
    cases e
    exact .inr ⟨_, _, rx.str, ry.int, c.1, c.2.1, c.2.2, q _ H (Same.refl _) (rep_str.mpr rfl)⟩
end
end Pu

/-! Methods of texts, max and min, in, is, the signs of a text walked. -/
namespace Pu
open PySem PySem.Spec PyProof.Rows L2 PySem.SeqAt PySem.StrLaws
/-! ### where a text stands in another -/
theorem subAt_list (x y : List Nat) (i : Nat) : Builtin.Str.subAt ⟨x.toArray⟩ ⟨y.toArray⟩ i = ((x.drop i).take y.length == y) := by
  rw [subAt_eq]
  simp [Str.length]
theorem occ_full (s sub : Str) (hi : Nat) : ∀ (l : List Nat) (st : Array Nat × Nat), 1 ≤ st.1.size → (forIn l st (occBody s sub hi 1)).run.fst = st.1
  | [], st, h => rfl
  | a :: l, st, h => by
    rw [List.forIn_cons]
    unfold occBody
    rw [if_neg (fun z => by have := z.1.1.1; omega)]
    exact occ_full s sub hi l (st.1, st.2) h
theorem occ_find (s sub : Str) (hi : Nat) : ∀ (l : List Nat) (free : Nat), (∀ i ∈ l, free ≤ i) →
    (forIn l ((#[] : Array Nat), free) (occBody s sub hi 1)).run.fst.toList = (l.find? fun i => decide (i + sub.length ≤ hi) && Builtin.Str.subAt s sub i).toList
  | [], free, _ => rfl
  | a :: l, free, hf => by
    rw [List.forIn_cons]
    have ha : free ≤ a := hf a List.mem_cons_self
    by_cases hc : a + sub.length ≤ hi ∧ Builtin.Str.subAt s sub a = true
    · have e : (decide (a + sub.length ≤ hi) && Builtin.Str.subAt s sub a) = true := by rw [hc.2, decide_eq_true hc.1]; rfl
      rw [List.find?_cons_of_pos (p := fun i => decide (i + sub.length ≤ hi) && Builtin.Str.subAt s sub i) e]
      have e2 : occBody s sub hi 1 a ((#[] : Array Nat), free) = pure (ForInStep.yield ((#[] : Array Nat).push a, a + sub.length)) := by
        unfold occBody
        exact if_pos ⟨⟨⟨by simp, ha⟩, hc.1⟩, hc.2⟩
      rw [e2]
      show (forIn l (((#[] : Array Nat).push a), a + sub.length) (occBody s sub hi 1)).run.fst.toList = _
      rw [occ_full s sub hi l _ (by simp)]
      rfl
    · have e : ¬ (decide (a + sub.length ≤ hi) && Builtin.Str.subAt s sub a) = true := fun z => hc (by simpa using z)
      rw [List.find?_cons_of_neg (p := fun i => decide (i + sub.length ≤ hi) && Builtin.Str.subAt s sub i) e]
      have e2 : occBody s sub hi 1 a ((#[] : Array Nat), free) = pure (ForInStep.yield ((#[] : Array Nat), free)) := by
        unfold occBody
        exact if_neg fun h => hc ⟨h.1.2, h.2⟩
      rw [e2]
      exact occ_find s sub hi l free fun i hi' => hf i (List.mem_cons_of_mem _ hi')
theorem occ_findN (x y : List Nat) (lo : Nat) : Builtin.Str.occurrences ⟨x.toArray⟩ ⟨y.toArray⟩ lo (⟨x.toArray⟩ : Str).length 1 = (findN x y lo).toList := by
  rw [occ_eq, occ_find _ _ _ _ _ (fun i hi => by simp [List.mem_range'] at hi; omega)]
  unfold findN
  simp only [subAt_list, str_len]
theorem find_of (x y : List Nat) : Txt.find ⟨x.toArray⟩ ⟨y.toArray⟩ = ofFind (findN x y 0) := by
  unfold Txt.find
  rw [occ_findN]
  cases findN x y 0 <;> rfl
theorem find3_of (x y : List Nat) (i : Int) (h : 0 ≤ i) : Txt.find3 ⟨x.toArray⟩ ⟨y.toArray⟩ i = ofFind (findN x y i.toNat) := by
  have e : fromIndex (⟨x.toArray⟩ : Str).length i = i.toNat := by unfold fromIndex; rw [if_neg (by omega)]; omega
  unfold Txt.find3
  rw [e, occ_findN]
  cases findN x y i.toNat <;> rfl
/-! ### strip -/
theorem takeWhile_drop {α : Type} (p : α → Bool) : ∀ x : List α, x.drop (x.takeWhile p).length = x.dropWhile p
  | [] => rfl
  | a :: x => by
    cases h : p a with
    | true => rw [List.takeWhile_cons_of_pos h, List.dropWhile_cons_of_pos h, List.length_cons, List.drop_succ_cons, takeWhile_drop p x]
    | false => rw [List.takeWhile_cons_of_neg (by simp [h]), List.dropWhile_cons_of_neg (by simp [h])]; rfl
theorem takeWhile_len {α : Type} (p : α → Bool) (x : List α) : (x.takeWhile p).length + (x.dropWhile p).length = x.length := by
  rw [← List.length_append, List.takeWhile_append_dropWhile]
theorem strip_of (x y : List Nat) : Txt.stripChars ⟨x.toArray⟩ ⟨y.toArray⟩ = ⟨(stripN x y).toArray⟩ := by
  have hp : (y.toArray.contains : Nat → Bool) = fun c => y.contains c := by funext c; simp
  have key : Builtin.Str.strSub ⟨x.toArray⟩ (stripLo y.toArray.contains true ⟨x.toArray⟩) (stripHi y.toArray.contains true ⟨x.toArray⟩ (stripLo y.toArray.contains true ⟨x.toArray⟩)) = ⟨(stripN x y).toArray⟩ := by
    unfold stripLo stripHi
    rw [hp]
    simp only [if_true]
    rw [takeWhile_drop]
    unfold stripN
    generalize hq : (fun c => y.contains c) = q
    have l1 := takeWhile_len q x
    have l2 := takeWhile_len q (x.dropWhile q).reverse
    rw [List.length_reverse] at l2
    unfold Builtin.Str.strSub
    simp only [str_len]
    congr 1
    apply Array.ext'
    rw [Array.toList_extract]
    simp only [List.toList_toArray, List.extract_eq_take_drop]
    rw [takeWhile_drop]
    have e3 : ((x.dropWhile q).reverse.dropWhile q).reverse = (x.dropWhile q).take ((x.dropWhile q).length - ((x.dropWhile q).reverse.takeWhile q).length) := by
      have : (x.dropWhile q).reverse.dropWhile q = (x.dropWhile q).reverse.drop ((x.dropWhile q).reverse.takeWhile q).length := (takeWhile_drop q _).symm
      rw [this, List.drop_reverse, List.reverse_reverse]
    rw [e3]
    congr 1
    omega
  unfold Txt.stripChars Txt.stripBy
  by_cases h : stripSame y.toArray.contains true true ⟨x.toArray⟩ = true
  · rw [if_pos h]
    unfold stripSame at h
    rw [Bool.and_eq_true, beq_iff_eq, beq_iff_eq] at h
    rw [h.2, h.1] at key
    rw [← key]
    unfold Builtin.Str.strSub
    simp [str_len]
  · rw [if_neg h]
    exact key
theorem ends_of (x y : List Nat) : Txt.endswith ⟨x.toArray⟩ ⟨y.toArray⟩ = (decide (y.length ≤ x.length) && (x.drop (x.length - y.length) == y)) := by
  unfold Txt.endswith
  rw [subAt_list, str_len, str_len, Nat.zero_add]
  by_cases h : y.length ≤ x.length
  · have e : (x.drop (x.length - y.length)).take y.length = x.drop (x.length - y.length) := List.take_of_length_le (by rw [List.length_drop]; omega)
    rw [e]
  · rw [decide_eq_false h]; rfl
section
variable {X : Cx} {B : List Addr} {a b e o : Expr} {f g : Ex} {pos : Pos}
/-! ### a method of a text -/
theorem i_mt {name : Str} {id : String} {m : Mop} {r : Exs} {es : List Expr} {apos cpos : Pos} {q : V → List V → Hp → VK → Prop} (slot : Slot "str" name id) (hty : typeOf (.builtin id) = pure (.type "method_descriptor")) (hm : MtR X id q)
    (hk : ∀ x xs d, m x xs = .ok d → ∃ s, x = .str s) (sem : ∀ (A : List Addr) (H : Hp) (x d : D) (xs : List D) (v : V) (vs : List V) (Q : VK), Own A H → RepP X.K A H x v → Reps X.K (hide A H) xs vs → m x xs = .ok d → (∀ w H', Same H H' → Rep X.K (hide A H') d w → Q w H') → q v vs H Q)
    (ho : PE X o (tP X.K B f)) (ha : PA X (e :: es) (tA X.K B r))
    (hbase : attributeBase o name X.env (eval o X.env) = eval o X.env := by rfl)
    (hfew : ((backTo cpos (starEach (e :: es) X.env)).all (fun x => !x.1) && (backToKw cpos (keywordEach [] X.env)).all (fun x => x.1.isSome)
      && decide ((e :: es).length + ([] : List Keyword).length + (if ([] : List Keyword).isEmpty then 0 else 1) < 30)) = true := by rfl)
    (hline : (apos.endLine == cpos.line) = true := by rfl) (hs : starEach (e :: es) X.env = (false, eval e X.env) :: starEach es X.env := by rfl) (hplain : (backTo cpos (starEach es X.env)).any (·.1) = false := by rfl) :
    PE X (.Call (.Attribute o name apos) (e :: es) [] cpos) (tI X.K B (eMt m f r)) := by
  refine pe_imp (pe_bm PySem.F.plainAttrs_str slot hty hm ho ha hbase hfew hline hs hplain) ?_
  rintro σ H Q ⟨A, st, d, rs, hd, k⟩
  obtain ⟨x, hx, h2⟩ := R.ok_of hd
  obtain ⟨xs, hxs, h3⟩ := R.ok_of h2
  obtain ⟨s, rfl⟩ := hk x xs d h3
  refine ⟨A, st, _, rs, hx, fun v H1 s1 r1 => ⟨?_, A, st, xs, rs.mono s1, hxs, fun vs H2 s2 r2 => ?_⟩⟩
  · rw [r1.str]; rfl
  · exact sem (A ++ B) H2 _ d xs v vs Q (rs.own.mono (s1.trans s2)) (r1.mono s2) r2 h3 fun w H' s' r' => k w H' (s1.trans (s2.trans s')) r'
theorem reps1 {K : PySem.W.Frag} {H : Hp} {d : D} {vs : List V} (h : Reps K H [d] vs) : ∃ v, vs = [v] ∧ Rep K H d v := by
  obtain ⟨v, r, rfl, h1, h2⟩ := reps_cons.mp h
  rw [reps_nil.mp h2]
  exact ⟨v, rfl, h1⟩
theorem reps2 {K : PySem.W.Frag} {H : Hp} {d e : D} {vs : List V} (h : Reps K H [d, e] vs) : ∃ v u, vs = [v, u] ∧ Rep K H d v ∧ Rep K H e u := by
  obtain ⟨v, r, rfl, h1, h2⟩ := reps_cons.mp h
  obtain ⟨u, rfl, h3⟩ := reps1 h2
  exact ⟨v, u, rfl, h1, h3⟩
/-- by its kinds: a text and texts, numbers -/
theorem mt_find : MtR X "str.find" (fun x vs H Q => ∃ (s : List Nat), x = .str ⟨s.toArray⟩ ∧ ((∃ y : List Nat, vs = [.str ⟨y.toArray⟩] ∧ Q (.int (ofFind (findN s y 0))) H) ∨ ∃ (y : List Nat) (i : Int), vs = [.str ⟨y.toArray⟩, .int i] ∧ 0 ≤ i ∧ Q (.int (ofFind (findN s y i.toNat))) H)) := by
  intro pins s σ H x vs v us Q I rx rv h
  obtain ⟨z, rfl, h⟩ := h
  obtain ⟨t, rfl⟩ := rx
  rcases h with ⟨y, rfl, q⟩ | ⟨y, i, rfl, hi, q⟩
  · obtain ⟨u, rfl, t2, rfl⟩ := rv.one
    exact SC.find ⟨.int _, H, I.tok _, ⟨_, rfl⟩, by rw [find_of]; exact q⟩
  · obtain ⟨u, u2, rfl, ⟨t2, rfl⟩, ⟨t3, rfl⟩⟩ := rv.two
    exact SC.find3 ⟨.int _, H, I.tok _, ⟨_, rfl⟩, by rw [find3_of _ _ _ hi]; exact q⟩
theorem mt_index : MtR X "str.index" (fun x vs H Q => ∃ (s y : List Nat) (i : Nat), x = .str ⟨s.toArray⟩ ∧ vs = [.str ⟨y.toArray⟩] ∧ findN s y 0 = some i ∧ Q (.int i) H) := by
  intro pins s σ H x vs v us Q I rx rv h
  obtain ⟨z, y, i, rfl, rfl, hi, q⟩ := h
  obtain ⟨t, rfl⟩ := rx
  obtain ⟨u, rfl, t2, rfl⟩ := rv.one
  exact SC.index (i := i) (rest := []) (by rw [occ_findN, hi]; rfl) ⟨.int _, H, I.tok _, ⟨_, rfl⟩, q⟩
theorem mt_strip : MtR X "str.strip" (fun x vs H Q => ∃ (s y : List Nat), x = .str ⟨s.toArray⟩ ∧ vs = [.str ⟨y.toArray⟩] ∧ s.length ≤ sizeLine ∧ Q (.str ⟨(stripN s y).toArray⟩) H) := by
  intro pins s σ H x vs v us Q I rx rv h
  obtain ⟨z, y, rfl, rfl, hz, q⟩ := h
  obtain ⟨t, rfl⟩ := rx
  obtain ⟨u, rfl, t2, rfl⟩ := rv.one
  exact SC.stripChars (fun t' k => ⟨.str ⟨(stripN z y).toArray⟩, H, I.tok _, ⟨_, by rw [strip_of]⟩, q⟩) (by rw [str_len]; exact hz)
theorem mt_ends : MtR X "str.endswith" (fun x vs H Q => ∃ (s y : List Nat), x = .str ⟨s.toArray⟩ ∧ vs = [.str ⟨y.toArray⟩] ∧ Q (.bl (decide (y.length ≤ s.length) && (s.drop (s.length - y.length) == y))) H) := by
  intro pins s σ H x vs v us Q I rx rv h
  obtain ⟨z, y, rfl, rfl, q⟩ := h
  obtain ⟨t, rfl⟩ := rx
  obtain ⟨u, rfl, t2, rfl⟩ := rv.one
  exact SC.endswith ⟨.bl _, H, I, by rw [ends_of]; rfl, q⟩
end
end Pu

/-! The methods as rules; max, min; in; is. -/
namespace Pu
open PySem PySem.Spec PyProof.Rows L2 PySem.SeqAt
section
variable {X : Cx} {B : List Addr} {a b e o : Expr} {f g : Ex} {pos : Pos} {r : Exs} {es : List Expr} {apos cpos : Pos}
theorem i_find (ho : PE X o (tP X.K B f)) (ha : PA X (e :: es) (tA X.K B r)) (hbase : attributeBase o "find" X.env (eval o X.env) = eval o X.env := by rfl)
    (hfew : ((backTo cpos (starEach (e :: es) X.env)).all (fun x => !x.1) && (backToKw cpos (keywordEach [] X.env)).all (fun x => x.1.isSome)
      && decide ((e :: es).length + ([] : List Keyword).length + (if ([] : List Keyword).isEmpty then 0 else 1) < 30)) = true := by rfl)
    (hline : (apos.endLine == cpos.line) = true := by rfl) (hs : starEach (e :: es) X.env = (false, eval e X.env) :: starEach es X.env := by rfl) (hplain : (backTo cpos (starEach es X.env)).any (·.1) = false := by rfl) :
    PE X (.Call (.Attribute o "find" apos) (e :: es) [] cpos) (tI X.K B (eMt mFind f r)) := by
  refine i_mt (m := mFind) PySem.F.slot_str_find PySem.F.type_str_find mt_find (fun x xs d h => ?_) (fun A H x d xs v vs Q w rx rxs h k => ?_) ho ha hbase hfew hline hs hplain
  · cases x <;> first | exact ⟨_, rfl⟩ | exact nomatch h
  · unfold mFind at h
    split at h
    · cases h
      obtain ⟨u, rfl, ru⟩ := reps1 rxs
      exact ⟨_, rx.str, .inl ⟨_, by rw [rep_str.mp ru], k _ H (Same.refl _) (rep_int.mpr rfl)⟩⟩
    · obtain ⟨c, h⟩ := guardR_of h
      cases h
      obtain ⟨u, u2, rfl, ru, ru2⟩ := reps2 rxs
      exact ⟨_, rx.str, .inr ⟨_, _, by rw [rep_str.mp ru, rep_int.mp ru2], c, k _ H (Same.refl _) (rep_int.mpr rfl)⟩⟩
    · cases h
theorem i_index (ho : PE X o (tP X.K B f)) (ha : PA X (e :: es) (tA X.K B r)) (hbase : attributeBase o "index" X.env (eval o X.env) = eval o X.env := by rfl)
    (hfew : ((backTo cpos (starEach (e :: es) X.env)).all (fun x => !x.1) && (backToKw cpos (keywordEach [] X.env)).all (fun x => x.1.isSome)
      && decide ((e :: es).length + ([] : List Keyword).length + (if ([] : List Keyword).isEmpty then 0 else 1) < 30)) = true := by rfl)
    (hline : (apos.endLine == cpos.line) = true := by rfl) (hs : starEach (e :: es) X.env = (false, eval e X.env) :: starEach es X.env := by rfl) (hplain : (backTo cpos (starEach es X.env)).any (·.1) = false := by rfl) :
    PE X (.Call (.Attribute o "index" apos) (e :: es) [] cpos) (tI X.K B (eMt mIndex f r)) := by
  refine i_mt (m := mIndex) PySem.F.slot_str_index PySem.F.type_str_index mt_index (fun x xs d h => ?_) (fun A H x d xs v vs Q w rx rxs h k => ?_) ho ha hbase hfew hline hs hplain
  · cases x <;> first | exact ⟨_, rfl⟩ | exact nomatch h
  · unfold mIndex at h
    split at h
    · obtain ⟨i, hi, h⟩ := R.ok_of h
      cases h
      obtain ⟨u, rfl, ru⟩ := reps1 rxs
      exact ⟨_, _, i, rx.str, by rw [rep_str.mp ru], ofO_of hi, k _ H (Same.refl _) (rep_int.mpr rfl)⟩
    · cases h
theorem i_strip (ho : PE X o (tP X.K B f)) (ha : PA X (e :: es) (tA X.K B r)) (hbase : attributeBase o "strip" X.env (eval o X.env) = eval o X.env := by rfl)
    (hfew : ((backTo cpos (starEach (e :: es) X.env)).all (fun x => !x.1) && (backToKw cpos (keywordEach [] X.env)).all (fun x => x.1.isSome)
      && decide ((e :: es).length + ([] : List Keyword).length + (if ([] : List Keyword).isEmpty then 0 else 1) < 30)) = true := by rfl)
    (hline : (apos.endLine == cpos.line) = true := by rfl) (hs : starEach (e :: es) X.env = (false, eval e X.env) :: starEach es X.env := by rfl) (hplain : (backTo cpos (starEach es X.env)).any (·.1) = false := by rfl) :
    PE X (.Call (.Attribute o "strip" apos) (e :: es) [] cpos) (tI X.K B (eMt mStrip f r)) := by
  refine i_mt (m := mStrip) PySem.F.slot_str_strip PySem.F.type_str_strip mt_strip (fun x xs d h => ?_) (fun A H x d xs v vs Q w rx rxs h k => ?_) ho ha hbase hfew hline hs hplain
  · cases x <;> first | exact ⟨_, rfl⟩ | exact nomatch h
  · unfold mStrip at h
    split at h
    · obtain ⟨c, h⟩ := guardR_of h
      cases h
      obtain ⟨u, rfl, ru⟩ := reps1 rxs
      exact ⟨_, _, rx.str, by rw [rep_str.mp ru], lim c, k _ H (Same.refl _) (rep_str.mpr rfl)⟩
    · cases h
theorem i_endswith (ho : PE X o (tP X.K B f)) (ha : PA X (e :: es) (tA X.K B r)) (hbase : attributeBase o "endswith" X.env (eval o X.env) = eval o X.env := by rfl)
    (hfew : ((backTo cpos (starEach (e :: es) X.env)).all (fun x => !x.1) && (backToKw cpos (keywordEach [] X.env)).all (fun x => x.1.isSome)
      && decide ((e :: es).length + ([] : List Keyword).length + (if ([] : List Keyword).isEmpty then 0 else 1) < 30)) = true := by rfl)
    (hline : (apos.endLine == cpos.line) = true := by rfl) (hs : starEach (e :: es) X.env = (false, eval e X.env) :: starEach es X.env := by rfl) (hplain : (backTo cpos (starEach es X.env)).any (·.1) = false := by rfl) :
    PE X (.Call (.Attribute o "endswith" apos) (e :: es) [] cpos) (tI X.K B (eMt mEnds f r)) := by
  refine i_mt (m := mEnds) PySem.F.slot_str_endswith PySem.F.type_str_endswith mt_ends (fun x xs d h => ?_) (fun A H x d xs v vs Q w rx rxs h k => ?_) ho ha hbase hfew hline hs hplain
  · cases x <;> first | exact ⟨_, rfl⟩ | exact nomatch h
  · unfold mEnds at h
    split at h
    · cases h
      obtain ⟨u, rfl, ru⟩ := reps1 rxs
      exact ⟨_, _, rx.str, by rw [rep_str.mp ru], k _ H (Same.refl _) (rep_bl.mpr rfl)⟩
    · cases h
/-! ### max, min of two ints -/
theorem i_max2 {p0 : Pos} (hm : X.mg "max" = none) (hc : X.calm = true) (ha : PE X a (tP X.K B f)) (hb : PE X b (tP X.K B g)) (hg : Gl X "max" := by rfl) (hs : starEach [a, b] X.env = (false, eval a X.env) :: starEach [b] X.env := by rfl)
    (hs2 : starEach [b] X.env = (false, eval b X.env) :: starEach [] X.env := by rfl) (hpl : (backTo pos (starEach [b] X.env)).any (·.1) = false := by rfl) : PE X (.Call (.Name "max" p0) [a, b] [] pos) (tI X.K B (e2 dMax2 f g)) := by
  refine pe_imp (pe_callB (call_max2 hc) hg hm (by rfl) (pa_cons ha (pa_cons hb pa_nil hs2) hs) (he := hs) (hpl := hpl)) ?_
  rintro σ H Q ⟨A, st, d, rs, hd, q⟩
  obtain ⟨x, hx, h2⟩ := R.ok_of hd
  obtain ⟨y, hy, h3⟩ := R.ok_of h2
  refine ⟨A, st, x, rs, hx, fun v H1 s1 r1 => ⟨A, st, y, rs.mono s1, hy, fun u H2 s2 r2 => ?_⟩⟩
  cases x <;> cases y <;> first | (cases h3; done) | skip
  cases h3
  exact ⟨_, _, by rw [r1.int, r2.int], q _ H2 (s1.trans s2) (rep_int.mpr rfl)⟩
theorem i_min2 {p0 : Pos} (hm : X.mg "min" = none) (hc : X.calm = true) (ha : PE X a (tP X.K B f)) (hb : PE X b (tP X.K B g)) (hg : Gl X "min" := by rfl) (hs : starEach [a, b] X.env = (false, eval a X.env) :: starEach [b] X.env := by rfl)
    (hs2 : starEach [b] X.env = (false, eval b X.env) :: starEach [] X.env := by rfl) (hpl : (backTo pos (starEach [b] X.env)).any (·.1) = false := by rfl) : PE X (.Call (.Name "min" p0) [a, b] [] pos) (tI X.K B (e2 dMin2 f g)) := by
  refine pe_imp (pe_callB (call_min2 hc) hg hm (by rfl) (pa_cons ha (pa_cons hb pa_nil hs2) hs) (he := hs) (hpl := hpl)) ?_
  rintro σ H Q ⟨A, st, d, rs, hd, q⟩
  obtain ⟨x, hx, h2⟩ := R.ok_of hd
  obtain ⟨y, hy, h3⟩ := R.ok_of h2
  refine ⟨A, st, x, rs, hx, fun v H1 s1 r1 => ⟨A, st, y, rs.mono s1, hy, fun u H2 s2 r2 => ?_⟩⟩
  cases x <;> cases y <;> first | (cases h3; done) | skip
  cases h3
  exact ⟨_, _, by rw [r1.int, r2.int], q _ H2 (s1.trans s2) (rep_int.mpr rfl)⟩
theorem i_neg (ha : PE X a (tP X.K B f)) : PE X (.UnaryOp .USub a pos) (tI X.K B (e1 dNeg f)) := by
  refine pe_imp (pe_un un_neg ha) ?_
  rintro σ H Q ⟨A, st, d, rs, hd, q⟩
  obtain ⟨x, hx, h2⟩ := R.ok_of hd
  refine ⟨A, st, x, rs, hx, fun v H1 s1 r1 => ?_⟩
  cases x <;> first | (cases h2; done) | skip
  cases h2
  exact ⟨_, r1.int, q _ H1 s1 (rep_int.mpr rfl)⟩
/-! ### is -/
def rIsD (neg : Bool) : R2 := fun x y H Q => (y = .non ∧ Q (.bl (if neg then !decide (x = .non) else decide (x = .non))) H) ∨ ∃ c d, x = .bl c ∧ y = .bl d ∧ Q (.bl (if neg then !(c == d) else (c == d))) H
theorem op_isD : OpR X (compareOp .Is) (rIsD false) := by
  intro pins s σ H x y v u Q I rx ry h
  rcases h with h | ⟨c, d, rfl, rfl, q⟩
  · exact op_isN pins s σ H x y v u Q I rx ry h
  · cases rx
    cases ry
    exact is_bool ⟨.bl _, H, I, rfl, q⟩
theorem op_isNotD : OpR X (compareOp .IsNot) (rIsD true) := by
  intro pins s σ H x y v u Q I rx ry h
  rcases h with h | ⟨c, d, rfl, rfl, q⟩
  · exact op_notN pins s σ H x y v u Q I rx ry h
  · cases rx
    cases ry
    exact isnot_bool ⟨.bl (!(c == d)), H, I, rfl, q⟩
theorem sem_is {K : PySem.W.Frag} : Sem2 K (rIsD false) dIs := by
  intro A H x y d v u Q w rx ry e q
  cases y <;> first | (cases x <;> (cases e; done)) | skip
  · cases e
    exact .inl ⟨ry.non, q _ H (Same.refl _) (rep_bl.mpr (by rw [← rep_isN rx]; rfl))⟩
  · cases x <;> first | (cases e; done) | skip
    cases e
    exact .inr ⟨_, _, rx.bl, ry.bl, q _ H (Same.refl _) (rep_bl.mpr rfl)⟩
theorem sem_isNot {K : PySem.W.Frag} : Sem2 K (rIsD true) dIsNot := by
  intro A H x y d v u Q w rx ry e q
  cases y <;> first | (cases x <;> (cases e; done)) | skip
  · cases e
    exact .inl ⟨ry.non, q _ H (Same.refl _) (rep_bl.mpr (by rw [← rep_isN rx]; rfl))⟩
  · cases x <;> first | (cases e; done) | skip
    cases e
    exact .inr ⟨_, _, rx.bl, ry.bl, q _ H (Same.refl _) (rep_bl.mpr rfl)⟩
/-! ### in -/
open Classical in
/-- the answer at an item, by the item's value -/
noncomputable def eqOf (K : PySem.W.Frag) (H : Hp) (x : D) (u : Value) : Bool := if ∃ d z, Rep K H d z ∧ RelV z u ∧ plain d = true ∧ eqD d x = true then true else false
theorem eqOf_is {pins : List (Addr × Obj)} {σ : LSt} {H : Hp} {s : Shared} (I : Inv X pins σ H s) {x d : D} {z : V} {u : Value} (r : Rep X.K H d z) (rz : RelV z u) (pd : plain d = true) : eqOf X.K H x u = eqD d x := by
  unfold eqOf
  split
  · rename_i h
    obtain ⟨d', z', r', rz', pd', e⟩ := h
    have := RelV.inj rz rz'
    subst this
    rw [Rep.inj I pd pd' r r', e]
  · rename_i h
    cases hb : eqD d x with
    | false => rfl
    | true => exact (h ⟨d, z, r, rz, pd, hb⟩).elim
theorem any_of {pins : List (Addr × Obj)} {σ : LSt} {H : Hp} {s : Shared} (I : Inv X pins σ H s) {x : D} : ∀ {ds : List D} {zs : List V} {us : List Value}, Reps X.K H ds zs → Vals zs us → plains ds = true → us.any (eqOf X.K H x) = inD x ds
  | [], zs, us, r, v, _ => by
    have e := reps_nil.mp r; subst e; cases v; rfl
  | d :: ds, zs, us, r, v, p => by
    obtain ⟨z, r', e, h1, h2⟩ := reps_cons.mp r; subst e
    simp only [plains_cons, Bool.and_eq_true] at p
    cases v with
    | cons v vs =>
      rw [List.any_cons, eqOf_is I h1 v p.1, any_of I h2 vs p.2]
      unfold inD
      rw [List.any_cons]
theorem mem_of {pins : List (Addr × Obj)} {σ : LSt} {H : Hp} {s : Shared} (I : Inv X pins σ H s) {A : Around} {x : D} {zx : V} {ux : Value} (rx : Rep X.K H x zx) (vx : RelV zx ux) (px : plain x = true) : ∀ {ds : List D} {zs : List V} {us : List Value}, Reps X.K H ds zs → Vals zs us → plains ds = true → A.units + deps ds < cLine → ∀ u ∈ us, EqAt A s u ux (eqOf X.K H x u)
  | [], zs, us, r, v, _, _ => by
    have e := reps_nil.mp r; subst e; cases v; exact fun u hu => nomatch hu
  | d :: ds, zs, us, r, v, p, hd => by
    obtain ⟨z, r', e, h1, h2⟩ := reps_cons.mp r; subst e
    simp only [plains_cons, Bool.and_eq_true] at p
    rw [deps_cons] at hd
    cases v with
    | cons v vs =>
      intro u hu
      rcases List.mem_cons.mp hu with rfl | hu
      · rw [eqOf_is I h1 v p.1]
        exact eqAt_rep I d x A z zx _ ux h1 rx v vx (by omega) p.1 px
      · exact mem_of I rx vx px h2 vs p.2 (by omega) u hu
def rInD (K : PySem.W.Frag) (neg : Bool) : R2 := fun v u H Q => (∃ x ds zs p, u = .ref p ∧ (SqL K H p zs ∨ SqT K H p zs) ∧ Rep K H x v ∧ Reps K H ds zs ∧ deps ds ≤ 60 ∧ plain x = true ∧ plains ds = true ∧ Q (.bl (if neg then !inD x ds else inD x ds)) H) ∨
  ∃ i j : List Nat, v = .str ⟨i.toArray⟩ ∧ u = .str ⟨j.toArray⟩ ∧ Q (.bl (if neg then !(findN j i 0).isSome else (findN j i 0).isSome)) H
theorem some_of (x y : List Nat) : (!(Builtin.Str.occurrences ⟨x.toArray⟩ ⟨y.toArray⟩ 0 (⟨x.toArray⟩ : Str).length 1).isEmpty) = (findN x y 0).isSome := by
  rw [occ_findN]
  cases findN x y 0 <;> rfl
theorem op_inD (hu : X.A.units + 64 < cLine) : OpR X (compareOp .In) (rInD X.K false) := by
  intro pins s σ H v u a b Q I ra rb h
  rcases h with ⟨x, ds, zs, p, rfl, hq, rx, rds, hd, px, pd, q⟩ | ⟨i, j, rfl, rfl, q⟩
  · cases rb
    have hin : X.A.in1.units + deps ds < cLine := by show X.A.units + 1 + deps ds < cLine; omega
    rcases hq with hq | hq
    · obtain ⟨its, r, pl, hz⟩ := I.list hq
      refine SeqAt.in_listAt (eqOf X.K H x) pl.isList (fun w hw => mem_of I rx ra px rds r pd hin w (by simpa using hw)) ⟨.bl _, H, I, rfl, ?_⟩
      rw [show its.toArray.any (eqOf X.K H x) = its.any (eqOf X.K H x) by simp, any_of I rds r pd]
      exact q
    · obtain ⟨its, r, pl, hz⟩ := I.tuple hq
      refine SeqAt.in_tupleAt (eqOf X.K H x) pl (fun w hw => mem_of I rx ra px rds r pd hin w (by simpa using hw)) ⟨.bl _, H, I, rfl, ?_⟩
      rw [show its.toArray.any (eqOf X.K H x) = its.any (eqOf X.K H x) by simp, any_of I rds r pd]
      exact q
  · refine op_in_str pins s σ H _ _ a b Q I ra rb ⟨_, _, rfl, rfl, ?_⟩
    rw [some_of]
    exact q
theorem op_notInD (hu : X.A.units + 64 < cLine) : OpR X (compareOp .NotIn) (rInD X.K true) := by
  intro pins s σ H v u a b Q I ra rb h
  rcases h with ⟨x, ds, zs, p, rfl, hq, rx, rds, hd, px, pd, q⟩ | ⟨i, j, rfl, rfl, q⟩
  · cases rb
    have hin : X.A.in1.units + deps ds < cLine := by show X.A.units + 1 + deps ds < cLine; omega
    rcases hq with hq | hq
    · obtain ⟨its, r, pl, hz⟩ := I.list hq
      refine SeqAt.notIn_listAt (eqOf X.K H x) pl.isList (fun w hw => mem_of I rx ra px rds r pd hin w (by simpa using hw)) ⟨.bl _, H, I, rfl, ?_⟩
      rw [show its.toArray.any (eqOf X.K H x) = its.any (eqOf X.K H x) by simp, any_of I rds r pd]
      exact q
    · obtain ⟨its, r, pl, hz⟩ := I.tuple hq
      refine SeqAt.notIn_tupleAt (eqOf X.K H x) pl (fun w hw => mem_of I rx ra px rds r pd hin w (by simpa using hw)) ⟨.bl _, H, I, rfl, ?_⟩
      rw [show its.toArray.any (eqOf X.K H x) = its.any (eqOf X.K H x) by simp, any_of I rds r pd]
      exact q
  · refine op_notin_str pins s σ H _ _ a b Q I ra rb ⟨_, _, rfl, rfl, ?_⟩
    rw [some_of]
    exact q
theorem sem_in {K : PySem.W.Frag} : Sem2 K (rInD K false) dIn := by
  intro A H x y d v u Q w rx ry e q
  unfold dIn at e
  split at e
  · obtain ⟨c, e⟩ := guardR_of e
    cases e
    obtain ⟨p, zs, h1, h2, h3⟩ := ry.lst
    exact .inl ⟨_, _, zs, p, h1, .inl h2, rx.rep, h3.mono (hide_sub _ _), c.1, c.2.1, c.2.2, q _ H (Same.refl _) (rep_bl.mpr rfl)⟩
  · obtain ⟨c, e⟩ := guardR_of e
    cases e
    obtain ⟨p, zs, h1, h2, h3⟩ := ry.tup
    exact .inl ⟨_, _, zs, p, h1, .inr h2, rx.rep, h3.mono (hide_sub _ _), c.1, c.2.1, c.2.2, q _ H (Same.refl _) (rep_bl.mpr rfl)⟩
  · cases e
    exact .inr ⟨_, _, rx.str, ry.str, q _ H (Same.refl _) (rep_bl.mpr rfl)⟩
  · cases e
theorem sem_notIn {K : PySem.W.Frag} : Sem2 K (rInD K true) dNotIn := by
  intro A H x y d v u Q w rx ry e q
  unfold dNotIn at e
  split at e
  · obtain ⟨c, e⟩ := guardR_of e
    cases e
    obtain ⟨p, zs, h1, h2, h3⟩ := ry.lst
    exact .inl ⟨_, _, zs, p, h1, .inl h2, rx.rep, h3.mono (hide_sub _ _), c.1, c.2.1, c.2.2, q _ H (Same.refl _) (rep_bl.mpr rfl)⟩
  · obtain ⟨c, e⟩ := guardR_of e
    cases e
    obtain ⟨p, zs, h1, h2, h3⟩ := ry.tup
    exact .inl ⟨_, _, zs, p, h1, .inr h2, rx.rep, h3.mono (hide_sub _ _), c.1, c.2.1, c.2.2, q _ H (Same.refl _) (rep_bl.mpr rfl)⟩
  · cases e
    exact .inr ⟨_, _, rx.str, ry.str, q _ H (Same.refl _) (rep_bl.mpr rfl)⟩
  · cases e
end
end Pu

/-! Lists of the frame's own: append, store at a place. -/
namespace Pu
open PySem PySem.Spec PyProof.Rows L2
section
variable {X : Cx} {B : List Addr} {a b e : Expr} {f g : Ex} {pos : Pos}
theorem s_app (i : Nat) {x : Str} {p1 apos cpos : Pos} (he : PE X e (tI X.K B f)) (hN : X.N[i]? = some x := by rfl) (hv : Vis X.env.scope x := by first | exact Or.inl rfl | exact Or.inr (Or.inl rfl) | exact Or.inr (Or.inr rfl)) (hd : (x == ("__debug__" : Str)) = false := by decide)
    (hcd : (x == ("__classdict__" : Str)) = false := by decide) (hbase : attributeBase (.Name x p1) "append" X.env (eval (.Name x p1) X.env) = eval (.Name x p1) X.env := by rfl)
    (hfew : ((backTo cpos (starEach [e] X.env)).all (fun x => !x.1) && (backToKw cpos (keywordEach [] X.env)).all (fun x => x.1.isSome)
      && decide (([e] : List Expr).length + ([] : List Keyword).length + (if ([] : List Keyword).isEmpty then 0 else 1) < 30)) = true := by rfl)
    (hline : (apos.endLine == cpos.line) = true := by rfl) (hs : starEach [e] X.env = (false, eval e X.env) :: starEach [] X.env := by rfl)
    (hsw : swapsWith (.Call (.Attribute (.Name x p1) "append" apos) [e] [] cpos) none pos.line X.env = pure false := by rfl) :
    PS X (.Expr (.Call (.Attribute (.Name x p1) "append" apos) [e] [] cpos) pos) (tS X.K B (sApp i f)) := by
  refine ps_imp (ps_expr (pe_bm PySem.F.plainAttrs_list PySem.F.slot_list_append PySem.F.type_list_append mt_append (pe_var hN hv hd hcd) (pa_cons he pa_nil hs) hbase hfew hline hs rfl) hsw) ?_
  rintro Dn σ H ⟨A, st, r, rs, hr, p⟩
  obtain ⟨d, hd, h3⟩ := R.ok_of hr
  split at h3
  · rename_i xs e1
    obtain ⟨c, h4⟩ := guardR_of h3
    cases h4
    obtain ⟨l, vs, e2, m, h1, q, u⟩ := rs.lst i xs e1
    refine ⟨.ref l, e2, .inl ⟨rfl, vs, SqL.of h1⟩, A, st, d, rs, hd, fun v H' s rv => ?_⟩
    have ql := q.length
    refine ⟨l, vs, v, rfl, rfl, s _ _ h1, by rw [ql]; rw [big_eq] at c; exact Nat.lt_of_lt_of_le c (by decide), ?_⟩
    obtain ⟨w1, w2⟩ := (rs.mono s).write e1 e2 (ds := xs ++ [d]) (vs' := vs ++ [v]) ((q.mono (Same.hide s)).append (.cons rv .nil))
    exact p A _ _ ((Le.of s).trans w2) w1
  · cases h3
/-- {} -/
theorem i_dnil : PE X (.Dict [] [] pos) (tI X.K B (eC (.dct [] []))) := pe_imp pe_dnewK (by
  rintro σ H Q ⟨A, st, d, rs, hd, q⟩
  cases hd
  intro p hp
  refine q _ _ (same_upd hp) (rep_dct.mpr ⟨p, [], rfl, .inl ⟨[], ?_, rfl, rfl⟩, .nil⟩)
  rw [hide_out (rs.own.free hp)]
  exact upd_same)
theorem s_put (i : Nat) {x : Str} {j : Expr} {p1 p2 : Pos} (hj : PE X j (tP X.K B g)) (he : PE X e (tI X.K B f)) (hN : X.N[i]? = some x := by rfl) (hv : Vis X.env.scope x := by first | exact Or.inl rfl | exact Or.inr (Or.inl rfl) | exact Or.inr (Or.inr rfl)) (hd : (x == ("__debug__" : Str)) = false := by decide)
    (hcd : (x == ("__classdict__" : Str)) = false := by decide)
    (ha : ∀ v, assign (.Subscript (.Name x p1) j p2) X.env v = (do
      let ov ← holding [v] (eval (.Name x p1) X.env)
      let iv ← holding [v, ov] (eval j X.env)
      standAt p2
      holding [v, ov, iv] (setItem ov iv v)
      release [v, ov, iv] []) := by intro _; rfl)
    (hs : swapsWithSole [.Subscript (.Name x p1) j p2] e pos.line X.env = pure false := by rfl) (hw : swappedStores [.Subscript (.Name x p1) j p2] e X.env = pure none := by rfl)
    (h1 : (assignEach [.Subscript (.Name x p1) j p2] X.env).map (·.2) = [assign (.Subscript (.Name x p1) j p2) X.env] := by rfl) :
    PS X (.Assign [.Subscript (.Name x p1) j p2] e pos) (tS X.K B (sPut i g f)) := by
  refine ps_imp (ps_asg he (pg_sub (pe_var hN hv hd hcd) hj set_list ha) hs hw h1) ?_
  rintro Dn σ H ⟨A, st, r, rs, hr, p⟩
  obtain ⟨d, hd, h3⟩ := R.ok_of hr
  obtain ⟨y, hy, h4⟩ := R.ok_of h3
  obtain ⟨k, rfl, h5⟩ := inI_of h4
  split at h5
  · rename_i xs e1
    obtain ⟨n, hn, h6⟩ := R.ok_of h5
    cases h6
    obtain ⟨l, vs, e2, m, h1, q, u⟩ := rs.lst i xs e1
    refine ⟨A, st, d, rs, hd, fun v H' s rv => ⟨.ref l, e2, A, st, _, rs.mono s, hy, fun w H2 s2 rw2 => ?_⟩⟩
    have ql := q.length
    have hk : L2.ixN vs.length k = some n := by rw [ql, ixN_same]; exact ofO_of hn
    refine ⟨l, vs, k, n, rfl, rw2.int, (s.trans s2) _ _ h1, hk, ?_⟩
    obtain ⟨w1, w2⟩ := (rs.mono (s.trans s2)).write e1 e2 (ds := xs.set n d) (vs' := vs.set n v) (Reps.set (rv.mono (Same.hide s2)) n (q.mono (Same.hide (s.trans s2))))
    exact p A _ _ ((Le.of (s.trans s2)).trans w2) w1
  · cases h5
end
end Pu

/-! t < u of tuples of ints and texts. -/
namespace Pu
open PySem PySem.Spec PyProof.Rows L2
section
open PySem.SeqAt
open PySem.AutoSeq1 (wpAny_loadPart')
open PySem.MeetsSeq PySem.MeetsSeq2 PySem.MeetsSeq3
/-- how two rows of items stand to one another -/
inductive LexV (A : Around) (s : Shared) : List Value → List Value → Bool → Prop where
  | nn : LexV A s [] [] false
  | nc {w : Value} {ws : List Value} : LexV A s [] (w :: ws) true
  | cn {v : Value} {vs : List Value} : LexV A s (v :: vs) [] false
  | eq {v w : Value} {vs ws : List Value} {b : Bool} : EqAt A s v w true → LexV A s vs ws b → LexV A s (v :: vs) (w :: ws) b
  | lt {v w : Value} {vs ws : List Value} {b : Bool} : EqAt A s v w false → (∀ (prog : Program) (wd : World) (E Q : Value → Shared → Prop), Q (.bool b) s → wpAny (model prog wd) A (richCompare .Lt v w) Q E s) → LexV A s (v :: vs) (w :: ws) b
theorem tuple_ltV (l b : Addr) (items items2 : Array Value) (n n2 : Nat) (dd dd2 : Option Addr) (sl sl2 : Array (Option Value)) (t : Bool) :
    Meets (Builtin.«tuple.__lt__» ⟨[.ref l, .ref b], []⟩)
      (fun A R s => s.heap.get? l = some { cls := .type "tuple", dict := dd, data := .seq items n, slots := sl } ∧ s.heap.get? b = some { cls := .type "tuple", dict := dd2, data := .seq items2 n2, slots := sl2 } ∧
        LexV A.in1 s items.toList items2.toList t ∧ R (.ok (.ret (.bool t))) s) :=
  .of_wp fun prog w A R s h => by
    obtain ⟨hp, g, d, tk, os⟩ := s; obtain ⟨hl, hb, hx, h⟩ := h
    have f2 := AutoSeq1.sub_tuple_tuple
    wp_walk using wpAny_loadPart' hl, wpAny_loadPart' hb, wpAny_forIn_list _ (fun rest b s' => b.1 = none ∧ s' = ⟨hp, g, d, tk, os⟩ ∧ ∃ (vs ws : List Value), rest = vs.zip ws ∧
      LexV A.in1 ⟨hp, g, d, tk, os⟩ vs ws t ∧ vs.length + items2.size = ws.length + items.size) _
    case turn =>
      rintro ⟨y, x⟩ rest b s' ⟨hb', rfl, vs, ws, hz, hv, hlen⟩
      cases hv with
      | nn => cases hz
      | nc => rw [List.zip_nil_left] at hz; cases hz
      | cn => rw [List.zip_nil_right] at hz; cases hz
      | eq he hr =>
        rw [List.zip_cons_cons] at hz
        injection hz with hyx hrest
        injection hyx with hy hx
        subst hy hx
        simp only [List.length_cons] at hlen
        refine wpAny_bind (he prog w _ _ ?_)
        wp_walk
        exact ⟨rfl, rfl, _, _, hrest, hr, by omega⟩
      | lt he hri =>
        rw [List.zip_cons_cons] at hz
        injection hz with hyx hrest
        injection hyx with hy hx
        subst hy hx
        refine wpAny_bind (he prog w _ _ ?_)
        have hri' := hri prog w
        wp_walk using hri'
        exact ⟨_, rfl, by simpa using h⟩
    case fin =>
      rintro ⟨b1, b2⟩ s' ⟨hb', rfl, vs, ws, hz, hv, hlen⟩
      simp only at hb'
      subst hb'
      have ht : t = decide (items.size < items2.size) := by
        cases hv with
        | nn =>
          simp only [List.length_nil] at hlen
          exact (decide_eq_false (by omega)).symm
        | nc =>
          simp only [List.length_nil, List.length_cons] at hlen
          exact (decide_eq_true (by omega)).symm
        | cn =>
          simp only [List.length_nil, List.length_cons] at hlen
          exact (decide_eq_false (by omega)).symm
        | eq _ _ => rw [List.zip_cons_cons] at hz; cases hz
        | lt _ _ => rw [List.zip_cons_cons] at hz; cases hz
      rw [ht] at h
      wp_walk
      exact ⟨_, rfl, by simpa [Builtin.Tuple.tupleCompareSizes] using h⟩
    case h =>
      exact ⟨rfl, rfl, items.toList, items2.toList, rfl, hx, by simp; omega⟩
end
section
variable {X : Cx}
theorem lexV_of {pins : List (Addr × Obj)} {σ : LSt} {H : Hp} {s : Shared} (I : Inv X pins σ H s) {A : Around} : ∀ (xs ys : List D) {vs us : List V} {as bs : List Value} {t : Bool}, Reps X.K H xs vs → Reps X.K H ys us → Vals vs as → Vals us bs → A.units + deps xs < cLine → plains xs = true → plains ys = true → lexD xs ys = .ok t → LexV A s as bs t
  | [], [], _, _, _, _, _, ra, rb, va, vb, _, _, _, h => by
    have e := reps_nil.mp ra; subst e; have e := reps_nil.mp rb; subst e
    cases va; cases vb; cases h; exact .nn
  | [], _ :: _, _, _, _, _, _, ra, rb, va, vb, _, _, _, h => by
    have e := reps_nil.mp ra; subst e; obtain ⟨_, _, rfl, _⟩ := reps_cons.mp rb
    cases va; cases vb; cases h; exact .nc
  | _ :: _, [], _, _, _, _, _, ra, rb, va, vb, _, _, _, h => by
    have e := reps_nil.mp rb; subst e; obtain ⟨_, _, rfl, _⟩ := reps_cons.mp ra
    cases va; cases vb; cases h; exact .cn
  | x :: xs, y :: ys, _, _, _, _, t, ra, rb, va, vb, hu, px, py, h => by
    obtain ⟨v, r, rfl, q1, q2⟩ := reps_cons.mp ra
    obtain ⟨u, r', rfl, q3, q4⟩ := reps_cons.mp rb
    rw [deps_cons] at hu
    simp only [plains_cons, Bool.and_eq_true] at px py
    cases va with
    | cons va vas =>
      cases vb with
      | cons vb vbs =>
        have he := eqAt_rep I x y A v u _ _ q1 q3 va vb (by omega) px.1 py.1
        unfold lexD at h
        by_cases hb : eqD x y = true
        · rw [if_pos hb] at h
          rw [hb] at he
          exact .eq he (lexV_of I xs ys q2 q4 vas vbs (by omega) px.2 py.2 h)
        · rw [if_neg hb] at h
          rw [Bool.not_eq_true] at hb
          rw [hb] at he
          refine .lt he ?_
          cases x <;> cases y <;> first | (cases h; done) | skip
          · cases h
            have e := rep_int.mp q1; subst e
            have e := rep_int.mp q3; subst e
            obtain ⟨t1, rfl⟩ := va
            obtain ⟨t2, rfl⟩ := vb
            exact fun prog wd E Q hq => (PyProof.Rows.lt_int hq : wpAny (model prog wd) A (compareOp .Lt _ _) Q E s)
          · cases h
            have e := rep_str.mp q1; subst e
            have e := rep_str.mp q3; subst e
            obtain ⟨t1, rfl⟩ := va
            obtain ⟨t2, rfl⟩ := vb
            exact fun prog wd E Q hq => (PyProof.Rows.lt_str hq : wpAny (model prog wd) A (compareOp .Lt _ _) Q E s)
def rLtD (K : PySem.W.Frag) : R2 := fun x y H Q => (∃ i j, x = .int i ∧ y = .int j ∧ Q (.bl (decide (i < j))) H) ∨ (∃ i j : List Nat, x = .str ⟨i.toArray⟩ ∧ y = .str ⟨j.toArray⟩ ∧ Q (.bl (decide (i < j))) H) ∨
  ∃ a b vs us xs ys t, x = .ref a ∧ y = .ref b ∧ SqT K H a vs ∧ SqT K H b us ∧ Reps K H xs vs ∧ Reps K H ys us ∧ deps xs ≤ 60 ∧ plains xs = true ∧ plains ys = true ∧ lexD xs ys = .ok t ∧ Q (.bl t) H
theorem op_ltD (hu : X.A.units + 64 < cLine) : OpR X (compareOp .Lt) (rLtD X.K) := by
  intro pins s σ H x y v u Q I rx ry h
  rcases h with h | ⟨i, j, h1, h2, q⟩ | ⟨a, b, vs, us, xs, ys, t, rfl, rfl, ha, hb, ra, rb, hd, px, py, hl, q⟩
  · exact op_lt pins s σ H x y v u Q I rx ry h
  · exact op_lt_str pins s σ H x y v u Q I rx ry ⟨_, _, h1, h2, q⟩
  · cases rx
    cases ry
    obtain ⟨its, r1, p1, _⟩ := I.tuple ha
    obtain ⟨its2, r2, p2, _⟩ := I.tuple hb
    have hx := lexV_of I (A := X.A.in1) xs ys ra rb r1 r2 (by show X.A.units + 1 + deps xs < cLine; omega) px py hl
    obtain ⟨⟨cls, dd, data, sl⟩, ho, hc, n, hd⟩ := id p1
    obtain ⟨⟨cls2, dd2, data2, sl2⟩, ho2, hc2, n2, hd2⟩ := id p2
    simp only at hc hd hc2 hd2
    subst hc hd hc2 hd2
    refine richCompare_meets_room (op := .Lt) ⟨_, ho, rfl⟩ ⟨_, ho2, rfl⟩ PySem.F.slot_tuple_lt PySem.F.entry_tuple_lt (PySem.F.args_tuple_lt_2 _ _) (tuple_ltV a b its.toArray its2.toArray n n2 dd dd2 sl sl2 t) ⟨ho, ho2, ?_, ?_⟩ (by omega)
    · exact hx
    · exact show Value.bool t ≠ Value.notImplemented ∧ EP X pins σ Q (.bool t) s from ⟨(fun x => nomatch x), ⟨.bl t, H, I, rfl, q⟩⟩
theorem sem_ltD {K : PySem.W.Frag} : Sem2 K (rLtD K) dLt := by
  intro A H x y d v u Q w rx ry e q
  cases x <;> cases y <;> first | (cases e; done) | skip
  · cases e
    exact .inl ⟨_, _, rx.int, ry.int, q _ H (Same.refl _) (rep_bl.mpr rfl)⟩
  · cases e
    exact .inr (.inl ⟨_, _, rx.str, ry.str, q _ H (Same.refl _) (rep_bl.mpr rfl)⟩)
  · obtain ⟨c, e⟩ := guardR_of e
    obtain ⟨t, ht, e⟩ := R.ok_of e
    cases e
    obtain ⟨a, vs, e1, h1, r1⟩ := rx.tup
    obtain ⟨b, us, e2, h2, r2⟩ := ry.tup
    exact .inr (.inr ⟨a, b, vs, us, _, _, t, e1, e2, h1, h2, r1.mono (hide_sub _ _), r2.mono (hide_sub _ _), c.1, c.2.1, c.2.2, ht, q _ H (Same.refl _) (rep_bl.mpr rfl)⟩)
end
end Pu

set_option maxHeartbeats 4000000
namespace Pu
open PySem PySem.Spec PyProof.Rows L2
def top (i : Nat) : Stmt := PySem.Challenge.pw_looprank_k01_what_is_a_word.main.body.getD i (.Pass ⟨0, 0, 0, 0⟩)
abbrev s_is_word : Stmt := top 2
abbrev s_is_endless : Stmt := top 3
abbrev s__law_cell_at : Stmt := top 5
abbrev s__law_text : Stmt := top 6
abbrev s__law_size : Stmt := top 7
abbrev s__law_good : Stmt := top 8
abbrev s__law_same : Stmt := top 9
abbrev s__law_things : Stmt := top 10
abbrev s_law : Stmt := top 11
theorem sc_is_word : FnScope ["thing", "many"] ["thing", "many"] (defScope s_is_word) := ⟨rfl, rfl, rfl, by decide +kernel, rfl, by decide +kernel, by decide +kernel⟩
theorem sc_is_endless : FnScope ["thing", "many"] ["thing", "many"] (defScope s_is_endless) := ⟨rfl, rfl, rfl, by decide +kernel, rfl, by decide +kernel, by decide +kernel⟩
theorem sc__law_cell_at : FnScope ["_law_script", "_law_k"] ["_law_script", "_law_k"] (defScope s__law_cell_at) := ⟨rfl, rfl, rfl, by decide +kernel, rfl, by decide +kernel, by decide +kernel⟩
theorem sc__law_text : FnScope ["_law_cell", "_law_size_here", "_law_many", "_law_made", "_law_digits", "_law_number", "_law_k"] ["_law_cell", "_law_size_here", "_law_many"] (defScope s__law_text) := ⟨rfl, rfl, rfl, by decide +kernel, rfl, by decide +kernel, by decide +kernel⟩
theorem sc__law_size : FnScope ["_law_cell", "_law_some", "_law_far"] ["_law_cell", "_law_some", "_law_far"] (defScope s__law_size) := ⟨rfl, rfl, rfl, by decide +kernel, rfl, by decide +kernel, by decide +kernel⟩
theorem sc__law_good : FnScope ["_law_text_here", "_law_many", "_law_sign"] ["_law_text_here", "_law_many"] (defScope s__law_good) := ⟨rfl, rfl, rfl, by decide +kernel, rfl, by decide +kernel, by decide +kernel⟩
theorem sc__law_same : FnScope ["_law_found", "_law_due"] ["_law_found", "_law_due"] (defScope s__law_same) := ⟨rfl, rfl, rfl, by decide +kernel, rfl, by decide +kernel, by decide +kernel⟩
theorem sc__law_things : FnScope ["_law_one", "_law_other", "_law_some"] ["_law_one", "_law_other"] (defScope s__law_things) := ⟨rfl, rfl, rfl, by decide +kernel, rfl, by decide +kernel, by decide +kernel⟩
theorem sc_law : FnScope ["_law_script", "_law_many", "_law_words", "_law_k", "_law_cell", "_law_at", "_law_text_here", "_law_due", "_law_thing", "_law_sign", "_law_one", "_law_other"] ["_law_script"] (defScope s_law) := ⟨rfl, rfl, rfl, by decide +kernel, rfl, by decide +kernel, by decide +kernel⟩
section
variable {P : Program} {w : World} {K : PySem.W.Frag} {mg : Str → Option Value} {base : Heap}
theorem d_is_word {fa : Addr} {fd : FuncData} (F : Fun K "is_word" "is_word" s_is_word fa fd) (b_isinstance : mg "isinstance" = none) (b_str : mg "str" = none) {t_LETTERS : Tok} (g_LETTERS : mg "LETTERS" = some (.str "abc" t_LETTERS)) : FnOk P w K mg base CX0 1 fa fd ["thing", "many"] (spI K 2 p_is_word) := by
  refine fn_i (k := 0) F sc_is_word 2 2 b_is_word rfl rfl fun cdv A outer s H E B hr => ?_
  have nd := sc_is_word.nd
  exact s_one (s_ret (i_and (i_isinst ty_str b_isinstance b_str (toP (i_var 0))) (i_and1 (i_cmpG (op_eqD hr.units) sem_eq (toP (i_strip (toP (i_var 0)) (a_cons (i_sl (toP (i_gstr [97, 98, 99] g_LETTERS)) (o_none) (o_some (toP (i_var 1)))) (a_nil)))) (toP (i_str [])) (nomark _)))))
theorem d_is_endless {fa : Addr} {fd : FuncData} (F : Fun K "is_endless" "is_endless" s_is_endless fa fd) (h_is_word : DefOk P w K mg base "is_word" 1 2 p_is_word) (b_isinstance : mg "isinstance" = none) (b_tuple : mg "tuple" = none) (b_len : mg "len" = none) : FnOk P w K mg base CX0 2 fa fd ["thing", "many"] (spI K 2 p_is_endless) := by
  refine fn_i (k := 1) F sc_is_endless 2 2 b_is_endless rfl rfl fun cdv A outer s H E B hr => ?_
  have nd := sc_is_endless.nd
  exact s_cons (s_if (PW.pt (t_or (t_not (i_test (i_isinst ty_tuple b_isinstance b_tuple (toP (i_var 0))))) (t_or1 (i_cmpT (op_neD hr.units) sem_ne (toP (i_len b_len (toP (i_var 0)))) (toP (i_int)) (nomark _))))) (s_one (s_ret (i_bl))) (s_nil)) (s_one (s_ret (i_and (i_callD h_is_word hr (by decide) (a_cons (i_ix (toP (i_var 0)) (toP (i_int))) (a_cons (i_var 1) (a_nil)))) (i_and (i_callD h_is_word hr (by decide) (a_cons (i_ix (toP (i_var 0)) (toP (i_int))) (a_cons (i_var 1) (a_nil)))) (i_and1 (i_cmpG (op_neD hr.units) sem_ne (toP (i_ix (toP (i_var 0)) (toP (i_int)))) (toP (i_str [])) (nomark _)))))))
theorem d__law_cell_at {fa : Addr} {fd : FuncData} (F : Fun K "_law_cell_at" "_law_cell_at" s__law_cell_at fa fd) (b_len : mg "len" = none) : FnOk P w K mg base CX0 1 fa fd ["_law_script", "_law_k"] (spI K 2 p__law_cell_at) := by
  refine fn_i (k := 0) F sc__law_cell_at 2 2 b__law_cell_at rfl rfl fun cdv A outer s H E B hr => ?_
  have nd := sc__law_cell_at.nd
  exact s_cons (s_if (i_cmpT (op_ltD hr.units) sem_ltD (toP (i_var 1)) (toP (i_len b_len (toP (i_var 0)))) (nomark _)) (s_one (s_ret (i_ix (toP (i_var 0)) (toP (i_var 1))))) (s_nil)) (s_one (s_ret (i_int)))
theorem d__law_text {fa : Addr} {fd : FuncData} (F : Fun K "_law_text" "_law_text" s__law_text fa fd) (b_range : mg "range" = none) : FnOk P w K mg base CX0 1 fa fd ["_law_cell", "_law_size_here", "_law_many"] (spI K 3 p__law_text) := by
  refine fn_i (k := 0) F sc__law_text 3 7 b__law_text rfl rfl fun cdv A outer s H E B hr => ?_
  have nd := sc__law_text.nd
  exact s_cons (s_set 3 (i_str []) nd) (s_cons (s_set 4 (i_fdiv (toP (i_var 0)) (toP (i_int))) nd) (s_cons (s_set 5 (i_add (toP (i_mod (toP (i_fdiv (toP (i_var 0)) (toP (i_int)))) (toP (i_int)))) (toP (i_int))) nd) (s_cons (s_for (it_r1 b_range (toP (i_var 1))) (g_name 6 nd) (s_cons (s_set 5 (i_mod (toP (i_add (toP (i_add (toP (i_add (toP (i_mul (toP (i_var 5)) (toP (i_var 5)))) (toP (i_mul (toP (i_int)) (toP (i_var 5)))))) (toP (i_mul (toP (i_int)) (toP (i_var 6)))))) (toP (i_int)))) (toP (i_int))) nd) (s_one (s_if (i_cmpT (op_eqD hr.units) sem_eq (toP (i_mod (toP (i_var 0)) (toP (i_int)))) (toP (i_int)) (nomark _)) (s_cons (s_set 3 (i_add (toP (i_var 3)) (toP (i_ix (toP (i_str [97, 98, 99])) (toP (i_mod (toP (i_var 4)) (toP (i_var 2))))))) nd) (s_one (s_set 4 (i_fdiv (toP (i_var 4)) (toP (i_var 2))) nd))) (s_one (s_set 3 (i_add (toP (i_var 3)) (toP (i_ix (toP (i_str [97, 98, 99])) (toP (i_mod (toP (i_fdiv (toP (i_mod (toP (i_mul (toP (i_var 5)) (toP (i_var 5)))) (toP (i_int)))) (toP (i_int)))) (toP (i_var 2))))))) nd))))) PassesOwn.never rfl) (s_one (s_ret (i_var 3))))))
theorem d__law_size {fa : Addr} {fd : FuncData} (F : Fun K "_law_size" "_law_size" s__law_size fa fd) : FnOk P w K mg base CX0 1 fa fd ["_law_cell", "_law_some", "_law_far"] (spI K 3 p__law_size) := by
  refine fn_i (k := 0) F sc__law_size 3 3 b__law_size rfl rfl fun cdv A outer s H E B hr => ?_
  have nd := sc__law_size.nd
  exact s_cons (s_if (i_cmpT (op_eqD hr.units) sem_eq (toP (i_mod (toP (i_var 0)) (toP (i_int)))) (toP (i_int)) (nomark _)) (s_one (s_ret (i_mod (toP (i_fdiv (toP (i_var 0)) (toP (i_int)))) (toP (i_var 2))))) (s_nil)) (s_one (s_ret (i_mod (toP (i_fdiv (toP (i_var 0)) (toP (i_int)))) (toP (i_var 1)))))
theorem d__law_good {fa : Addr} {fd : FuncData} (F : Fun K "_law_good" "_law_good" s__law_good fa fd) : FnOk P w K mg base CX0 1 fa fd ["_law_text_here", "_law_many"] (spI K 2 p__law_good) := by
  refine fn_i (k := 0) F sc__law_good 2 3 b__law_good rfl rfl fun cdv A outer s H E B hr => ?_
  have nd := sc__law_good.nd
  exact s_cons (s_for (it_e (i_var 0)) (g_name 2 nd) (s_one (s_if (i_cmpT (op_notInD hr.units) sem_notIn (toP (i_var 2)) (toP (i_sl (toP (i_lst (a_cons (i_str [97]) (a_cons (i_str [98]) (a_cons (i_str [99]) (a_nil)))))) (o_none) (o_some (toP (i_var 1))))) rfl) (s_one (s_ret (i_bl))) (s_nil))) PassesOwn.never rfl) (s_one (s_ret (i_bl)))
theorem d__law_same {fa : Addr} {fd : FuncData} (F : Fun K "_law_same" "_law_same" s__law_same fa fd) (b_isinstance : mg "isinstance" = none) (b_bool : mg "bool" = none) : FnOk P w K mg base CX0 1 fa fd ["_law_found", "_law_due"] (spI K 2 p__law_same) := by
  refine fn_i (k := 0) F sc__law_same 2 2 b__law_same rfl rfl fun cdv A outer s H E B hr => ?_
  have nd := sc__law_same.nd
  exact s_one (s_ret (i_and (i_isinst ty_bool b_isinstance b_bool (toP (i_var 0))) (i_and1 (i_cmpG (op_eqD hr.units) sem_eq (toP (i_var 0)) (toP (i_var 1)) (nomark _)))))
theorem d__law_things {fa : Addr} {fd : FuncData} (F : Fun K "_law_things" "_law_things" s__law_things fa fd) : FnOk P w K mg base CX0 1 fa fd ["_law_one", "_law_other"] (spI K 2 p__law_things) := by
  refine fn_i (k := 0) F sc__law_things 2 3 b__law_things rfl rfl fun cdv A outer s H E B hr => ?_
  have nd := sc__law_things.nd
  exact s_cons (s_set 2 (i_lst (a_cons (i_non) (a_cons (i_bl) (a_cons (i_int) (a_cons (i_lst (a_cons (i_var 0) (a_cons (i_var 1) (a_nil)))) (a_cons (i_tup (a_cons (i_var 0) (a_nil))) (a_cons (i_tup (a_cons (i_var 0) (a_cons (i_var 1) (a_cons (i_var 1) (a_nil))))) (a_cons (i_tup (a_cons (i_var 0) (a_cons (i_non) (a_nil)))) (a_cons (i_tup (a_cons (i_int) (a_cons (i_var 1) (a_nil)))) (a_cons (i_dnil) (a_cons (i_lst (a_nil)) (a_cons (i_tup (a_nil)) (a_nil))))))))))))) nd) (s_one (s_ret (i_add (toP (i_var 2)) (toP (i_lst (a_cons (i_tup (a_cons (i_tup (a_cons (i_var 0) (a_cons (i_var 1) (a_nil)))) (a_cons (i_var 1) (a_nil)))) (a_cons (i_tup (a_cons (i_var 0) (a_cons (i_lst (a_cons (i_var 1) (a_nil))) (a_nil)))) (a_cons (i_lst (a_cons (i_var 0) (a_nil))) (a_cons (i_tup (a_cons (i_non) (a_cons (i_var 1) (a_nil)))) (a_nil))))))))))
theorem d_law {fa : Addr} {fd : FuncData} (F : Fun K "law" "law" s_law fa fd) (h__law_cell_at : DefOk P w K mg base "_law_cell_at" 1 2 p__law_cell_at) (h__law_text : DefOk P w K mg base "_law_text" 1 3 p__law_text) (h__law_size : DefOk P w K mg base "_law_size" 1 3 p__law_size) (h__law_same : DefOk P w K mg base "_law_same" 1 2 p__law_same) (h__law_good : DefOk P w K mg base "_law_good" 1 2 p__law_good) (h_is_word : DefOk P w K mg base "is_word" 1 2 p_is_word) (h_is_endless : DefOk P w K mg base "is_endless" 2 2 p_is_endless) (h__law_things : DefOk P w K mg base "_law_things" 1 2 p__law_things) (b_range : mg "range" = none) (b_len : mg "len" = none) : FnOk P w K mg base CX0 3 fa fd ["_law_script"] (spI K 1 p_law) := by
  refine fn_i (k := 2) F sc_law 1 12 b_law rfl rfl fun cdv A outer s H E B hr => ?_
  have nd := sc_law.nd
  exact s_cons (s_set 1 (i_add (toP (i_int)) (toP (i_mod (toP (i_callD h__law_cell_at hr (by decide) (a_cons (i_var 0) (a_cons (i_int) (a_nil))))) (toP (i_int))))) nd) (s_cons (s_setO 2 (f_lst (a_nil)) nd) (s_cons (s_for (it_r1 b_range (toP (i_int))) (g_name 3 nd) (s_cons (s_set 4 (i_callD h__law_cell_at hr (by decide) (a_cons (i_var 0) (a_cons (i_add (toP (i_int)) (toP (i_var 3))) (a_nil)))) nd) (s_one (s_app 2 (i_callD h__law_text hr (by decide) (a_cons (i_fdiv (toP (i_var 4)) (toP (i_int))) (a_cons (i_callD h__law_size hr (by decide) (a_cons (i_var 4) (a_cons (i_int) (a_cons (i_int) (a_nil))))) (a_cons (i_var 1) (a_nil)))))))) PassesOwn.never rfl) (s_cons (s_set 4 (i_callD h__law_cell_at hr (by decide) (a_cons (i_var 0) (a_cons (i_int) (a_nil)))) nd) (s_cons (s_set 3 (i_mod (toP (i_var 4)) (toP (i_int))) nd) (s_cons (s_set 5 (i_mod (toP (i_fdiv (toP (i_var 4)) (toP (i_int)))) (toP (i_add (toP (i_len b_len (toP (i_ix (i_peek 2) (toP (i_var 3)))))) (toP (i_int))))) nd) (s_cons (s_if (i_cmpT op_gt sem_gt (toP (i_mod (toP (i_fdiv (toP (i_var 4)) (toP (i_int)))) (toP (i_int)))) (toP (i_int)) (nomark _)) (s_cons (s_set 9 (i_ix (toP (i_lst (a_cons (i_str [97]) (a_cons (i_str [98]) (a_cons (i_str [99]) (a_cons (i_str [100]) (a_cons (i_str [65]) (a_cons (i_str [32]) (a_cons (i_str [49]) (a_cons (i_str [40]) (a_nil))))))))))) (toP (i_mod (toP (i_callD h__law_cell_at hr (by decide) (a_cons (i_var 0) (a_cons (i_int) (a_nil))))) (toP (i_int))))) nd) (s_one (s_put 2 (toP (i_var 3)) (i_add (toP (i_add (toP (i_sl (toP (i_ix (i_peek 2) (toP (i_var 3)))) (o_none) (o_some (toP (i_var 5))))) (toP (i_var 9)))) (toP (i_sl (toP (i_ix (i_peek 2) (toP (i_var 3)))) (o_some (toP (i_var 5))) (o_none))))))) (s_nil)) (s_cons (s_fz [2] (s_tgt (i_var 2) (g_tup rfl (gs_cons 10 (gs_cons 11 (gs_nil) nd) nd)))) (s_cons (s_fz [2] (s_for (it_e (i_var 2)) (g_name 6 nd) (s_cons (s_if (t_not (i_test (i_callD h__law_same hr (by decide) (a_cons (i_callD h_is_word hr (by decide) (a_cons (i_var 6) (a_cons (i_var 1) (a_nil)))) (a_cons (i_callD h__law_good hr (by decide) (a_cons (i_var 6) (a_cons (i_var 1) (a_nil)))) (a_nil)))))) (s_one (s_ret (i_bl))) (s_nil)) (s_one (s_if (t_not (i_test (i_callD h__law_same hr (by decide) (a_cons (i_callD h_is_endless hr (by decide) (a_cons (i_var 6) (a_cons (i_var 1) (a_nil)))) (a_cons (i_bl) (a_nil)))))) (s_one (s_ret (i_bl))) (s_nil)))) PassesOwn.never rfl)) (s_cons (s_set 7 (i_and (i_callD h__law_good hr (by decide) (a_cons (i_var 10) (a_cons (i_var 1) (a_nil)))) (i_and1 (i_callD h__law_good hr (by decide) (a_cons (i_var 11) (a_cons (i_var 1) (a_nil)))))) nd) (s_cons (s_if (t_not (i_test (i_callD h__law_same hr (by decide) (a_cons (i_callD h_is_endless hr (by decide) (a_cons (i_tup (a_cons (i_var 10) (a_cons (i_var 11) (a_nil)))) (a_cons (i_var 1) (a_nil)))) (a_cons (i_and (i_var 7) (i_and1 (i_cmpG (op_neD hr.units) sem_ne (toP (i_var 11)) (toP (i_str [])) (nomark _)))) (a_nil)))))) (s_one (s_ret (i_bl))) (s_nil)) (s_cons (s_if (t_not (i_test (i_callD h__law_same hr (by decide) (a_cons (i_callD h_is_endless hr (by decide) (a_cons (i_tup (a_cons (i_var 11) (a_cons (i_var 10) (a_nil)))) (a_cons (i_var 1) (a_nil)))) (a_cons (i_and (i_var 7) (i_and1 (i_cmpG (op_neD hr.units) sem_ne (toP (i_var 10)) (toP (i_str [])) (nomark _)))) (a_nil)))))) (s_one (s_ret (i_bl))) (s_nil)) (s_cons (s_for (it_e (i_callD h__law_things hr (by decide) (a_cons (i_var 10) (a_cons (i_var 11) (a_nil))))) (g_name 8 nd) (s_one (s_if (PW.pt (t_or (t_not (i_test (i_callD h__law_same hr (by decide) (a_cons (i_callD h_is_word hr (by decide) (a_cons (i_var 8) (a_cons (i_var 1) (a_nil)))) (a_cons (i_bl) (a_nil)))))) (t_or1 (t_not (i_test (i_callD h__law_same hr (by decide) (a_cons (i_callD h_is_endless hr (by decide) (a_cons (i_var 8) (a_cons (i_var 1) (a_nil)))) (a_cons (i_bl) (a_nil))))))))) (s_one (s_ret (i_bl))) (s_nil))) PassesOwn.never rfl) (s_one (s_ret (i_and (i_callD h__law_same hr (by decide) (a_cons (i_callD h_is_word hr (by decide) (a_cons (i_str []) (a_cons (i_var 1) (a_nil)))) (a_cons (i_bl) (a_nil)))) (i_and1 (i_callD h__law_same hr (by decide) (a_cons (i_callD h_is_endless hr (by decide) (a_cons (i_tup (a_cons (i_str []) (a_cons (i_str []) (a_nil)))) (a_cons (i_var 1) (a_nil)))) (a_cons (i_bl) (a_nil))))))))))))))))))))
end
theorem all_mk {l : PySem.W.OpenLaw} {w : World} {K : PySem.W.Frag} {h : Heap} {mg : Str → Option Value} {fa : Addr} (X : K.In h) (G : h.Ns mainGlobals mg) (hfa : mg "law" = some (.ref fa))
    {f1 : Addr} {od1 an1 : Option Addr} {sl1 : Array (Option Value)} {oc1 kV1 dc1 pm1 cd1 ct1 : Value} {f2 : Addr} {od2 an2 : Option Addr} {sl2 : Array (Option Value)} {oc2 kV2 dc2 pm2 cd2 ct2 : Value} {f3 : Addr} {od3 an3 : Option Addr} {sl3 : Array (Option Value)} {oc3 kV3 dc3 pm3 cd3 ct3 : Value} {f4 : Addr} {od4 an4 : Option Addr} {sl4 : Array (Option Value)} {oc4 kV4 dc4 pm4 cd4 ct4 : Value} {f5 : Addr} {od5 an5 : Option Addr} {sl5 : Array (Option Value)} {oc5 kV5 dc5 pm5 cd5 ct5 : Value} {f6 : Addr} {od6 an6 : Option Addr} {sl6 : Array (Option Value)} {oc6 kV6 dc6 pm6 cd6 ct6 : Value} {f7 : Addr} {od7 an7 : Option Addr} {sl7 : Array (Option Value)} {oc7 kV7 dc7 pm7 cd7 ct7 : Value} {f8 : Addr} {od8 an8 : Option Addr} {sl8 : Array (Option Value)} {oc8 kV8 dc8 pm8 cd8 ct8 : Value} {f9 : Addr} {od9 an9 : Option Addr} {sl9 : Array (Option Value)} {oc9 kV9 dc9 pm9 cd9 ct9 : Value} {t_LETTERS : Tok}
    (a1 : PySem.W.nsIn K mainGlobals "is_word" = some (some (.ref f1))) (l1 : K.lookup f1 = some ⟨oc1, od1, .func (PySem.W.fnOf "is_word" "is_word" (defArgs s_is_word) (defBody s_is_word) (defScope s_is_word) .none kV1 dc1 pm1 an1 cd1 ct1), sl1⟩) (c1 : PySem.W.codeIn K cd1 "is_word" = true) (k1 : PySem.W.keepIn K (.ref f1) = true)
    (a2 : PySem.W.nsIn K mainGlobals "is_endless" = some (some (.ref f2))) (l2 : K.lookup f2 = some ⟨oc2, od2, .func (PySem.W.fnOf "is_endless" "is_endless" (defArgs s_is_endless) (defBody s_is_endless) (defScope s_is_endless) .none kV2 dc2 pm2 an2 cd2 ct2), sl2⟩) (c2 : PySem.W.codeIn K cd2 "is_endless" = true) (k2 : PySem.W.keepIn K (.ref f2) = true)
    (a3 : PySem.W.nsIn K mainGlobals "_law_cell_at" = some (some (.ref f3))) (l3 : K.lookup f3 = some ⟨oc3, od3, .func (PySem.W.fnOf "_law_cell_at" "_law_cell_at" (defArgs s__law_cell_at) (defBody s__law_cell_at) (defScope s__law_cell_at) .none kV3 dc3 pm3 an3 cd3 ct3), sl3⟩) (c3 : PySem.W.codeIn K cd3 "_law_cell_at" = true) (k3 : PySem.W.keepIn K (.ref f3) = true)
    (a4 : PySem.W.nsIn K mainGlobals "_law_text" = some (some (.ref f4))) (l4 : K.lookup f4 = some ⟨oc4, od4, .func (PySem.W.fnOf "_law_text" "_law_text" (defArgs s__law_text) (defBody s__law_text) (defScope s__law_text) .none kV4 dc4 pm4 an4 cd4 ct4), sl4⟩) (c4 : PySem.W.codeIn K cd4 "_law_text" = true) (k4 : PySem.W.keepIn K (.ref f4) = true)
    (a5 : PySem.W.nsIn K mainGlobals "_law_size" = some (some (.ref f5))) (l5 : K.lookup f5 = some ⟨oc5, od5, .func (PySem.W.fnOf "_law_size" "_law_size" (defArgs s__law_size) (defBody s__law_size) (defScope s__law_size) .none kV5 dc5 pm5 an5 cd5 ct5), sl5⟩) (c5 : PySem.W.codeIn K cd5 "_law_size" = true) (k5 : PySem.W.keepIn K (.ref f5) = true)
    (a6 : PySem.W.nsIn K mainGlobals "_law_good" = some (some (.ref f6))) (l6 : K.lookup f6 = some ⟨oc6, od6, .func (PySem.W.fnOf "_law_good" "_law_good" (defArgs s__law_good) (defBody s__law_good) (defScope s__law_good) .none kV6 dc6 pm6 an6 cd6 ct6), sl6⟩) (c6 : PySem.W.codeIn K cd6 "_law_good" = true) (k6 : PySem.W.keepIn K (.ref f6) = true)
    (a7 : PySem.W.nsIn K mainGlobals "_law_same" = some (some (.ref f7))) (l7 : K.lookup f7 = some ⟨oc7, od7, .func (PySem.W.fnOf "_law_same" "_law_same" (defArgs s__law_same) (defBody s__law_same) (defScope s__law_same) .none kV7 dc7 pm7 an7 cd7 ct7), sl7⟩) (c7 : PySem.W.codeIn K cd7 "_law_same" = true) (k7 : PySem.W.keepIn K (.ref f7) = true)
    (a8 : PySem.W.nsIn K mainGlobals "_law_things" = some (some (.ref f8))) (l8 : K.lookup f8 = some ⟨oc8, od8, .func (PySem.W.fnOf "_law_things" "_law_things" (defArgs s__law_things) (defBody s__law_things) (defScope s__law_things) .none kV8 dc8 pm8 an8 cd8 ct8), sl8⟩) (c8 : PySem.W.codeIn K cd8 "_law_things" = true) (k8 : PySem.W.keepIn K (.ref f8) = true)
    (a9 : PySem.W.nsIn K mainGlobals "law" = some (some (.ref f9))) (l9 : K.lookup f9 = some ⟨oc9, od9, .func (PySem.W.fnOf "law" "law" (defArgs s_law) (defBody s_law) (defScope s_law) .none kV9 dc9 pm9 an9 cd9 ct9), sl9⟩) (c9 : PySem.W.codeIn K cd9 "law" = true) (k9 : PySem.W.keepIn K (.ref f9) = true)
    (v_LETTERS : PySem.W.nsIn K mainGlobals "LETTERS" = some (some (.str "abc" t_LETTERS)))
    (z_bool : PySem.W.nsIn K mainGlobals "bool" = some none)
    (z_isinstance : PySem.W.nsIn K mainGlobals "isinstance" = some none)
    (z_len : PySem.W.nsIn K mainGlobals "len" = some none)
    (z_range : PySem.W.nsIn K mainGlobals "range" = some none)
    (z_str : PySem.W.nsIn K mainGlobals "str" = some none)
    (z_tuple : PySem.W.nsIn K mainGlobals "tuple" = some none) :
    ∃ fd : FuncData, (∀ (s : Shared) (v : Value), BindsTo s fd ⟨[v], []⟩ [("_law_script", v)]) ∧ ∀ base : Heap, K.In base → base.Ns mainGlobals mg → FnOk l.prog w K mg base CX0 3 fa fd ["_law_script"] (spI K 1 p_law) := by
  have e := hfa.symm.trans (PySem.W.mg_of X G a9)
  cases e
  have F1 := fun_mk (st := s_is_word) l1 c1 k1
  have b1 := F1.binds (ps := ["thing", "many"]) fun _ _ _ _ _ _ us hl => match us, hl with | [_, _], _ => rfl
  have F2 := fun_mk (st := s_is_endless) l2 c2 k2
  have b2 := F2.binds (ps := ["thing", "many"]) fun _ _ _ _ _ _ us hl => match us, hl with | [_, _], _ => rfl
  have F3 := fun_mk (st := s__law_cell_at) l3 c3 k3
  have b3 := F3.binds (ps := ["_law_script", "_law_k"]) fun _ _ _ _ _ _ us hl => match us, hl with | [_, _], _ => rfl
  have F4 := fun_mk (st := s__law_text) l4 c4 k4
  have b4 := F4.binds (ps := ["_law_cell", "_law_size_here", "_law_many"]) fun _ _ _ _ _ _ us hl => match us, hl with | [_, _, _], _ => rfl
  have F5 := fun_mk (st := s__law_size) l5 c5 k5
  have b5 := F5.binds (ps := ["_law_cell", "_law_some", "_law_far"]) fun _ _ _ _ _ _ us hl => match us, hl with | [_, _, _], _ => rfl
  have F6 := fun_mk (st := s__law_good) l6 c6 k6
  have b6 := F6.binds (ps := ["_law_text_here", "_law_many"]) fun _ _ _ _ _ _ us hl => match us, hl with | [_, _], _ => rfl
  have F7 := fun_mk (st := s__law_same) l7 c7 k7
  have b7 := F7.binds (ps := ["_law_found", "_law_due"]) fun _ _ _ _ _ _ us hl => match us, hl with | [_, _], _ => rfl
  have F8 := fun_mk (st := s__law_things) l8 c8 k8
  have b8 := F8.binds (ps := ["_law_one", "_law_other"]) fun _ _ _ _ _ _ us hl => match us, hl with | [_, _], _ => rfl
  have F9 := fun_mk (st := s_law) l9 c9 k9
  have b9 := F9.binds (ps := ["_law_script"]) fun _ _ _ _ _ _ us hl => match us, hl with | [_], _ => rfl
  have b_bool := PySem.W.mg_none_of X G z_bool
  have b_isinstance := PySem.W.mg_none_of X G z_isinstance
  have b_len := PySem.W.mg_none_of X G z_len
  have b_range := PySem.W.mg_none_of X G z_range
  have b_str := PySem.W.mg_none_of X G z_str
  have b_tuple := PySem.W.mg_none_of X G z_tuple
  have g_LETTERS := PySem.W.mg_of X G v_LETTERS
  refine ⟨PySem.W.fnOf "law" "law" (defArgs s_law) (defBody s_law) (defScope s_law) .none kV9 dc9 pm9 an9 cd9 ct9, fun s v => .of_eq rfl, fun base _ _ => ?_⟩
  have f_is_word := d_is_word (P := l.prog) (w := w) (mg := mg) (base := base) F1 b_isinstance b_str g_LETTERS
  have h_is_word := DefOk.of f_is_word (PySem.W.mg_of X G a1) F1.kp b1 runD_len
  have f_is_endless := d_is_endless (P := l.prog) (w := w) (mg := mg) (base := base) F2 h_is_word b_isinstance b_tuple b_len
  have h_is_endless := DefOk.of f_is_endless (PySem.W.mg_of X G a2) F2.kp b2 runD_len
  have f__law_cell_at := d__law_cell_at (P := l.prog) (w := w) (mg := mg) (base := base) F3 b_len
  have h__law_cell_at := DefOk.of f__law_cell_at (PySem.W.mg_of X G a3) F3.kp b3 runD_len
  have f__law_text := d__law_text (P := l.prog) (w := w) (mg := mg) (base := base) F4 b_range
  have h__law_text := DefOk.of f__law_text (PySem.W.mg_of X G a4) F4.kp b4 runD_len
  have f__law_size := d__law_size (P := l.prog) (w := w) (mg := mg) (base := base) F5 
  have h__law_size := DefOk.of f__law_size (PySem.W.mg_of X G a5) F5.kp b5 runD_len
  have f__law_good := d__law_good (P := l.prog) (w := w) (mg := mg) (base := base) F6 
  have h__law_good := DefOk.of f__law_good (PySem.W.mg_of X G a6) F6.kp b6 runD_len
  have f__law_same := d__law_same (P := l.prog) (w := w) (mg := mg) (base := base) F7 b_isinstance b_bool
  have h__law_same := DefOk.of f__law_same (PySem.W.mg_of X G a7) F7.kp b7 runD_len
  have f__law_things := d__law_things (P := l.prog) (w := w) (mg := mg) (base := base) F8 
  have h__law_things := DefOk.of f__law_things (PySem.W.mg_of X G a8) F8.kp b8 runD_len
  have f_law := d_law (P := l.prog) (w := w) (mg := mg) (base := base) F9 h__law_cell_at h__law_text h__law_size h__law_same h__law_good h_is_word h_is_endless h__law_things b_range b_len
  exact f_law
theorem walk {l : PySem.W.OpenLaw} {q : Program} {loose : List Str} {XP : (Str → Option Value) → Heap → Prop} {YP : World → Heap → Prop} {d : DefRec} {K : Params → PySem.W.Frag} (hn : l.most = some 63) (hdf : d.params.defaults = [])
    (hY : ∀ (w : World) (h : Heap), YP w h → (K w.params).In h)
    (hlaw : ∀ ns : List Int, ns.length ≤ 63 → p_law [.lst (ns.map D.int)] = .ok (.bl true))
    (F : ∀ (w : World) (mg : Str → Option Value) (fa : Addr) (h : Heap), (K w.params).In h → h.Ns mainGlobals mg → mg d.name = some (.ref fa) →
      ∃ fd : FuncData, (∀ (s : Shared) (u : Value), BindsTo s fd ⟨[u], []⟩ [("_law_script", u)]) ∧ ∀ base : Heap, (K w.params).In base → base.Ns mainGlobals mg → FnOk l.prog w (K w.params) mg base CX0 3 fa fd ["_law_script"] (spI (K w.params) 1 p_law)) :
    PySem.W.WalkO q loose XP YP l.row.toRowW d [] (fun f vs => PySem.call f vs) :=
  L2.walk_of (n := 63) (k := 3) (x := "_law_script") (CX := fun _ => CX0) (sp := fun w => spI (K w.params) 1 p_law) hn (by decide) hdf ⟨rfl, by decide, by decide⟩ hY F (fun _ _ a ns hl _ hS => law_sp hS (hlaw ns hl)) fun _ _ _ _ _ z => z
end Pu
open PySem PySem.W PyProof.Rows
set_option maxRecDepth 100000 in
set_option maxHeartbeats 0 in
theorem PySem.Challenge.cw_looprank_k01_what_is_a_word_holds : PySem.Challenge.rw_looprank_k01_what_is_a_word.Holds := by
  w_on; o_law; k_head; (case hw => w_witness2)
  k_fill
  refine Pu.walk (l := PySem.Challenge.rw_looprank_k01_what_is_a_word) rfl rfl (fun w h Y => PySem.W.kIn_of Y) Pu.law_true ?F
  case F =>
    intro w mg fa h KX G hmg
    refine' Pu.all_mk KX G hmg ?a1 ?l1 ?c1 ?k1 ?a2 ?l2 ?c2 ?k2 ?a3 ?l3 ?c3 ?k3 ?a4 ?l4 ?c4 ?k4 ?a5 ?l5 ?c5 ?k5 ?a6 ?l6 ?c6 ?k6 ?a7 ?l7 ?c7 ?k7 ?a8 ?l8 ?c8 ?k8 ?a9 ?l9 ?c9 ?k9 ?v_LETTERS ?z_bool ?z_isinstance ?z_len ?z_range ?z_str ?z_tuple
    (case a1 => k_is)
    (case l1 => k_is)
    (case c1 => k_is)
    (case k1 => k_is)
    (case a2 => k_is)
    (case l2 => k_is)
    (case c2 => k_is)
    (case k2 => k_is)
    (case a3 => k_is)
    (case l3 => k_is)
    (case c3 => k_is)
    (case k3 => k_is)
    (case a4 => k_is)
    (case l4 => k_is)
    (case c4 => k_is)
    (case k4 => k_is)
    (case a5 => k_is)
    (case l5 => k_is)
    (case c5 => k_is)
    (case k5 => k_is)
    (case a6 => k_is)
    (case l6 => k_is)
    (case c6 => k_is)
    (case k6 => k_is)
    (case a7 => k_is)
    (case l7 => k_is)
    (case c7 => k_is)
    (case k7 => k_is)
    (case a8 => k_is)
    (case l8 => k_is)
    (case c8 => k_is)
    (case k8 => k_is)
    (case a9 => k_is)
    (case l9 => k_is)
    (case c9 => k_is)
    (case k9 => k_is)
    (case v_LETTERS => k_is)
    (case z_bool => k_is)
    (case z_isinstance => k_is)
    (case z_len => k_is)
    (case z_range => k_is)
    (case z_str => k_is)
    (case z_tuple => k_is)
