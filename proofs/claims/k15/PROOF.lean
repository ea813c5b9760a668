import PyProof.Rows.All
import Wide.All
import OpenK.AllK
import Wide.FinOn
import Lean
import PyProof.EqAt
import PyProof.EqKinds
import PyProof.TupleCall
import PyProof.Draws
import PySem.Challenge.RW_askhouse_k15_texts_that_write_no_house
set_option Elab.async false
set_option linter.all false
set_option maxRecDepth 100000
/-! THE HAND LAYER, for ints, bools, texts, own classes, LISTS and tuples (index, slices, in, append, pop ..), calls, loops. Paste it whole ahead of your own text; what your proof does not reach may be deleted. -/
namespace L2
open PySem PySem.Spec PyProof.Rows

/-- a key: an int or a str -/
abbrev Key := Sum Int Str
def keyIs : Key → Value → Bool
  | .inl k, v => Value.isInt k v
  | .inr x, v => Value.isStrOf x v
def keyH (w : World) : Key → Int
  | .inl k => hashInt k
  | .inr x => hashStr w x
theorem keyIs_shape : ∀ {k : Key} {v : Value}, keyIs k v = true → (∃ i t, k = Sum.inl i ∧ v = Value.int i t) ∨ (∃ x t, k = Sum.inr x ∧ v = Value.str x t)
  | .inl i, v, h => by
    obtain ⟨t, e⟩ := Value.isInt_shape (k := i) (v := v) h
    exact .inl ⟨i, t, rfl, e⟩
  | .inr x, v, h => by
    obtain ⟨t, e⟩ := Value.isStrOf_shape (x := x) (v := v) h
    exact .inr ⟨x, t, rfl, e⟩
theorem keyIs_int (i : Int) (t : Tok) : keyIs (.inl i) (.int i t) = true := by simp [keyIs, Value.isInt]
theorem keyIs_str (x : Str) (t : Tok) : keyIs (.inr x) (.str x t) = true := by simp [keyIs, Value.isStrOf]
theorem key_ll (a b : Int) : decide ((Sum.inl a : Key) = Sum.inl b) = (a == b) := by
  by_cases e : a = b
  · subst e; simp
  · have h : ¬ (Sum.inl a : Key) = Sum.inl b := fun q => e (Sum.inl.inj q)
    rw [decide_eq_false h]
    exact (beq_eq_false_iff_ne.mpr e).symm
theorem key_rr (a b : Str) : decide ((Sum.inr a : Key) = Sum.inr b) = decide (a = b) := by
  by_cases e : a = b
  · subst e; simp
  · have h : ¬ (Sum.inr a : Key) = Sum.inr b := fun q => e (Sum.inr.inj q)
    rw [decide_eq_false h, decide_eq_false e]
theorem key_lr (a : Int) (b : Str) : decide ((Sum.inl a : Key) = Sum.inr b) = false := decide_eq_false (fun q => nomatch q)
theorem key_rl (a : Str) (b : Int) : decide ((Sum.inr a : Key) = Sum.inl b) = false := decide_eq_false (fun q => nomatch q)

def mixKind (prog : Program) (w : World) : PySem.KeyKind prog w Key where
  is := keyIs
  hash := keyH w
  inj := fun v a b ha hb => by
    rcases keyIs_shape ha with ⟨i, t, rfl, rfl⟩ | ⟨x, t, rfl, rfl⟩
    · rcases keyIs_shape hb with ⟨j, u, rfl, e⟩ | ⟨y, u, rfl, e⟩
      · injection e with e1 _; rw [e1]
      · exact nomatch e
    · rcases keyIs_shape hb with ⟨j, u, rfl, e⟩ | ⟨y, u, rfl, e⟩
      · exact nomatch e
      · injection e with e1 _; rw [e1]
  byValue := fun k v h => by
    rcases keyIs_shape h with ⟨i, t, rfl, rfl⟩ | ⟨x, t, rfl, rfl⟩ <;> rfl
  pyHash := fun hv h => by
    rcases keyIs_shape hv with ⟨i, t, rfl, rfl⟩ | ⟨x, t, rfl, rfl⟩
    · exact wpAny_pyHash_int h
    · exact wpAny_pyHash_str h
  eqBool := fun hu hv h => by
    rcases keyIs_shape hu with ⟨i, t, rfl, rfl⟩ | ⟨x, t, rfl, rfl⟩
    · rcases keyIs_shape hv with ⟨j, u, rfl, rfl⟩ | ⟨y, u, rfl, rfl⟩
      · rw [key_ll] at h; exact wpAny_eqBool_int h
      · rw [key_lr] at h; exact SeqAt.EqAt.int_str i t y u _ _ _ _ h
    · rcases keyIs_shape hv with ⟨j, u, rfl, rfl⟩ | ⟨y, u, rfl, rfl⟩
      · rw [key_rl] at h; exact SeqAt.EqAt.str_int x t j u _ _ _ _ h
      · rw [key_rr] at h; exact wpAny_eqBool_str h
  «strs» := fun k x t v h => by
    rcases keyIs_shape h with ⟨i, u, rfl, e⟩ | ⟨y, u, rfl, e⟩
    · exact nomatch e
    · injection e with e1 _
      subst e1
      cases v <;> rfl

theorem mixKind_int (prog : Program) (w : World) (i : Int) (t : Tok) : (mixKind prog w).is (.inl i) (.int i t) = true := keyIs_int i t
theorem mixKind_str (prog : Program) (w : World) (x : Str) (t : Tok) : (mixKind prog w).is (.inr x) (.str x t) = true := keyIs_str x t
end L2

namespace L2
open PySem PySem.Spec PyProof.Rows

/-- a value, without the heap -/
inductive V where
  | non | bl (b : Bool) | int (i : Int) | str (x : Str) | byt (b : Array UInt8) | flt (b : UInt64) | ref (a : Addr) | ty (n : String)
  deriving DecidableEq

def RelV : V → Value → Prop
  | .non, u => u = Value.none
  | .bl b, u => u = Value.bool b
  | .int i, u => ∃ t, u = Value.int i t
  | .str x, u => ∃ t, u = Value.str x t
  | .byt b, u => ∃ t, u = Value.bytes b t
  | .flt b, u => ∃ t, u = Value.float b t
  | .ref a, u => u = Value.ref a
  | .ty n, u => u = Value.type n

abbrev Vals : List V → List Value → Prop := Paired RelV
theorem Vals.length {xs : List V} {us : List Value} (r : Vals xs us) : xs.length = us.length := Paired.length r
theorem Vals.get : ∀ {xs : List V} {us : List Value} {i : Nat} {x : V}, Vals xs us → xs[i]? = some x → ∃ u, us[i]? = some u ∧ RelV x u
  | _, _, _, _, .nil, e => by simp at e
  | _, _, 0, _, .cons r _, e => by simp at e; subst e; exact ⟨_, rfl, r⟩
  | _, _, i + 1, x, .cons _ t, e => by
    obtain ⟨u, h1, h2⟩ := Vals.get (i := i) (x := x) t (by simpa using e)
    exact ⟨u, by simpa using h1, h2⟩
theorem Vals.set {x : V} {u : Value} (r : RelV x u) : ∀ {xs : List V} {us : List Value} (i : Nat), Vals xs us → Vals (xs.set i x) (us.set i u)
  | _, _, _, .nil => .nil
  | _, _, 0, .cons _ t => .cons r t
  | _, _, i + 1, .cons q t => .cons q (Vals.set r i t)
theorem Vals.append : ∀ {xs ys : List V} {us ws : List Value}, Vals xs us → Vals ys ws → Vals (xs ++ ys) (us ++ ws)
  | _, _, _, _, .nil, s => s
  | _, _, _, _, .cons r t, s => .cons r (Vals.append t s)
theorem Vals.take : ∀ {xs : List V} {us : List Value} (n : Nat), Vals xs us → Vals (xs.take n) (us.take n)
  | _, _, 0, _ => .nil
  | _, _, _ + 1, .nil => .nil
  | _, _, n + 1, .cons r t => .cons r (Vals.take n t)
theorem Vals.drop : ∀ {xs : List V} {us : List Value} (n : Nat), Vals xs us → Vals (xs.drop n) (us.drop n)
  | _, _, 0, r => r
  | _, _, _ + 1, .nil => .nil
  | _, _, n + 1, .cons _ t => Vals.drop n t
def RelO : Option V → Option Value → Prop
  | some v, some u => RelV v u
  | none, none => True
  | _, _ => False
def KV {κ : Type} : List (κ × V) → List (κ × Value) → Prop := Paired fun (p : κ × V) (q : κ × Value) => p.1 = q.1 ∧ RelV p.2 q.2

/-- a key of a dict (00_mix): an int or a text -/
def kV : Key → V
  | .inl i => .int i
  | .inr x => .str x

/-- what stands at a tracked address -/
inductive HO where
  /-- a list -/
  | lst (xs : List V)
  /-- a tuple (never changes) -/
  | tup (xs : List V)
  /-- a dict whose keys are ints and texts; one whose keys are tuples of ints and texts (the empty one is both) -/
  | dK (kvs : List (Key × V)) | dT (kvs : List (List Key × V))
  /-- a set of ints: its members, its size -/
  | set (S : Int → Bool) (n : Nat)
  /-- an instance of the class at C, its dict at dx, its attributes -/
  | ins (C dx : Addr) (fs : List (Str × V))
  /-- the dict of the instance at x -/
  | own (x : Addr)
  /-- the dict of an exception -/
  | xd (fs : List (Str × V))
  /-- a bound method, f of x -/
  | met (f x : Addr)
  /-- a range object lo, lo + 1, .. below hi -/
  | rng (lo hi : Int)
  /-- a thing that is known to the object (the script; a dict while a loop walks it): read, never written while it is so -/
  | frz (o : Obj) (u : HO)
  /-- a code object's table -/
  | tbl (ps : Array Value)
  /-- any other thing, by what is true of its one object (a def of one's own: SetO a S n := HO.ext fun h => ..) -/
  | ext (φ : Heap → Prop)

abbrev Hp := Addr → Option HO
def upd (H : Hp) (a : Addr) (o : HO) : Hp := fun b => if b = a then some o else H b
theorem upd_same {H : Hp} {a : Addr} {o : HO} : upd H a o a = some o := by unfold upd; rw [if_pos rfl]
theorem upd_ne {H : Hp} {a b : Addr} {o : HO} (h : b ≠ a) : upd H a o b = H b := by unfold upd; rw [if_neg h]
theorem upd_upd {H : Hp} {a : Addr} {o u : HO} : upd (upd H a o) a u = upd H a u := by
  funext b; unfold upd; split <;> rfl
/-- two objects of different content stand apart -/
theorem ne_of {H : Hp} {a b : Addr} {o u : HO} (h : H a = some o) (h' : H b = some u) (d : o ≠ u) : a ≠ b := by
  intro e; subst e; rw [h] at h'; exact d (Option.some.inj h')
theorem ne_of_none {H : Hp} {a b : Addr} {o : HO} (h : H a = some o) (h' : H b = none) : a ≠ b := by
  intro e; subst e; rw [h] at h'; cases h'

section
variable (P : Program) (w : World)
def ObjOk (H : Hp) (h : Heap) (a : Addr) : HO → Prop
  | .lst xs => xs.length ≤ sizeLine ∧ ∃ (its : List Value) (n : Nat), Vals xs its ∧ h.get? a = some { cls := .type "list", data := .seq its.toArray n }
  | .tup xs => xs.length ≤ sizeLine ∧ ∃ its : List Value, Vals xs its ∧ IsTup h a its.toArray
  | .dK kvs => kvs.length ≤ sizeLine ∧ (a == sysModules) = false ∧ ∃ vs, KV kvs vs ∧ h.DictOf (mixKind P w) a vs
  | .dT kvs => kvs.length ≤ sizeLine ∧ (a == sysModules) = false ∧ ∃ xs : List (List Key × Addr × Value),
      Paired (fun (p : List Key × V) (q : List Key × Addr × Value) => p.1 = q.1 ∧ H q.2.1 = some (.tup (p.1.map kV)) ∧ RelV p.2 q.2.2) kvs xs ∧
      ∃ o es ep, h.get? a = some o ∧ o.ExactDict ∧ o.data = .dict es ep ∧ es.toList = xs.map (entryOfKey (tupleKind (mixKind P w))) ∧ (xs.map (·.1)).Nodup
  | .set S n => h.SetOf (intKind P w) a S n
  | .ins C dx fs => H dx = some (.own a) ∧ fs.length ≤ 1000 ∧ dx ≠ a ∧ h.get? a = some (PySem.W.instObj C dx) ∧
      ∃ mA, h.Ns1 dx mA ∧ (∀ f, RelO (fs.lookup f) (mA f)) ∧ PySem.Within mA (fs.map (·.1))
  | .own _ => ∃ o, h.get? a = some o
  | .xd fs => ∃ mA, h.Ns1 a mA ∧ ∀ f, RelO (fs.lookup f) (mA f)
  | .rng lo hi => ∃ t u v, h.get? a = some { cls := .type "range", data := .fields #[.int lo t, .int hi u, .int 1 v] }
  | .frz o u => h.get? a = some o ∧ ObjOk H h a u
  | .tbl ps => h.get? a = some { cls := .none, data := .fields ps }
  | .met f x => h.get? a = some (PySem.W.methodObj (.ref f) (.ref x))
  | .ext φ => φ h ∧ (∃ o, h.get? a = some o) ∧ ∀ h1 h2 : Heap, φ h1 → (∀ o, h1.get? a = some o → h2.get? a = some o) → φ h2
/-- the abstract heap is held -/
def HOk (H : Hp) (h : Heap) : Prop := ∀ a o, H a = some o → ObjOk P w H h a o
end

section
variable {P : Program} {w : World} {H H' : Hp} {h h' : Heap} {a : Addr} {o : HO}
theorem ObjOk.lt (x : ObjOk P w H h a o) : a < h.objs.size := by
  cases o with
  | lst xs => obtain ⟨_, _, _, _, e⟩ := x; exact Heap.lt_size e
  | tup xs => obtain ⟨_, _, _, p⟩ := x; exact p.lt
  | dK kvs => obtain ⟨_, _, _, _, o, _, _, e, _⟩ := x; exact Heap.lt_size e
  | dT kvs => obtain ⟨_, _, _, _, o, _, _, e, _⟩ := x; exact Heap.lt_size e
  | set S n => obtain ⟨o, _, _, _, e, _⟩ := x; exact Heap.lt_size e
  | ins C dx fs => obtain ⟨_, _, _, e, _⟩ := x; exact Heap.lt_size e
  | own y => obtain ⟨_, e⟩ := x; exact Heap.lt_size e
  | xd fs => obtain ⟨_, ⟨_, _, _, e, _⟩, _⟩ := x; exact Heap.lt_size e
  | rng lo hi => obtain ⟨_, _, _, e⟩ := x; exact Heap.lt_size e
  | frz ob u => obtain ⟨e, _⟩ := x; exact Heap.lt_size e
  | tbl ps => exact Heap.lt_size (show h.get? a = some _ from x)
  | met f y => exact Heap.lt_size (show h.get? a = some _ from x)
  | ext φ => obtain ⟨_, ⟨_, e⟩, _⟩ := x; exact Heap.lt_size e
theorem Paired.mapP {α β : Type} {F G : α → β → Prop} : ∀ {l₁ : List α} {l₂ : List β}, Paired F l₁ l₂ → (∀ a b, F a b → G a b) → Paired G l₁ l₂
  | _, _, .nil, _ => .nil
  | _, _, .cons r t, f => .cons (f _ _ r) (Paired.mapP t f)
/-- what an object's description leans on: its own object, its own dict, the tuples -/
theorem ObjOk.stay (x : ObjOk P w H h a o) (k : ∀ b u, (b = a ∨ H b = some (.own a)) → h.get? b = some u → h'.get? b = some u)
    (ho : ∀ b, H b = some (.own a) → H' b = some (.own a)) (ht : ∀ b xs, H b = some (.tup xs) → H' b = some (.tup xs)) : ObjOk P w H' h' a o := by
  induction o with
  | lst xs => obtain ⟨z, its, n, r, e⟩ := x; exact ⟨z, its, n, r, k _ _ (.inl rfl) e⟩
  | tup xs => obtain ⟨z, its, r, ob, e, c⟩ := x; exact ⟨z, its, r, ob, k _ _ (.inl rfl) e, c⟩
  | dK kvs => obtain ⟨z, y, vs, r, ob, es, ep, e, c⟩ := x; exact ⟨z, y, vs, r, ob, es, ep, k _ _ (.inl rfl) e, c⟩
  | dT kvs =>
    obtain ⟨z, y, xs, r, ob, es, ep, e, c⟩ := x
    exact ⟨z, y, xs, Paired.mapP r fun p q z => ⟨z.1, ht _ _ z.2.1, z.2.2⟩, ob, es, ep, k _ _ (.inl rfl) e, c⟩
  | set S n => obtain ⟨ob, es, ep, t, e, c⟩ := x; exact ⟨ob, es, ep, t, k _ _ (.inl rfl) e, c⟩
  | ins C dx fs =>
    obtain ⟨d, z, ne, e, mA, ⟨od, es, ep, e2, c⟩, r⟩ := x
    exact ⟨ho _ d, z, ne, k _ _ (.inl rfl) e, mA, ⟨od, es, ep, k _ _ (.inr d) e2, c⟩, r⟩
  | own y => obtain ⟨ob, e⟩ := x; exact ⟨ob, k _ _ (.inl rfl) e⟩
  | xd fs => obtain ⟨mA, ⟨od, es, ep, e, c⟩, r⟩ := x; exact ⟨mA, ⟨od, es, ep, k _ _ (.inl rfl) e, c⟩, r⟩
  | rng lo hi => obtain ⟨t, u, v, e⟩ := x; exact ⟨t, u, v, k _ _ (.inl rfl) e⟩
  | frz ob u ih => obtain ⟨e, q⟩ := x; exact ⟨k _ _ (.inl rfl) e, ih q⟩
  | tbl ps =>
    have e : h.get? a = some { cls := .none, data := .fields ps } := x
    show h'.get? a = some { cls := .none, data := .fields ps }
    exact k a _ (.inl rfl) e
  | met f y =>
    have e : h.get? a = some (PySem.W.methodObj (.ref f) (.ref y)) := x
    show h'.get? a = some (PySem.W.methodObj (.ref f) (.ref y))
    exact k a _ (.inl rfl) e
  | ext φ => obtain ⟨p, ⟨o, e⟩, st⟩ := x; exact ⟨st _ _ p fun o q => k _ _ (.inl rfl) q, ⟨o, k _ _ (.inl rfl) e⟩, st⟩
theorem HOk.lt (x : HOk P w H h) (e : H a = some o) : a < h.objs.size := (x a o e).lt
theorem HOk.fresh (x : HOk P w H h) (e : h.objs.size ≤ a) : H a = none := by
  cases q : H a with
  | none => rfl
  | some u => exact absurd (Nat.lt_of_lt_of_le (x.lt q) e) (Nat.lt_irrefl _)
/-- every object of the heap is kept -/
theorem HOk.kept (x : HOk P w H h) (k : ∀ b u, h.get? b = some u → h'.get? b = some u) : HOk P w H h' := fun a o e =>
  (x a o e).stay (fun b u _ q => k b u q) (fun _ q => q) fun _ _ q => q
/-- a new object is laid and tracked -/
theorem HOk.laid (x : HOk P w H h) (k : ∀ b u, h.get? b = some u → h'.get? b = some u) (hp : h.objs.size ≤ a) (new : ObjOk P w (upd H a o) h' a o) : HOk P w (upd H a o) h' := fun b u e => by
  have hn := x.fresh hp
  by_cases hb : b = a
  · subst hb; rw [upd_same] at e; cases e; exact new
  · rw [upd_ne hb] at e
    exact (x b u e).stay (fun c v _ q => k c v q) (fun c q => by rw [upd_ne (ne_of_none q hn)]; exact q) fun c xs q => by rw [upd_ne (ne_of_none q hn)]; exact q
end

/-- what may be read as u: it is u, or a known u -/
def Rd (H : Hp) (a : Addr) (u : HO) : Prop := H a = some u ∨ ∃ o, H a = some (.frz o u)
theorem Rd.ok {P : Program} {w : World} {H : Hp} {h : Heap} {a : Addr} {u : HO} (r : Rd H a u) (x : HOk P w H h) : ObjOk P w H h a u := by
  rcases r with r | ⟨o, r⟩
  · exact x a u r
  · obtain ⟨_, q⟩ := x a _ r
    exact q
/-- what may be written -/
def Mut : Option HO → Prop
  | some (.lst _) => True
  | some (.dK _) => True
  | some (.dT _) => True
  | some (.set _ _) => True
  | some (.ins _ _ _) => True
  | some (.ext _) => True
  | _ => False
section
variable {P : Program} {w : World} {H : Hp} {h h' : Heap} {x e : Addr} {o' : HO}
/-- the object at e is changed: x itself, or the dict of the instance x -/
theorem HOk.write (ok : HOk P w H h) (mu : Mut (H x)) (he : e = x ∨ H e = some (.own x)) (k : ∀ b u, b ≠ e → h.get? b = some u → h'.get? b = some u) (heo : ∃ u, h'.get? e = some u)
    (new : ObjOk P w (upd H x o') h' x o') : HOk P w (upd H x o') h' := fun b u q => by
  have nown : ∀ c y, H c = some (.own y) → c ≠ x := fun c y r z => by subst z; rw [r] at mu; exact mu
  have ntup : ∀ c xs, H c = some (.tup xs) → c ≠ x := fun c xs r z => by subst z; rw [r] at mu; exact mu
  by_cases hb : b = x
  · subst hb; rw [upd_same] at q; cases q; exact new
  · rw [upd_ne hb] at q
    by_cases hbe : b = e
    · have q' : H b = some (.own x) := by
        rcases he with z | z
        · exact absurd (hbe.trans z) hb
        · rw [hbe]; exact z
      rw [q] at q'; cases q'
      obtain ⟨v, hv⟩ := heo
      exact ⟨v, by rw [hbe]; exact hv⟩
    · refine (ok b u q).stay (fun c v hc r => k c v ?_ r) (fun c r => by rw [upd_ne (nown c b r)]; exact r) fun c xs r => by rw [upd_ne (ntup c xs r)]; exact r
      rcases hc with rfl | hc
      · exact hbe
      · rintro rfl
        rcases he with z | z
        · exact nown c b hc z
        · rw [hc] at z; cases z; exact hb rfl
end

/-! ### kept unless tracked; of the frames at fs (the callers') the slots may change (an exception that passes writes there); of the records at ex (iterators) nothing is said -/
structure Un (fs ex : List Addr) (H H' : Hp) (h h' : Heap) : Prop where
  keep : ∀ b o, h.get? b = some o → H b = none → b ∉ fs → b ∉ ex → h'.get? b = some o
  slot : ∀ b o, h.get? b = some o → H b = none → b ∈ fs → b ∉ ex → ∃ sl, h'.get? b = some { o with slots := sl }
  free : ∀ b o, h.get? b = some o → H b = none → b ∉ ex → H' b = none
  there : ∀ b o, h.get? b = some o → b ∉ ex → ∃ o', h'.get? b = some o'
  tups : ∀ b xs, H b = some (.tup xs) → H' b = some (.tup xs)
  frzs : ∀ b o u, H b = some (.frz o u) → H' b = some (.frz o u)
  tbls : ∀ b ps, H b = some (.tbl ps) → ∃ more, H' b = some (.tbl (ps ++ more))
section
variable {fs fs' ex ex' : List Addr} {H H1 H2 : Hp} {h h1 h2 h' : Heap} {a x e : Addr} {o : HO}
theorem Un.any (u : Un fs ex H H1 h h1) {b : Addr} {ob : Obj} (q : h.get? b = some ob) (n : H b = none) (hx : b ∉ ex) : ∃ sl, h1.get? b = some { ob with slots := sl } := by
  by_cases hb : b ∈ fs
  · exact u.slot b ob q n hb hx
  · exact ⟨ob.slots, u.keep b ob q n hb hx⟩
theorem Un.kept (k : ∀ b u, h.get? b = some u → h'.get? b = some u) : Un fs ex H H h h' :=
  ⟨fun b ob q _ _ _ => k b ob q, fun b ob q _ _ _ => ⟨ob.slots, k b ob q⟩, fun _ _ _ n _ => n, fun b ob q _ => ⟨ob, k b ob q⟩, fun _ _ q => q, fun _ _ _ q => q, fun _ ps q => ⟨#[], by rw [q]; simp⟩⟩
theorem Un.refl : Un fs ex H H h h := Un.kept fun _ _ q => q
theorem Un.laid (k : ∀ b u, h.get? b = some u → h'.get? b = some u) (hp : h.objs.size ≤ a) (hn : H a = none) : Un fs ex H (upd H a o) h h' where
  keep := fun b u q _ _ _ => k b u q
  slot := fun b u q _ _ _ => ⟨u.slots, k b u q⟩
  free := fun b u q n _ => by rw [upd_ne (Nat.ne_of_lt (Nat.lt_of_lt_of_le (Heap.lt_size q) hp))]; exact n
  there := fun b u q _ => ⟨u, k b u q⟩
  tups := fun b xs q => by rw [upd_ne (ne_of_none q hn)]; exact q
  frzs := fun b u xs q => by rw [upd_ne (ne_of_none q hn)]; exact q
  tbls := fun b ps q => ⟨#[], by rw [upd_ne (ne_of_none q hn), q]; simp⟩
theorem Un.write (mu : Mut (H x)) (he : e = x ∨ H e = some (.own x)) (k : ∀ b u, b ≠ e → h.get? b = some u → h'.get? b = some u) (heo : ∃ u, h'.get? e = some u) : Un fs ex H (upd H x o) h h' := by
  have hx : ∀ b, H b = none → b ≠ x := fun b n z => by subst z; rw [n] at mu; exact mu
  have hb : ∀ b, H b = none → b ≠ e := fun b n z => by
    subst z
    rcases he with r | r
    · exact hx b n r
    · rw [n] at r; cases r
  have hm : ∀ b u, H b = some u → ¬ Mut (some u) → b ≠ x := fun b u q nm z => by subst z; rw [q] at mu; exact nm mu
  refine ⟨fun b u q n _ _ => k b u (hb b n) q, fun b u q n _ _ => ⟨u.slots, k b u (hb b n) q⟩, fun b u q n _ => by rw [upd_ne (hx b n)]; exact n, fun b u q _ => ?_,
    fun b xs q => by rw [upd_ne (hm b _ q fun z => z)]; exact q, fun b u xs q => by rw [upd_ne (hm b _ q fun z => z)]; exact q, fun b ps q => ⟨#[], by rw [upd_ne (hm b _ q fun z => z), q]; simp⟩⟩
  by_cases hbe : b = e
  · subst hbe; exact heo
  · exact ⟨u, k b u hbe q⟩
end

/-! ### the heap without what is tracked -/
def trk (h : Heap) (H : Hp) : List Addr := (List.range h.objs.size).filter fun a => (H a).isSome
def hidT (h : Heap) (H : Hp) : Heap := PySem.W.hideAll h (trk h H)
theorem hidT_size (h : Heap) (H : Hp) : (hidT h H).objs.size = h.objs.size := PySem.W.hideAll_size _ _
theorem hidT_get {h : Heap} {H : Hp} {b : Addr} {o : Obj} (e : h.get? b = some o) (n : H b = none) : (hidT h H).get? b = some o :=
  PySem.W.hideAll_get _ e fun hm => by
    have q : (H b).isSome = true := (List.mem_filter.mp hm).2
    rw [n] at q; simp at q
theorem of_hidT {h : Heap} {H : Hp} {b : Addr} {o : Obj} (e : (hidT h H).get? b = some o) : h.get? b = some o ∧ H b = none := by
  have e' : h.get? b = some o := PySem.W.of_hideAll (trk h H) e
  refine ⟨e', ?_⟩
  cases q : H b with
  | none => rfl
  | some x =>
    have hm : b ∈ trk h H := List.mem_filter.mpr ⟨List.mem_range.mpr (Heap.lt_size e'), by simp [q]⟩
    have z : (hidT h H).get? b = none := PySem.W.hideAll_none (trk h H) hm
    rw [z] at e; cases e

/-! ### OpenK's ledger, filled with every new object but one -/
end L2

namespace L2
open PySem PySem.Spec PyProof.Rows

/-- the module's facts, over the base: the heap at the law's entry without what is tracked there -/
structure Mod (K : PySem.W.Frag) (mg : Str → Option Value) (base : Heap) : Prop where
  kin : K.In base
  glob : base.Ns mainGlobals mg
  blt : ∃ mb, base.Ns builtinsNs mb ∧ ∀ x : Str, x ≠ "__name__" → mb x = bootBuiltins x
  nolimit : base.NoLimit

/-- the context: a def's body (or a comprehension's block) running. base: fixed through the whole law; s₀, H₀: the entry; outer: the frames whose slots others may change (a def's callers); stack: all frames that run;
   ex: iterators that were made ahead of the entry and are walked here (a comprehension's); fn: the names whose cells were made at the entry (a def: all; a comprehension's block: its own); calm: not within an except suite; pn: pins that every state bears; xe: what is wanted of an exception that leaves the code -/
structure Cx where
  prog : Program
  w : World
  K : PySem.W.Frag
  mg : Str → Option Value
  base : Heap
  A : Around
  N : List Str
  s₀ : Shared
  H₀ : Hp
  env : Env
  outer : List Env
  stack : List Env
  ex : List Addr
  fn : Str → Bool
  calm : Bool
  pn : List (Addr × Obj)
  xe : Value → Shared → Prop
/-- the callers' frames -/
def frs (l : List Env) : List Addr := l.filterMap (·.frame)
abbrev Cx.fs (X : Cx) : List Addr := frs X.outer

def Vis (sc : Scope) (x : Str) : Prop := sc.names.lookup x = some .local ∨ sc.names.lookup x = some .cell ∨ sc.names.lookup x = some .free
def Loc (sc : Scope) (x : Str) : Prop := sc.names.lookup x = some .local ∨ sc.names.lookup x = some .cell
def Look (env : Env) (h : Heap) (m : Str → Option Value) (x : Str) (u : Value) : Prop :=
  (env.kindOf x = some .local ∧ m x = some u) ∨ ((env.kindOf x = some .cell ∨ env.kindOf x = some .free) ∧ ∃ c, env.cells.lookup x = some c ∧ h.IsCell c (some u))

structure Cx.Ok (X : Cx) : Prop where
  mod : Mod X.K X.mg X.base
  kind : X.env.scope.kind = .function
  glob : X.env.globals = mainGlobals
  blt : X.env.builtins = builtinsNs
  above : X.s₀.heap.objs.size ≤ X.env.locals
  inj : ∀ x y c, X.env.cells.lookup x = some c → X.env.cells.lookup y = some c → x = y
  has : ∀ x, (X.env.kindOf x = some .cell ∨ X.env.kindOf x = some .free) → ∃ c, X.env.cells.lookup x = some c
  cab : ∀ x c, X.fn x = true → X.env.cells.lookup x = some c → X.s₀.heap.objs.size ≤ c
  hd : X.calm = true → X.A.handled = none
  frames : X.A.frames = some X.stack
  stk : X.stack = X.outer ∨ (X.stack = X.env :: X.outer ∧ X.env.frame = some X.env.locals)
  exf : ∀ b ∈ X.ex, b ≠ X.env.locals ∧ ∀ x c, X.env.cells.lookup x = some c → c ≠ b
  bs : ∀ b o, X.base.get? b = some o → X.s₀.heap.get? b = some o ∧ X.H₀ b = none
  bsz : X.base.objs.size ≤ X.s₀.heap.objs.size
  noex : ∀ b o, X.base.get? b = some o → b ∉ X.ex
  exfs : ∀ b ∈ X.ex, b ∉ X.fs
  funs : X.s₀.heap.FunFrames X.base X.outer
  frf : ∀ b ∈ X.fs, X.H₀ b = none

structure Inv (X : Cx) (pins : List (Addr × Obj)) (σ : List (Option V)) (H : Hp) (s : Shared) : Prop where
  ok : X.Ok
  os : s.os = X.s₀.os
  bare : AllBare s.gens
  base : Un X.fs X.ex X.H₀ H X.s₀.heap s.heap
  loc : ∃ m, s.heap.Ns X.env.locals m ∧ ∀ (i : Nat) (x : Str) (v : V), X.N[i]? = some x → σ[i]? = some (some v) → Vis X.env.scope x → ∃ u, RelV v u ∧ Look X.env s.heap m x u
  cell : ∀ x c, X.env.cells.lookup x = some c → ∃ v, s.heap.IsCell c v
  free : H X.env.locals = none
  freeC : ∀ x c, X.env.cells.lookup x = some c → H c = none
  pin : ∀ p ∈ X.pn ++ pins, s.heap.get? p.1 = some p.2 ∧ H p.1 = none ∧ p.1 ≠ X.env.locals ∧ p.1 ∉ X.fs ∧ ∀ v, p.2.data ≠ .cell v
  hok : HOk X.prog X.w H s.heap
  len : σ.length = X.N.length

section
variable {X : Cx} {pins : List (Addr × Obj)} {σ : List (Option V)} {H H' : Hp} {s : Shared} {h' : Heap}

theorem Cx.Ok.nofr (ok : X.Ok) {b : Addr} {o : Obj} (e : X.base.get? b = some o) : b ∉ X.fs := fun hb => by
  have := (ok.funs.mem hb).1
  rw [e] at this; cases this
theorem Inv.bs (I : Inv X pins σ H s) : ∀ b o, X.base.get? b = some o → s.heap.get? b = some o ∧ H b = none := fun b o e =>
  ⟨I.base.keep b o (I.ok.bs b o e).1 (I.ok.bs b o e).2 (I.ok.nofr e) (I.ok.noex b o e), I.base.free b o (I.ok.bs b o e).1 (I.ok.bs b o e).2 (I.ok.noex b o e)⟩
theorem Inv.bk (I : Inv X pins σ H s) : ∀ b o, X.base.get? b = some o → s.heap.get? b = some o := fun b o e => (I.bs b o e).1
theorem Inv.mod (I : Inv X pins σ H s) : Mod X.K X.mg X.base := I.ok.mod
theorem Inv.kIn (I : Inv X pins σ H s) : X.K.In s.heap := I.ok.mod.kin.keeps I.bk
theorem Inv.lt (I : Inv X pins σ H s) : X.env.locals < s.heap.objs.size := let ⟨_, hn, _⟩ := I.loc; hn.lt
theorem Inv.sz (I : Inv X pins σ H s) : X.s₀.heap.objs.size ≤ s.heap.objs.size := Nat.le_trans I.ok.above (Nat.le_of_lt I.lt)
theorem Inv.nofs (I : Inv X pins σ H s) {a : Addr} (h : s.heap.objs.size ≤ a) : a ∉ X.fs := fun hb => by
  obtain ⟨_, o, ho, _⟩ := I.ok.funs.mem hb
  exact absurd (Nat.lt_of_lt_of_le (Heap.lt_size ho) (Nat.le_trans I.sz h)) (Nat.lt_irrefl _)
theorem Inv.cne (I : Inv X pins σ H s) : ∀ x c, X.env.cells.lookup x = some c → c ≠ X.env.locals := fun x c e z => by
  obtain ⟨v, o, ho, hd⟩ := I.cell x c e
  obtain ⟨m, ⟨o', es, ep, ho', hd', _⟩, _⟩ := I.loc
  rw [z, ho'] at ho; cases ho; rw [hd'] at hd; cases hd
theorem Inv.funs (I : Inv X pins σ H s) : s.heap.FunFrames X.base X.outer := by
  have all : ∀ (l : List Env), (∀ b ∈ frs l, b ∈ X.fs) → X.s₀.heap.FunFrames X.base l → s.heap.FunFrames X.base l := by
    intro l
    induction l with
    | nil => intro _ _; trivial
    | cons env r ih =>
      intro hs hl
      obtain ⟨hk, ⟨L, o, hf, hn, ho, hd⟩, hr⟩ := hl
      have hL : L ∈ X.fs := hs L (by unfold frs; rw [List.filterMap_cons, hf]; exact List.mem_cons_self)
      obtain ⟨sl, e⟩ := I.base.slot L o ho (I.ok.frf L hL) hL fun z => I.ok.exfs L z hL
      exact ⟨hk, ⟨L, _, hf, hn, e, hd⟩, ih (fun b hb => hs b (by unfold frs; rw [List.filterMap_cons, hf]; exact List.mem_cons_of_mem _ hb)) hr⟩
  exact all X.outer (fun _ hb => hb) I.ok.funs

/-- the frames that run, for a call -/
theorem Inv.stack (I : Inv X pins σ H s) : s.heap.FunFrames X.base X.stack := by
  rcases I.ok.stk with e | ⟨e, hf⟩
  · rw [e]; exact I.funs
  · rw [e]
    obtain ⟨m, hn, _⟩ := I.loc
    refine .cons (by rw [I.ok.kind]; decide) hf hn ?_ I.funs
    exact Heap.get?_none_of_le (Nat.le_trans I.ok.bsz I.ok.above)
theorem Inv.stkSub (I : Inv X pins σ H s) : ∀ b ∈ frs X.stack, b ∈ X.env.locals :: X.fs := fun b hb => by
  rcases I.ok.stk with e | ⟨e, hf⟩
  · rw [e] at hb; exact List.mem_cons_of_mem _ hb
  · rw [e] at hb
    unfold frs at hb
    rw [List.filterMap_cons, hf] at hb
    exact hb
theorem Inv.stkFree (I : Inv X pins σ H s) : ∀ b ∈ frs X.stack, H b = none := fun b hb => by
  rcases List.mem_cons.mp (I.stkSub b hb) with e | hb
  · rw [e]; exact I.free
  · obtain ⟨_, o, ho, _⟩ := I.ok.funs.mem hb
    exact I.base.free b o ho (I.ok.frf b hb) fun z => I.ok.exfs b z hb

/-- THE STEP: the untracked objects but the frame and the records at ch are kept (the callers' frames up to slots), the frame's map is kept, the new abstract heap is held -/
theorem Inv.step {g' : Array GenState} {t' : Nat} {d' : Drawn} {ch : List Addr} (I : Inv X pins σ H s)
    (hch : ∀ b ∈ ch, (b ∈ X.ex ∨ X.s₀.heap.objs.size ≤ b) ∧ b ≠ X.env.locals ∧ (∀ x c, X.env.cells.lookup x = some c → c ≠ b) ∧ ∀ p ∈ X.pn ++ pins, p.1 ≠ b)
    (keep : ∀ b o, b ≠ X.env.locals → b ∉ X.fs → b ∉ ch → s.heap.get? b = some o → H b = none → h'.get? b = some o)
    (slot : ∀ b o, b ≠ X.env.locals → b ∈ X.fs → b ∉ ch → s.heap.get? b = some o → H b = none → ∃ sl, h'.get? b = some { o with slots := sl }) (free : ∀ b o, b ∉ ch → s.heap.get? b = some o → H b = none → H' b = none)
    (there : ∀ b o, b ∉ ch → s.heap.get? b = some o → ∃ o', h'.get? b = some o')
    (tups : ∀ b xs, H b = some (.tup xs) → H' b = some (.tup xs)) (frzs : ∀ b o u, H b = some (.frz o u) → H' b = some (.frz o u)) (tbls : ∀ b ps, H b = some (.tbl ps) → ∃ more, H' b = some (.tbl (ps ++ more)))
    (ns : ∀ m, s.heap.Ns X.env.locals m → h'.Ns X.env.locals m) (hok : HOk X.prog X.w H' h') (hg : AllBare g') :
    Inv X pins σ H' { s with heap := h', gens := g', drawn := d', toks := t' } := by
  have neL : ∀ b o, X.s₀.heap.get? b = some o → b ≠ X.env.locals := fun b o e => Nat.ne_of_lt (Nat.lt_of_lt_of_le (Heap.lt_size e) I.ok.above)
  have neC : ∀ b o, X.s₀.heap.get? b = some o → b ∉ X.ex → b ∉ ch := fun b o e hx hb => by
    rcases (hch b hb).1 with z | z
    · exact hx z
    · exact absurd (Nat.lt_of_lt_of_le (Heap.lt_size e) z) (Nat.lt_irrefl _)
  have cellK : ∀ x c, X.env.cells.lookup x = some c → ∀ v, s.heap.IsCell c v → h'.IsCell c v := fun x c e v ⟨o, ho, hd⟩ => by
    have nch : c ∉ ch := fun z => (hch c z).2.2.1 x c e rfl
    by_cases hc : c ∈ X.fs
    · obtain ⟨sl, q⟩ := slot c o (I.cne x c e) hc nch ho (I.freeC x c e)
      exact ⟨_, q, hd⟩
    · exact ⟨o, keep c o (I.cne x c e) hc nch ho (I.freeC x c e), hd⟩
  refine ⟨I.ok, I.os, hg, ⟨fun b o e n hb hx => ?_, fun b o e n hb hx => ?_, fun b o e n hx => ?_, fun b o e hx => ?_, fun b xs e => tups b xs (I.base.tups b xs e), fun b o xs e => frzs b o xs (I.base.frzs b o xs e), fun b ps e => ?_⟩, ?_, fun x c e => ?_, ?_, fun x c e => ?_, fun p hp => ?_, hok, I.len⟩
  · exact keep b o (neL b o e) hb (neC b o e hx) (I.base.keep b o e n hb hx) (I.base.free b o e n hx)
  · obtain ⟨sl, e1⟩ := I.base.slot b o e n hb hx
    obtain ⟨sl', e2⟩ := slot b _ (neL b o e) hb (neC b o e hx) e1 (I.base.free b o e n hx)
    exact ⟨sl', e2⟩
  · obtain ⟨o', e1⟩ := I.base.there b o e hx
    exact free b o' (neC b o e hx) e1 (I.base.free b o e n hx)
  · obtain ⟨o', e1⟩ := I.base.there b o e hx
    exact there b o' (neC b o e hx) e1
  · obtain ⟨m1, e1⟩ := I.base.tbls b ps e
    obtain ⟨m2, e2⟩ := tbls b _ e1
    exact ⟨m1 ++ m2, by rw [e2, Array.append_assoc]⟩
  · obtain ⟨m, hn, hl⟩ := I.loc
    refine ⟨m, ns m hn, fun i x v e1 e2 e3 => ?_⟩
    obtain ⟨u, r, l⟩ := hl i x v e1 e2 e3
    refine ⟨u, r, ?_⟩
    rcases l with l | ⟨k, c, e, z⟩
    · exact .inl l
    · exact .inr ⟨k, c, e, cellK x c e _ z⟩
  · obtain ⟨v, z⟩ := I.cell x c e
    exact ⟨v, cellK x c e v z⟩
  · obtain ⟨m, ⟨o, _, _, ho, _⟩, _⟩ := I.loc
    exact free _ o (fun z => (hch _ z).2.1 rfl) ho I.free
  · obtain ⟨v, o, ho, hd⟩ := I.cell x c e
    exact free c o (fun z => (hch c z).2.2.1 x c e rfl) ho (I.freeC x c e)
  · obtain ⟨e, n, ne, nf, d⟩ := I.pin p hp
    have nch : p.1 ∉ ch := fun z => (hch p.1 z).2.2.2 p hp rfl
    exact ⟨keep p.1 p.2 ne nf nch e n, free p.1 p.2 nch e n, ne, nf, d⟩
/-- .. where the frame's own object is kept too -/
theorem Inv.un {t' : Nat} (I : Inv X pins σ H s) (u : Un X.fs [] H H' s.heap h') (hok : HOk X.prog X.w H' h') : Inv X pins σ H' { s with heap := h', toks := t' } := by
  obtain ⟨m, ⟨o, es, ep, ho, r⟩, _⟩ := id I.loc
  obtain ⟨sl, hL⟩ := u.any ho I.free (by simp)
  exact I.step (g' := s.gens) (d' := s.drawn) (ch := []) (fun _ z => nomatch z) (fun b o _ hb _ e n => u.keep b o e n hb (by simp)) (fun b o _ hb _ e n => u.slot b o e n hb (by simp)) (fun b o _ e n => u.free b o e n (by simp)) (fun b o _ e => u.there b o e (by simp)) u.tups u.frzs u.tbls (fun m' hm => by
    obtain ⟨o', es', ep', ho', r'⟩ := hm
    rw [ho] at ho'; cases ho'
    exact ⟨_, es', ep', hL, r'⟩) hok I.bare
/-- behind a call (or a comprehension's block): the slots of this frame may have changed too, the records at ch may have turned -/
theorem Inv.call {g' : Array GenState} {t' : Nat} {d' : Drawn} {ch : List Addr} (I : Inv X pins σ H s) (u : Un (frs X.stack) ch H H' s.heap h') (hok : HOk X.prog X.w H' h') (hg : AllBare g')
    (hch : ∀ b ∈ ch, (b ∈ X.ex ∨ X.s₀.heap.objs.size ≤ b) ∧ b ≠ X.env.locals ∧ (∀ x c, X.env.cells.lookup x = some c → c ≠ b) ∧ ∀ p ∈ X.pn ++ pins, p.1 ≠ b) :
    Inv X pins σ H' { s with heap := h', gens := g', drawn := d', toks := t' } := by
  obtain ⟨m, ⟨o, es, ep, ho, r⟩, _⟩ := id I.loc
  obtain ⟨sl, hL⟩ := u.any ho I.free fun z => (hch _ z).2.1 rfl
  exact I.step (ch := ch) hch (fun b o hL hb hc e n => u.keep b o e n (fun z => (List.mem_cons.mp (I.stkSub b z)).elim hL hb) hc) (fun b o _ _ hc e n => u.any e n hc) (fun b o hc e n => u.free b o e n hc) (fun b o hc e => u.there b o e hc) u.tups u.frzs u.tbls (fun m' hm => by
    obtain ⟨o', es', ep', ho', r'⟩ := hm
    rw [ho] at ho'; cases ho'
    exact ⟨_, es', ep', hL, r'⟩) hok hg
/-- an untracked record of ours (an iterator) has turned -/
theorem Inv.turned {t' : Nat} {it : Addr} (I : Inv X pins σ H s) (k : ∀ b o, b ≠ it → s.heap.get? b = some o → h'.get? b = some o) (hn : H it = none) (hL : it ≠ X.env.locals)
    (h1 : it ∈ X.ex ∨ X.s₀.heap.objs.size ≤ it) (h2 : ∀ x c, X.env.cells.lookup x = some c → c ≠ it) (h3 : ∀ p ∈ X.pn ++ pins, p.1 ≠ it) : Inv X pins σ H { s with heap := h', toks := t' } := by
  have nit : ∀ b u, H b = some u → b ≠ it := fun b u e z => by rw [z, hn] at e; cases e
  refine I.step (g' := s.gens) (d' := s.drawn) (ch := [it]) (fun b hb => ?_) (fun b o _ _ hc e _ => k b o (fun z => hc (by simp [z])) e) (fun b o _ _ hc e _ => ⟨o.slots, k b o (fun z => hc (by simp [z])) e⟩) (fun _ _ _ _ n => n)
    (fun b o hc e => ⟨o, k b o (fun z => hc (by simp [z])) e⟩) (fun _ _ e => e) (fun _ _ _ e => e) (fun b ps e => ⟨#[], by rw [e]; simp⟩) (fun m hm => ?_) (fun b u e => ?_) I.bare
  · have e : b = it := by simpa using hb
    subst e
    exact ⟨h1, hL, h2, h3⟩
  · obtain ⟨o, es, ep, ho, r⟩ := hm
    exact ⟨o, es, ep, k _ o (Ne.symm hL) ho, r⟩
  · refine (I.hok b u e).stay (fun c v hc q => k c v ?_ q) (fun _ q => q) fun _ _ q => q
    rcases hc with z | z
    · rw [z]; exact nit b u e
    · exact nit c _ z
theorem Inv.tok (I : Inv X pins σ H s) (t : Nat) : Inv X pins σ H { s with toks := t } := I.un (h' := s.heap) (t' := t) Un.refl I.hok
/-- all objects kept -/
theorem Inv.kept {t' : Nat} (I : Inv X pins σ H s) (k : ∀ b u, s.heap.get? b = some u → h'.get? b = some u) : Inv X pins σ H { s with heap := h', toks := t' } := I.un (Un.kept k) (I.hok.kept k)
/-- a new object laid and tracked -/
theorem Inv.laid {a : Addr} {o : HO} {t' : Nat} (I : Inv X pins σ H s) (k : ∀ b u, s.heap.get? b = some u → h'.get? b = some u) (hp : s.heap.objs.size ≤ a) (new : ObjOk X.prog X.w (upd H a o) h' a o) :
    Inv X pins σ (upd H a o) { s with heap := h', toks := t' } := I.un (Un.laid k hp (I.hok.fresh hp)) (I.hok.laid k hp new)
/-- an object written -/
theorem Inv.write {x e : Addr} {o : HO} {t' : Nat} (I : Inv X pins σ H s) (mu : Mut (H x)) (he : e = x ∨ H e = some (.own x)) (k : ∀ b u, b ≠ e → s.heap.get? b = some u → h'.get? b = some u) (heo : ∃ u, h'.get? e = some u)
    (new : ObjOk X.prog X.w (upd H x o) h' x o) : Inv X pins σ (upd H x o) { s with heap := h', toks := t' } := I.un (Un.write mu he k heo) (I.hok.write mu he k heo new)
/-- forgetting slots, pins -/
theorem Inv.weak {σ' : List (Option V)} (I : Inv X pins σ H s) (hl : σ'.length = σ.length) (w : ∀ (i : Nat) v, σ'[i]? = some (some v) → σ[i]? = some (some v)) : Inv X pins σ' H s :=
  ⟨I.ok, I.os, I.bare, I.base, let ⟨m, hn, hl'⟩ := I.loc; ⟨m, hn, fun i x v e1 e2 e3 => hl' i x v e1 (w i v e2) e3⟩, I.cell, I.free, I.freeC, I.pin, I.hok, hl.trans I.len⟩
theorem Inv.pins_of {pins' : List (Addr × Obj)} (I : Inv X pins σ H s) (h : ∀ p ∈ pins', s.heap.get? p.1 = some p.2 ∧ H p.1 = none ∧ p.1 ≠ X.env.locals ∧ p.1 ∉ X.fs ∧ ∀ v, p.2.data ≠ .cell v) : Inv X pins' σ H s :=
  ⟨I.ok, I.os, I.bare, I.base, I.loc, I.cell, I.free, I.freeC, fun p hp => (List.mem_append.mp hp).elim (fun z => I.pin p (List.mem_append_left _ z)) (h p), I.hok, I.len⟩

theorem nodup_ix {N : List Str} (hN : N.Nodup) {i j : Nat} {x : Str} (a : N[i]? = some x) (b : N[j]? = some x) : i = j := by
  obtain ⟨h1, e1⟩ := List.getElem?_eq_some_iff.mp a
  obtain ⟨h2, e2⟩ := List.getElem?_eq_some_iff.mp b
  exact (List.getElem_inj hN).mp (e1.trans e2.symm)

/-- a name is stored; what changed -/
theorem store_ok2 {M : Model} {A : Around} {E : Value → Shared → Prop} {i : Nat} {x : Str} {v : V} {u : Value} {Q : Unit → Shared → Prop} (I : Inv X pins σ H s) (hN : X.N.Nodup) (hi : X.N[i]? = some x) (hx : Loc X.env.scope x) (r : RelV v u)
    (h : ∀ s', Inv X pins (σ.set i (some v)) H s' → (∃ a, Heap.SameBut a s.heap s'.heap ∧ (a = X.env.locals ∨ X.env.cells.lookup x = some a)) → Q () s') (hf : X.fn x = true ∨ X.env.scope.names.lookup x = some .local := by first | exact .inl rfl | exact .inr rfl | assumption) : wpAny M A (storeName X.env x u) Q E s := by
  obtain ⟨m, hn, hl⟩ := id I.loc
  have hcls : (X.env.scope.kind == .class || (X.env.scope.kind == .module && X.env.locals != X.env.globals)) = false := by rw [I.ok.kind]; rfl
  have hiσ : i < σ.length := by rw [I.len]; exact (List.getElem?_eq_some_iff.mp hi).1
  have cne := I.cne
  have tracked : ∀ {a : Addr} {h' : Heap}, (∃ o, s.heap.get? a = some o ∧ H a = none) → Heap.SameBut a s.heap h' → HOk X.prog X.w H h' := fun {a h'} ha hs b ob e => by
    obtain ⟨_, _, hfree⟩ := ha
    refine (I.hok b ob e).stay (fun c w' hc q => (hs.2 c ?_).trans q) (fun _ q => q) fun _ _ q => q
    rintro rfl
    rcases hc with rfl | hc
    · rw [hfree] at e; cases e
    · rw [hfree] at hc; cases hc
  rcases hx with hk | hk
  · refine wpAny_storeName_local hk hn (fun h' hn' hs => ?_) hcls
    obtain ⟨oL, _, _, hoL, _⟩ := id hn
    refine h _ ⟨I.ok, I.os, I.bare, ⟨fun b o e n hb hx => ?_, fun b o e n hb hx => ?_, I.base.free, fun b o e hx => ?_, I.base.tups, I.base.frzs, I.base.tbls⟩, ⟨_, hn', fun j y v' e1 e2 e3 => ?_⟩, fun y c e => ?_, I.free, I.freeC, fun p hp => ?_, tracked ⟨oL, hoL, I.free⟩ hs, by simpa using I.len⟩ ⟨_, hs, .inl rfl⟩
    · exact (hs.2 b (Nat.ne_of_lt (Nat.lt_of_lt_of_le (Heap.lt_size e) I.ok.above))).trans (I.base.keep b o e n hb hx)
    · obtain ⟨sl, e1⟩ := I.base.slot b o e n hb hx
      exact ⟨sl, (hs.2 b (Nat.ne_of_lt (Nat.lt_of_lt_of_le (Heap.lt_size e) I.ok.above))).trans e1⟩
    · obtain ⟨o', e1⟩ := I.base.there b o e hx
      exact ⟨o', (hs.2 b (Nat.ne_of_lt (Nat.lt_of_lt_of_le (Heap.lt_size e) I.ok.above))).trans e1⟩
    · by_cases hj : j = i
      · subst hj
        rw [hi] at e1; cases e1
        rw [List.getElem?_set_self hiσ] at e2
        cases e2
        exact ⟨u, r, .inl ⟨hk, by simp⟩⟩
      · rw [List.getElem?_set_ne (Ne.symm hj)] at e2
        obtain ⟨u', r', q⟩ := hl j y v' e1 e2 e3
        refine ⟨u', r', ?_⟩
        rcases q with ⟨k, e⟩ | ⟨k, c, e, z⟩
        · refine .inl ⟨k, ?_⟩
          have : y ≠ x := fun e => hj (nodup_ix hN e1 (e ▸ hi))
          simp [this, e]
        · exact .inr ⟨k, c, e, z.sameBut hs (cne y c e)⟩
    · obtain ⟨w', z⟩ := I.cell y c e
      exact ⟨w', z.sameBut hs (cne y c e)⟩
    · obtain ⟨e, n, ne, nf, d⟩ := I.pin p hp
      exact ⟨(hs.2 p.1 ne).trans e, n, ne, nf, d⟩
  · have hfn : X.fn x = true := by
      rcases hf with z | z
      · exact z
      · rw [z] at hk; cases hk
    obtain ⟨c, hc⟩ := I.ok.has x (.inl hk)
    obtain ⟨w', z⟩ := I.cell x c hc
    refine wpAny_storeName_cell I.ok.kind hk hc z (fun h' hc' hs => ?_)
    obtain ⟨oc, hoc, hocd⟩ := id z
    refine h { s with heap := h' } ⟨I.ok, I.os, I.bare, ⟨fun b o e n hb hx => ?_, fun b o e n hb hx => ?_, I.base.free, fun b o e hx => ?_, I.base.tups, I.base.frzs, I.base.tbls⟩, ⟨m, hn.sameBut hs (Ne.symm (cne x c hc)), fun j y v' e1 e2 e3 => ?_⟩, fun y c' e => ?_, I.free, I.freeC, fun p hp => ?_, tracked ⟨oc, hoc, I.freeC x c hc⟩ hs, by simpa using I.len⟩ ⟨c, hs, .inr hc⟩
    · exact (hs.2 b (Nat.ne_of_lt (Nat.lt_of_lt_of_le (Heap.lt_size e) (I.ok.cab x c hfn hc)))).trans (I.base.keep b o e n hb hx)
    · obtain ⟨sl, e1⟩ := I.base.slot b o e n hb hx
      exact ⟨sl, (hs.2 b (Nat.ne_of_lt (Nat.lt_of_lt_of_le (Heap.lt_size e) (I.ok.cab x c hfn hc)))).trans e1⟩
    · obtain ⟨o', e1⟩ := I.base.there b o e hx
      exact ⟨o', (hs.2 b (Nat.ne_of_lt (Nat.lt_of_lt_of_le (Heap.lt_size e) (I.ok.cab x c hfn hc)))).trans e1⟩
    · by_cases hj : j = i
      · subst hj
        rw [hi] at e1; cases e1
        rw [List.getElem?_set_self hiσ] at e2
        cases e2
        exact ⟨u, r, .inr ⟨.inl hk, c, hc, hc'⟩⟩
      · rw [List.getElem?_set_ne (Ne.symm hj)] at e2
        obtain ⟨u', r', q⟩ := hl j y v' e1 e2 e3
        refine ⟨u', r', ?_⟩
        rcases q with q | ⟨k, c', e, z'⟩
        · exact .inl q
        · refine .inr ⟨k, c', e, z'.sameBut hs ?_⟩
          rintro rfl
          exact hj (nodup_ix hN e1 (I.ok.inj _ _ _ e hc ▸ hi))
    · by_cases hcc : c' = c
      · subst hcc; exact ⟨_, hc'⟩
      · obtain ⟨w2, z2⟩ := I.cell y c' e
        exact ⟨w2, z2.sameBut hs hcc⟩
    · obtain ⟨e, n, ne, nf, d⟩ := I.pin p hp
      refine ⟨(hs.2 p.1 ?_).trans e, n, ne, nf, d⟩
      intro q
      rw [q, hoc] at e
      have q' : oc = p.2 := Option.some.inj e
      exact d w' (by rw [← q']; exact hocd)
theorem store_ok {M : Model} {A : Around} {E : Value → Shared → Prop} {i : Nat} {x : Str} {v : V} {u : Value} {Q : Unit → Shared → Prop} (I : Inv X pins σ H s) (hN : X.N.Nodup) (hi : X.N[i]? = some x) (hx : Loc X.env.scope x) (r : RelV v u)
    (h : ∀ s', Inv X pins (σ.set i (some v)) H s' → Q () s') (hf : X.fn x = true ∨ X.env.scope.names.lookup x = some .local := by first | exact .inl rfl | exact .inr rfl | assumption) : wpAny M A (storeName X.env x u) Q E s :=
  store_ok2 I hN hi hx r (fun s' I' _ => h s' I') hf
/-- behind a call or a block, the state as it is -/
theorem Inv.call' {s' : Shared} {ch : List Addr} (I : Inv X pins σ H s) (ho : s'.os = s.os) (u : Un (frs X.stack) ch H H' s.heap s'.heap) (hok : HOk X.prog X.w H' s'.heap) (hg : AllBare s'.gens)
    (hch : ∀ b ∈ ch, (b ∈ X.ex ∨ X.s₀.heap.objs.size ≤ b) ∧ b ≠ X.env.locals ∧ (∀ x c, X.env.cells.lookup x = some c → c ≠ b) ∧ ∀ p ∈ X.pn ++ pins, p.1 ≠ b) : Inv X pins σ H' s' := by
  obtain ⟨h', g', d', t', o'⟩ := s'
  have e : o' = s.os := ho
  subst e
  exact I.call (g' := g') (t' := t') (d' := d') u hok hg hch
end

/-! ### the judgements -/
/-- an exception: its class, its own dict's address (where it has one), the abstract heap behind it -/
abbrev XK := Value → Option Addr → Hp → Prop
abbrev St := List (Option V)
abbrev VK := V → Hp → Prop
/-- an expression's reading; a test's; an argument list's -/
abbrev TE := St → Hp → VK → Prop
abbrev TT := St → Hp → (Bool → Hp → Prop) → Prop
abbrev TA := St → Hp → (List V → Hp → Prop) → Prop
/-- what is wanted behind a statement -/
structure Ends where
  nx : St → Hp → Prop
  rt : VK
  bk : St → Hp → Prop := fun _ _ => False
  ct : St → Hp → Prop := fun _ _ => False
abbrev TS := Ends → St → Hp → Prop

def EP (X : Cx) (pins : List (Addr × Obj)) (σ : St) (Q : VK) (u : Value) (s' : Shared) : Prop := ∃ v H', Inv X pins σ H' s' ∧ RelV v u ∧ Q v H'
def TP (X : Cx) (pins : List (Addr × Obj)) (σ : St) (Q : Bool → Hp → Prop) (b : Bool) (s' : Shared) : Prop := ∃ H', Inv X pins σ H' s' ∧ Q b H'
def AP (X : Cx) (pins : List (Addr × Obj)) (σ : St) (Q : List V → Hp → Prop) (us : List Value) (s' : Shared) : Prop := ∃ vs H', Inv X pins σ H' s' ∧ Vals vs us ∧ Q vs H'
def SP (X : Cx) (pins : List (Addr × Obj)) (D : Ends) (f : Flow) (s' : Shared) : Prop :=
  match f with
  | .next => ∃ σ' H', Inv X pins σ' H' s' ∧ D.nx σ' H'
  | .brk => ∃ σ' H', Inv X pins σ' H' s' ∧ D.bk σ' H'
  | .cont => ∃ σ' H', Inv X pins σ' H' s' ∧ D.ct σ' H'
  | .ret u => ∃ v σ' H', Inv X pins σ' H' s' ∧ RelV v u ∧ D.rt v H'

def PE (X : Cx) (e : Expr) (t : TE) : Prop :=
  ∀ (pins : List (Addr × Obj)) (s : Shared) (σ : St) (H : Hp) (Q : VK), Inv X pins σ H s → t σ H Q → wpAny (model X.prog X.w) X.A (eval e X.env) (EP X pins σ Q) X.xe s
def PT (X : Cx) (e : Expr) (t : TT) : Prop :=
  ∀ (pins : List (Addr × Obj)) (s : Shared) (σ : St) (H : Hp) (Q : Bool → Hp → Prop), Inv X pins σ H s → t σ H Q → wpAny (model X.prog X.w) X.A (isTrue e X.env (eval e X.env)) (TP X pins σ Q) X.xe s
/-- a test whatever its 'whole' is (and, or) -/
def PW (X : Cx) (e : Expr) (t : TT) : Prop :=
  ∀ (whole : Sem Value) (pins : List (Addr × Obj)) (s : Shared) (σ : St) (H : Hp) (Q : Bool → Hp → Prop), Inv X pins σ H s → t σ H Q → wpAny (model X.prog X.w) X.A (isTrue e X.env whole) (TP X pins σ Q) X.xe s
theorem PW.pt {X : Cx} {e : Expr} {t : TT} (h : PW X e t) : PT X e t := h _
/-- an argument list (no star), from the left -/
def PA (X : Cx) (es : List Expr) (t : TA) : Prop :=
  ∀ (pos : Pos) (pins : List (Addr × Obj)) (s : Shared) (σ : St) (H : Hp) (Q : List V → Hp → Prop), Inv X pins σ H s → t σ H Q → wpAny (model X.prog X.w) X.A (spliced (backTo pos (starEach es X.env))) (AP X pins σ Q) X.xe s
def PS (X : Cx) (st : Stmt) (t : TS) : Prop :=
  ∀ (pins : List (Addr × Obj)) (s : Shared) (σ : St) (H : Hp) (D : Ends), Inv X pins σ H s → t D σ H → wpAny (model X.prog X.w) X.A (exec st X.env) (SP X pins D) X.xe s
def PSs (X : Cx) (st : List Stmt) (t : TS) : Prop :=
  ∀ (pins : List (Addr × Obj)) (s : Shared) (σ : St) (H : Hp) (D : Ends), Inv X pins σ H s → t D σ H → wpAny (model X.prog X.w) X.A (execs st X.env) (SP X pins D) X.xe s
/-- weaken the end -/
theorem thn {α : Type} {t : Sem α} {Q Q' : α → Shared → Prop} {M : Model} {A : Around} {E : Value → Shared → Prop} {s : Shared} (h : wpAny M A t Q E s) (hQ : ∀ a s, Q a s → Q' a s) : wpAny M A t Q' E s := wpAny_mono h hQ fun _ _ x => x
end L2

namespace L2
open PySem PySem.Spec PyProof.Rows
section
variable {X : Cx}

/-! ### names and constants -/
def tVar (i : Nat) : TE := fun σ H Q => ∃ v, σ[i]? = some (some v) ∧ Q v H
def tC (v : V) : TE := fun _ H Q => Q v H
theorem pe_var {i : Nat} {x : Str} {pos : Pos} (hN : X.N[i]? = some x) (hv : Vis X.env.scope x) (hd : (x == ("__debug__" : Str)) = false := by decide) (hcd : (x == ("__classdict__" : Str)) = false := by decide) : PE X (.Name x pos) (tVar i) := by
  intro pins s σ H Q I h
  obtain ⟨v, e, h⟩ := h
  obtain ⟨m, hn, hl⟩ := I.loc
  obtain ⟨u, r, l⟩ := hl i x v hN e hv
  have fin : EP X pins σ Q u s := ⟨v, H, I, r, h⟩
  rcases l with ⟨hk, hm⟩ | ⟨hk, c, hc, hcell⟩
  · exact wpAny_Name (wpAny_loadName_local I.ok.kind hk hn hm fin) hd
  · rcases hk with hk | hk
    · exact wpAny_Name (wpAny_loadName_cell I.ok.kind hk hc hcell fin) hd
    · exact wpAny_Name (wpAny_loadName_free I.ok.kind hk hc hcell fin hcd) hd
theorem pe_int {i j pos} : PE X (.Constant (.int i) j pos) (tC (.int i)) := fun _ _ _ H _ I h => wpAny_Constant_int ⟨.int i, H, I.tok _, ⟨_, rfl⟩, h⟩
theorem pe_bl {b j pos} : PE X (.Constant (.bool b) j pos) (tC (.bl b)) := fun _ _ _ H _ I h => Constant_bool ⟨.bl b, H, I, rfl, h⟩
theorem pe_str {x j pos} : PE X (.Constant (.str x) j pos) (tC (.str x)) := fun _ _ _ H _ I h => Calls.Constant_str ⟨.str x, H, I.tok _, ⟨_, rfl⟩, h⟩

/-- a global name of the def -/
def Gl (X : Cx) (x : Str) : Prop := X.env.kindOf x = some .globalImplicit
theorem ld_glob {E : Value → Shared → Prop} {pins : List (Addr × Obj)} {s : Shared} {σ : St} {H : Hp} {x : Str} {u : Value} {pos : Pos} {Q : Value → Shared → Prop} (I : Inv X pins σ H s) (hg : Gl X x) (hm : X.mg x = some u) (h : Q u s)
    (hd : (x == ("__debug__" : Str)) = false := by decide) : wpAny (model X.prog X.w) X.A (eval (.Name x pos) X.env) Q E s :=
  Calls.Name_function_global I.ok.kind hg (Calls.loadGlobal_global (by rw [I.ok.glob]; exact I.mod.glob.keeps I.bk) hm h) hd
theorem ld_blt {E : Value → Shared → Prop} {pins : List (Addr × Obj)} {s : Shared} {σ : St} {H : Hp} {x : Str} {u : Value} {pos : Pos} {Q : Value → Shared → Prop} (I : Inv X pins σ H s) (hg : Gl X x) (hm : X.mg x = none) (hv : bootBuiltins x = some u) (h : Q u s)
    (hn : x ≠ "__name__" := by decide) (hd : (x == ("__debug__" : Str)) = false := by decide) : wpAny (model X.prog X.w) X.A (eval (.Name x pos) X.env) Q E s := by
  obtain ⟨mb, h1, h2⟩ := I.mod.blt
  exact Calls.Name_function_global I.ok.kind hg (Calls.loadGlobal_builtin (by rw [I.ok.glob]; exact I.mod.glob.keeps I.bk) hm (by rw [I.ok.blt]; exact h1.keeps I.bk) ((h2 x hn).trans hv) h) hd
/-- a module's constant, a class, a function, as a value -/
theorem pe_glob {x : Str} {v : V} {u : Value} {pos : Pos} (hg : Gl X x) (hm : X.mg x = some u) (r : RelV v u) (hd : (x == ("__debug__" : Str)) = false := by decide) : PE X (.Name x pos) (tC v) :=
  fun _ _ _ H _ I h => ld_glob I hg hm ⟨v, H, I, r, h⟩ hd
theorem pe_bltn {x : Str} {v : V} {u : Value} {pos : Pos} (hg : Gl X x) (hm : X.mg x = none) (hv : bootBuiltins x = some u) (r : RelV v u) (hn : x ≠ "__name__" := by decide) (hd : (x == ("__debug__" : Str)) = false := by decide) : PE X (.Name x pos) (tC v) :=
  fun _ _ _ H _ I h => ld_blt I hg hm hv ⟨v, H, I, r, h⟩ hn hd

/-! ### arithmetic -/
variable {a b : Expr} {ta tb : TE} {pos : Pos}
/-! ### comparisons -/
def PC (X : Cx) (op : CmpOp) (a b : Expr) (t : TE) : Prop :=
  ∀ (pins : List (Addr × Obj)) (s : Shared) (σ : St) (H : Hp) (Q : VK), Inv X pins σ H s → t σ H Q →
    wpAny (model X.prog X.w) X.A (eval a X.env) (fun v s₁ => wpAny (model X.prog X.w) X.A (eval b X.env) (fun u s₂ => wpAny (model X.prog X.w) X.A (compareOp op v u) (EP X pins σ Q) X.xe s₂) X.xe s₁) X.xe s
/-- a comparison as a value, as a test -/
def tB (t : TE) : TT := fun σ H Q => t σ H fun x H1 => ∃ c, x = .bl c ∧ Q c H1
theorem pt_cmp {op : CmpOp} {t : TE} (h : PC X op a b t) (h1 : behindInMarks op b = false := by first | exact nobehind _ (by decide) (by decide) | rfl) : PT X (.Compare a [op] [b] pos) (tB t) := by
  intro pins s σ H Q I hw
  refine wpAny_isTrue_Compare1 (thn (h pins s σ H _ I hw) fun v s1 h1 => thn h1 fun u s2 h2 => thn h2 fun c s3 ⟨x, H1, I1, r1, q1⟩ => ?_) h1
  obtain ⟨d, rfl, q⟩ := q1
  cases r1
  exact wpAny_truthy_bool ⟨H1, I1, q⟩
/-- an expression whose value is a bool, as a test -/
theorem pt_val {e : Expr} {t : TE} (h : PE X e t) (he : ∀ whole, isTrue e X.env whole = (do let v ← whole; standAt e.pos; holding [v] (truthy v)) := by intro _; rfl) : PT X e (tB t) := by
  intro pins s σ H Q I hw
  refine isTrue_plain (thn (h pins s σ H _ I hw) fun v s1 ⟨x, H1, I1, r1, q1⟩ => ?_) (he _)
  obtain ⟨d, rfl, q⟩ := q1
  cases r1
  exact wpAny_truthy_bool ⟨H1, I1, q⟩

/-! ### and, or, not -/
variable {tA tB' : TT} {rest : List Expr}
def tOr (t u : TT) : TT := fun σ H Q => t σ H fun c H1 => if c = true then Q true H1 else u σ H1 Q
def tNot (t : TT) : TT := fun σ H Q => t σ H fun c H1 => Q (!c) H1
theorem pw_or1 (ha : PT X a tA) : PW X (.BoolOp .Or [a] pos) tA := by
  intro wh pins s σ H Q I h
  refine isTrue_or (thn (ha pins s σ H Q I h) fun c s1 e => ?_)
  cases c with
  | false => exact isTrue_or_nil e
  | true => exact e
theorem pw_or (ha : PT X a tA) (hb : PW X (.BoolOp .Or (b :: rest) pos) tB') : PW X (.BoolOp .Or (a :: b :: rest) pos) (tOr tA tB') := by
  intro wh pins s σ H Q I h
  refine isTrue_or (thn (ha pins s σ H _ I h) fun c s1 ⟨H1, I1, q1⟩ => ?_)
  cases c with
  | true => exact ⟨H1, I1, q1⟩
  | false => exact hb wh pins s1 σ H1 Q I1 q1
theorem pt_not (ha : PT X a tA) : PT X (.UnaryOp .Not a pos) (tNot tA) := by
  intro pins s σ H Q I h
  exact isTrue_not (ha pins s σ H (fun c H1 => Q (!c) H1) I h)
/-- .. as values (bools) -/
def tAndV (ta tb : TE) : TE := fun σ H Q => ta σ H fun x H1 => ∃ c, x = .bl c ∧ if c = true then tb σ H1 Q else Q (.bl false) H1
def tNotV (ta : TE) : TE := fun σ H Q => ta σ H fun x H1 => ∃ c, x = .bl c ∧ Q (.bl (!c)) H1
theorem pe_one {op} {t : TE} (h : PE X a t) : PE X (.BoolOp op [a] pos) t := fun pins s σ H Q I hw => BoolOp_one (h pins s σ H Q I hw)
theorem pe_and (ha : PE X a ta) (hb : PE X (.BoolOp .And (b :: rest) pos) tb) : PE X (.BoolOp .And (a :: b :: rest) pos) (tAndV ta tb) := by
  intro pins s σ H Q I h
  refine BoolOp_and (thn (ha pins s σ H _ I h) fun v s1 ⟨x, H1, I1, r1, q1⟩ => ?_)
  obtain ⟨c, rfl, q1⟩ := q1
  cases r1
  refine wpAny_truthy_bool ?_
  cases c with
  | true => exact hb pins s1 σ H1 Q I1 q1
  | false => exact ⟨.bl false, H1, I1, rfl, q1⟩
theorem pe_not (ha : PE X a ta) : PE X (.UnaryOp .Not a pos) (tNotV ta) := by
  intro pins s σ H Q I h
  refine UnaryOp_ (thn (ha pins s σ H _ I h) fun v s1 ⟨x, H1, I1, r1, q1⟩ => ?_)
  obtain ⟨c, rfl, q1⟩ := q1
  cases r1
  exact not_of (wpAny_truthy_bool ⟨.bl (!c), H1, I1, rfl, q1⟩)
end
end L2

namespace L2
open PySem PySem.Spec PyProof.Rows

/-! ### a list, a tuple that is read: tracked, frozen, or an object of the module -/
def SqL (K : PySem.W.Frag) (H : Hp) (a : Addr) (xs : List V) : Prop :=
  Rd H a (.lst xs) ∨
    ∃ (o : Obj) (its : Array Value) (n : Nat), K.lookup a = some o ∧ o.cls = .type "list" ∧ o.dict = none ∧ o.data = .seq its n ∧ its.size ≤ sizeLine ∧ Vals xs its.toList
def SqT (K : PySem.W.Frag) (H : Hp) (a : Addr) (xs : List V) : Prop :=
  Rd H a (.tup xs) ∨
    ∃ (o : Obj) (its : Array Value) (n : Nat), K.lookup a = some o ∧ o.cls = .type "tuple" ∧ o.data = .seq its n ∧ its.size ≤ sizeLine ∧ Vals xs its.toList
def absV : Value → Option V
  | .none => some .non
  | .bool b => some (.bl b)
  | .int i _ => some (.int i)
  | .str x _ => some (.str x)
  | .bytes b _ => some (.byt b)
  | .float b _ => some (.flt b)
  | .ref a => some (.ref a)
  | .type n => some (.ty n)
  | _ => none
theorem RelV.abs {x : V} {u : Value} (r : RelV x u) : absV u = some x := by
  cases x with
  | non => cases r; rfl
  | bl _ => cases r; rfl
  | int _ => obtain ⟨t, rfl⟩ := r; rfl
  | str _ => obtain ⟨t, rfl⟩ := r; rfl
  | byt _ => obtain ⟨t, rfl⟩ := r; rfl
  | flt _ => obtain ⟨t, rfl⟩ := r; rfl
  | ref _ => cases r; rfl
  | ty _ => cases r; rfl
theorem RelV.inj {x y : V} {u : Value} (r : RelV x u) (q : RelV y u) : x = y := Option.some.inj (r.abs.symm.trans q.abs)
theorem Vals.inj : ∀ {xs ys : List V} {us : List Value}, Vals xs us → Vals ys us → xs = ys
  | _, _, _, .nil, .nil => rfl
  | _, _, _, .cons r t, .cons r' t' => by rw [r.inj r', Vals.inj t t']
section
variable {X : Cx} {pins : List (Addr × Obj)} {σ : St} {H : Hp} {s : Shared} {a : Addr} {xs ys : List V}
theorem SqL.of {K : PySem.W.Frag} (h : H a = some (.lst xs)) : SqL K H a xs := .inl (.inl h)
theorem SqT.of {K : PySem.W.Frag} (h : H a = some (.tup xs)) : SqT K H a xs := .inl (.inl h)
theorem Inv.list (I : Inv X pins σ H s) (h : SqL X.K H a xs) : ∃ its : List Value, Vals xs its ∧ PlainL s.heap a its.toArray ∧ xs.length ≤ sizeLine := by
  rcases h with h | ⟨o, its, n, hk, hc, hd, hs, hz, r⟩
  · obtain ⟨z, its, n, r, e⟩ := h.ok I.hok
    exact ⟨its, r, ⟨_, n, e, rfl, rfl, rfl⟩, z⟩
  · refine ⟨its.toList, r, ⟨o, n, I.kIn a o hk, hc, hd, by simpa using hs⟩, ?_⟩
    have e := r.length
    simp only [Array.length_toList] at e
    omega
theorem Inv.tuple (I : Inv X pins σ H s) (h : SqT X.K H a xs) : ∃ its : List Value, Vals xs its ∧ IsTup s.heap a its.toArray ∧ xs.length ≤ sizeLine := by
  rcases h with h | ⟨o, its, n, hk, hc, hs, hz, r⟩
  · obtain ⟨z, its, r, p⟩ := h.ok I.hok
    exact ⟨its, r, p, z⟩
  · refine ⟨its.toList, r, ⟨o, I.kIn a o hk, hc, n, by simpa using hs⟩, ?_⟩
    have e := r.length
    simp only [Array.length_toList] at e
    omega
theorem Inv.list_inj (I : Inv X pins σ H s) (h : SqL X.K H a xs) (h' : SqL X.K H a ys) : xs = ys := by
  obtain ⟨its, r, ⟨o, n, e, _, _, d⟩, _⟩ := I.list h
  obtain ⟨its', r', ⟨o', n', e', _, _, d'⟩, _⟩ := I.list h'
  rw [e] at e'; cases e'
  rw [d] at d'
  injection d' with d1 _
  have : its = its' := by simpa using congrArg Array.toList d1
  subst this
  exact r.inj r'
end

/-! ### another wish about exceptions -/
abbrev Cx.wish (X : Cx) (E : Value → Shared → Prop) : Cx := { X with xe := E }
/-- no exception leaves -/
abbrev Cx.nox (X : Cx) : Cx := X.wish fun _ _ => False
theorem Cx.Ok.wish {X : Cx} (ok : X.Ok) (E : Value → Shared → Prop) : (X.wish E).Ok :=
  ⟨ok.mod, ok.kind, ok.glob, ok.blt, ok.above, ok.inj, ok.has, ok.cab, ok.hd, ok.frames, ok.stk, ok.exf, ok.bs, ok.bsz, ok.noex, ok.exfs, ok.funs, ok.frf⟩
theorem Cx.Ok.unwish {X : Cx} {E : Value → Shared → Prop} (ok : (X.wish E).Ok) : X.Ok :=
  ⟨ok.mod, ok.kind, ok.glob, ok.blt, ok.above, ok.inj, ok.has, ok.cab, ok.hd, ok.frames, ok.stk, ok.exf, ok.bs, ok.bsz, ok.noex, ok.exfs, ok.funs, ok.frf⟩
section
variable {X : Cx} {pins : List (Addr × Obj)} {σ : St} {H : Hp} {s : Shared} {E : Value → Shared → Prop}
theorem Inv.wish (I : Inv X pins σ H s) (E : Value → Shared → Prop) : Inv (X.wish E) pins σ H s := ⟨I.ok.wish E, I.os, I.bare, I.base, I.loc, I.cell, I.free, I.freeC, I.pin, I.hok, I.len⟩
theorem Inv.unwish (I : Inv (X.wish E) pins σ H s) : Inv X pins σ H s := ⟨I.ok.unwish, I.os, I.bare, I.base, I.loc, I.cell, I.free, I.freeC, I.pin, I.hok, I.len⟩
theorem SP.unwish {D : Ends} {f : Flow} {s' : Shared} (h : SP (X.wish E) pins D f s') : SP X pins D f s' := by
  cases f with
  | next => obtain ⟨σ', H', I, q⟩ := h; exact ⟨σ', H', I.unwish, q⟩
  | brk => obtain ⟨σ', H', I, q⟩ := h; exact ⟨σ', H', I.unwish, q⟩
  | cont => obtain ⟨σ', H', I, q⟩ := h; exact ⟨σ', H', I.unwish, q⟩
  | ret u => obtain ⟨v, σ', H', I, r, q⟩ := h; exact ⟨v, σ', H', I.unwish, r, q⟩
theorem PSs.nox {st : List Stmt} {t : TS} (h : PSs X.nox st t) : PSs X st t := fun pins s σ H D I hw =>
  wpAny_mono (h pins s σ H D (I.wish _) hw) (fun _ _ q => q.unwish) fun _ _ z => False.elim z
end

/-! ### blocks and small statements -/
section
variable {X : Cx} {st : Stmt} {rest : List Stmt} {t u : TS} {e : Expr} {te : TE} {pos : Pos}
def tNext : TS := fun D σ H => D.nx σ H
def tSeq (t u : TS) : TS := fun D σ H => t { D with nx := u D } σ H
theorem pss_nil : PSs X [] tNext := fun _ _ σ H _ I h => wpAny_execs_nil ⟨σ, H, I, h⟩
theorem pss_cons (h1 : PS X st t) (h2 : PSs X rest u) : PSs X (st :: rest) (tSeq t u) := by
  intro pins s σ H D I h
  refine wpAny_execs_cons (thn (h1 pins s σ H { D with nx := u D } I h) fun f s1 q => ?_)
  cases f with
  | next =>
    obtain ⟨σ', H', I', q⟩ := q
    exact h2 pins s1 σ' H' D I' q
  | ret v => exact q
  | brk => exact q
  | cont => exact q
theorem pss_one (h1 : PS X st t) : PSs X [st] t := by
  intro pins s σ H D I h
  refine wpAny_execs_cons (thn (h1 pins s σ H D I h) fun f s1 q => ?_)
  cases f with
  | next => exact wpAny_execs_nil q
  | ret v => exact q
  | brk => exact q
  | cont => exact q
/-- in a def's body nothing is shown -/
theorem Inv.quiet {pins : List (Addr × Obj)} {σ : St} {H : Hp} {s : Shared} (I : Inv X pins σ H s) : interactive X.env = false := by simp [interactive, I.ok.kind]
/-- an expression whose value is dropped -/
def tDrop (te : TE) : TS := fun D σ H => te σ H fun _ H1 => D.nx σ H1
theorem ps_expr (he : PE X e te) (hs : swapsWith e none pos.line X.env = pure false := by rfl) : PS X (.Expr e pos) (tDrop te) := by
  intro pins s σ H D I h
  exact wpAny_Expr_any (thn (he pins s σ H _ I h) fun v s1 ⟨x, H1, I1, r1, q1⟩ => ⟨σ, H1, I1, q1⟩) I.quiet hs
def tRet (te : TE) : TS := fun D σ H => te σ H D.rt
theorem ps_ret (he : PE X e te) : PS X (.Return (some e) pos) (tRet te) := by
  intro pins s σ H D I h
  exact wpAny_Return_some (thn (he pins s σ H _ I h) fun v s1 ⟨x, H1, I1, r1, q1⟩ => ⟨x, σ, H1, I1, r1, q1⟩)
def tIfS (c : TT) (t u : TS) : TS := fun D σ H => c σ H fun b H1 => if b = true then t D σ H1 else u D σ H1
theorem ps_if {c : Expr} {a b : List Stmt} {tc : TT} (hc : PT X c tc) (ha : PSs X a t) (hb : PSs X b u) : PS X (.If c a b pos) (tIfS tc t u) := by
  intro pins s σ H D I h
  refine wpAny_If (thn (hc pins s σ H _ I h) fun d s1 ⟨H1, I1, q1⟩ => ?_)
  cases d with
  | true => exact ha pins s1 σ H1 D I1 q1
  | false => exact hb pins s1 σ H1 D I1 q1
end

/-! ### targets -/
abbrev TG := V → St → Hp → (St → Hp → Prop) → Prop
abbrev TGs := List V → St → Hp → (St → Hp → Prop) → Prop
def PG (X : Cx) (target : Expr) (t : TG) : Prop :=
  ∀ (pins : List (Addr × Obj)) (s : Shared) (σ : St) (H : Hp) (v : V) (u : Value) (Q : St → Hp → Prop), Inv X pins σ H s → RelV v u → t v σ H Q →
    wpAny (model X.prog X.w) X.A (assign target X.env u) (fun _ s' => ∃ σ' H', Inv X pins σ' H' s' ∧ Q σ' H') X.xe s
/-- several targets, one after another -/
def PGs (X : Cx) (ts : List Expr) (t : TGs) : Prop :=
  ∀ (pins : List (Addr × Obj)) (s : Shared) (σ : St) (H : Hp) (vs : List V) (us : List Value) (Q : St → Hp → Prop), Inv X pins σ H s → Vals vs us → t vs σ H Q →
    wpAny (model X.prog X.w) X.A (assignInOrder ((assignEach ts X.env).map (·.2)) us) (fun _ s' => ∃ σ' H', Inv X pins σ' H' s' ∧ Q σ' H') X.xe s
/-- o[i] = v, by values -/
abbrev TSet := V → V → V → Hp → (Hp → Prop) → Prop
def PSet (X : Cx) (t : TSet) : Prop :=
  ∀ (pins : List (Addr × Obj)) (s : Shared) (σ : St) (H : Hp) (o i v : V) (ov iv u : Value) (Q : Hp → Prop), Inv X pins σ H s → RelV o ov → RelV i iv → RelV v u → t o i v H Q →
    wpAny (model X.prog X.w) X.A (setItem ov iv u) (fun _ s' => ∃ H', Inv X pins σ H' s' ∧ Q H') X.xe s
section
variable {X : Cx} {pos : Pos}
def gName (i : Nat) : TG := fun v σ H Q => Q (σ.set i (some v)) H
theorem pg_name {i : Nat} {x : Str} (hN : X.N.Nodup) (hi : X.N[i]? = some x) (hx : Loc X.env.scope x) (hf : X.fn x = true ∨ X.env.scope.names.lookup x = some .local := by first | exact .inl rfl | exact .inr rfl | assumption) : PG X (.Name x pos) (gName i) := by
  intro pins s σ H v u Q I r h
  exact wpAny_assign_Name (store_ok I hN hi hx r (fun s' I' => ⟨_, H, I', h⟩) hf)
def gNil : TGs := fun vs σ H Q => vs = [] ∧ Q σ H
def gCons (t : TG) (u : TGs) : TGs := fun vs σ H Q => ∃ v r, vs = v :: r ∧ t v σ H fun σ' H' => u r σ' H' Q
theorem pgs_nil : PGs X [] gNil := by
  intro pins s σ H vs us Q I r h
  obtain ⟨e, h⟩ := h
  subst e
  cases r
  exact assignInOrder_nil ⟨σ, H, I, h⟩
theorem pgs_cons {e : Expr} {es : List Expr} {t : TG} {u : TGs} (h1 : PG X e t) (h2 : PGs X es u)
    (hs : (assignEach (e :: es) X.env).map (·.2) = assign e X.env :: (assignEach es X.env).map (·.2) := by rfl) : PGs X (e :: es) (gCons t u) := by
  intro pins s σ H vs us Q I r h
  obtain ⟨v, vr, e1, h⟩ := h
  subst e1
  cases r with
  | cons r rr =>
    rw [hs]
    refine assignInOrder_cons (thn (h1 pins s σ H _ _ _ I r h) fun _ s1 ⟨σ1, H1, I1, q1⟩ => ?_)
    exact h2 pins s1 σ1 H1 _ _ Q I1 rr q1
/-- (a, b, ..) = a tuple of that length -/
def gTup (K : PySem.W.Frag) (n : Nat) (t : TGs) : TG := fun v σ H Q => ∃ a xs, v = .ref a ∧ SqT K H a xs ∧ xs.length = n ∧ t xs σ H Q
theorem pg_tup {es : List Expr} {k : Nat} {t : TGs} {n : Nat} (hc : X.calm = true) (h : PGs X es t)
    (hn : (assignEach es X.env).length = n := by rfl) (hst : (assignEach es X.env).findIdx? (·.1) = none := by rfl) : PG X (.Tuple es k pos) (gTup X.K n t) := by
  intro pins s σ H v u Q I r hw
  obtain ⟨a, xs, e1, hq, hl, hw⟩ := hw
  subst e1
  cases r
  obtain ⟨its, rv, ht, hz⟩ := I.tuple hq
  refine assign_Tuple_tuple (I.ok.hd hc) ht (by simp [hn, ← hl, rv.length]) hst fun h' hx => ?_
  have I1 : Inv X pins σ H { s with heap := h' } := I.kept (t' := s.toks) fun b o e => hx b o (Nat.ne_of_lt (Heap.lt_size e)) e
  exact h pins _ σ H xs _ Q I1 (by simpa using rv) hw
/-- o[i] = .. -/
def gSub (to ti : TE) (t : TSet) : TG := fun v σ H Q => to σ H fun o H1 => ti σ H1 fun i H2 => t o i v H2 fun H3 => Q σ H3
theorem pg_sub {o i : Expr} {to ti : TE} {t : TSet} (ho : PE X o to) (hi : PE X i ti) (hs : PSet X t)
    (ha : ∀ v, assign (.Subscript o i pos) X.env v = (do
      let ov ← holding [v] (eval o X.env)
      let iv ← holding [v, ov] (eval i X.env)
      standAt pos
      holding [v, ov, iv] (setItem ov iv v)
      release [v, ov, iv] []) := by intro _; rfl) : PG X (.Subscript o i pos) (gSub to ti t) := by
  intro pins s σ H v u Q I r h
  rw [ha]
  refine wpAny_bind (wpAny_holding (thn (ho pins s σ H _ I h) fun ov s1 ⟨x, H1, I1, r1, q1⟩ => ?_))
  refine wpAny_bind (wpAny_holding (thn (hi pins s1 σ H1 _ I1 q1) fun iv s2 ⟨y, H2, I2, r2, q2⟩ => ?_))
  refine wpAny_bind (wpAny_standAt (wpAny_bind (wpAny_holding (thn (hs pins s2 σ H2 x y v ov iv u _ I2 r1 r2 r q2) fun _ s3 ⟨H3, I3, q3⟩ => ?_))))
  exact wpAny_release ⟨σ, H3, I3, q3⟩
/-- target = value -/
def tAsg (te : TE) (g : TG) : TS := fun D σ H => te σ H fun x H1 => g x σ H1 D.nx
theorem ps_asg {tg e : Expr} {te : TE} {g : TG} (he : PE X e te) (hg : PG X tg g) (hs : swapsWithSole [tg] e pos.line X.env = pure false := by rfl) (hw : swappedStores [tg] e X.env = pure none := by rfl)
    (h1 : (assignEach [tg] X.env).map (·.2) = [assign tg X.env] := by rfl) : PS X (.Assign [tg] e pos) (tAsg te g) := by
  intro pins s σ H D I h
  refine wpAny_Assign_stores (thn (he pins s σ H _ I h) fun v s1 ⟨x, H1, I1, r1, q1⟩ => ?_) hs hw
  rw [h1]
  exact thn (hg pins s1 σ H1 x v _ I1 r1 q1) fun _ s2 q => q
/-- name = value -/
theorem ps_set {i : Nat} {x : Str} {e : Expr} {te : TE} {pos' : Pos} (hN : X.N.Nodup) (hi : X.N[i]? = some x) (hx : Loc X.env.scope x) (he : PE X e te) (hs : swapsWith e (some (.Name x pos')) pos.line X.env = pure false := by rfl) (hf : X.fn x = true ∨ X.env.scope.names.lookup x = some .local := by first | exact .inl rfl | exact .inr rfl | assumption) :
    PS X (.Assign [.Name x pos'] e pos) (tAsg te (gName i)) := by
  intro pins s σ H D I h
  refine wpAny_Assign_Name (thn (he pins s σ H _ I h) fun v s1 ⟨y, H1, I1, r1, q1⟩ => ?_) hs
  exact store_ok I1 hN hi hx r1 (fun s2 I2 => ⟨_, H1, I2, q1⟩) hf
end

/-! ### while -/


/-! ### what a loop or a comprehension walks -/
/-- at turn i: it yields x (the heap may grow), or it stops -/
structure It where
  go : Nat → Hp → Prop
  yld : Nat → Hp → V → Hp → Prop
  stop : Nat → Hp → Prop
/-- the iterator's own objects may turn: they are not the frame's, not pinned, younger than the entry (or a comprehension's own) -/
def FpOk (X : Cx) (pins : List (Addr × Obj)) (H : Hp) (b : Addr) : Prop :=
  H b = none ∧ b ≠ X.env.locals ∧ b ∉ X.fs ∧ (b ∈ X.ex ∨ X.s₀.heap.objs.size ≤ b) ∧ (∀ x c, X.env.cells.lookup x = some c → c ≠ b) ∧ ∀ p ∈ X.pn ++ pins, p.1 ≠ b
theorem Inv.fpOk {X : Cx} {pins : List (Addr × Obj)} {σ : St} {H H' : Hp} {s : Shared} {b : Addr} (I : Inv X pins σ H s) (hb : s.heap.objs.size ≤ b) (hn : H' b = none) : FpOk X pins H' b := by
  refine ⟨hn, Nat.ne_of_gt (Nat.lt_of_lt_of_le I.lt hb), I.nofs hb, .inr (Nat.le_trans I.sz hb), fun x c e z => ?_, fun p hp z => ?_⟩
  · obtain ⟨v, q⟩ := I.cell x c e
    exact absurd (Nat.lt_of_lt_of_le q.lt (by rw [z]; exact hb)) (Nat.lt_irrefl _)
  · exact absurd (Nat.lt_of_lt_of_le (Heap.lt_size (I.pin p hp).1) (by rw [z]; exact hb)) (Nat.lt_irrefl _)
structure Turn (P : Program) (w : World) (K : PySem.W.Frag) (tg : Expr) (J : It) (fp : List Addr) (it : Addr) (tn : Nat → Heap → Prop) : Prop where
  mem : it ∈ fp
  obj : ∀ i h, tn i h → ∀ b ∈ fp, ∃ o, h.get? b = some o ∧ ∀ v, o.data ≠ .cell v
  keep : ∀ i h h', tn i h → (∀ b ∈ fp, ∀ o, h.get? b = some o → h'.get? b = some o) → tn i h'
  item : ∀ (X : Cx), X.prog = P → X.w = w → X.K = K → X.calm = true → ∀ (i : Nat) (pins : List (Addr × Obj)) (s : Shared) (σ : St) (H : Hp) (E : Value → Shared → Prop), Inv X pins σ H s → (∀ b ∈ fp, FpOk X pins H b) → tn i s.heap → J.go i H →
    wpAny (model P w) X.A (pyNext (.ref it)) (fun r s1 => ∃ u, r = some u ∧
      wpAny (model P w) X.A (letOwnedTupleGo tg (.ref it) u) (fun _ s2 => ∃ x H', Inv X pins σ H' s2 ∧ RelV x u ∧ J.yld i H x H' ∧ tn (i + 1) s2.heap ∧ ∀ b ∈ fp, H' b = none) E s1) E s
  done : ∀ (X : Cx), X.prog = P → X.w = w → X.K = K → X.calm = true → ∀ (i : Nat) (pins : List (Addr × Obj)) (s : Shared) (σ : St) (H : Hp) (E : Value → Shared → Prop), Inv X pins σ H s → (∀ b ∈ fp, FpOk X pins H b) → tn i s.heap → J.stop i H →
    wpAny (model P w) X.A (pyNext (.ref it)) (fun r s1 => r = none ∧ Inv X pins σ H s1) E s
  self : ∀ (A : Around) (i : Nat) (s : Shared) (Q : Value → Shared → Prop) (E : Value → Shared → Prop), tn i s.heap → Q (.ref it) s → wpAny (model P w) A (pyIter (.ref it)) Q E s
abbrev TI := St → Hp → (It → Hp → Prop) → Prop
/-- an iterator has come -/
def PIE (X : Cx) (pins : List (Addr × Obj)) (σ : St) (tg : Expr) (R : It → Hp → Prop) (itv : Value) (s2 : Shared) : Prop :=
  ∃ (it : Addr) (fp : List Addr) (tn : Nat → Heap → Prop) (J : It) (H' : Hp), itv = .ref it ∧ Inv X pins σ H' s2 ∧ Turn X.prog X.w X.K tg J fp it tn ∧ tn 0 s2.heap ∧ (∀ b ∈ fp, FpOk X pins H' b) ∧ R J H'
def PI (X : Cx) (tg iter : Expr) (wi : TI) : Prop :=
  ∀ (pins : List (Addr × Obj)) (s : Shared) (σ : St) (H : Hp) (R : It → Hp → Prop), Inv X pins σ H s → wi σ H R →
    wpAny (model X.prog X.w) X.A (eval iter X.env) (fun v s1 => wpAny (model X.prog X.w) X.A (pyIter v) (PIE X pins σ tg R) X.xe s1) X.xe s

/-- the step ahead of the store is nothing for an iterator that keeps no tuple -/
theorem go_of {M : Model} {A : Around} {E : Value → Shared → Prop} {s : Shared} {tg : Expr} {it : Addr} {u : Value} {o : Obj} {n : String} {vs : Array Value} {Q : Unit → Shared → Prop} (ho : s.heap.get? it = some o) (hc : o.cls = .type n) (hd : o.data = .fields vs)
    (hn : ["enumerate", "zip", "dict_itemiterator", "dict_reverseitemiterator", "odict_iterator", "itertools.zip_longest", "itertools.pairwise"].contains n = false) (hQ : Q () s) : wpAny M A (letOwnedTupleGo tg (.ref it) u) Q E s := by
  unfold letOwnedTupleGo
  cases tg <;> first
    | exact wpAny_pure hQ
    | (cases u <;> first
        | exact wpAny_pure hQ
        | (refine wpAny_bind (wpAny_load ho ?_)
           rw [hc, hd]
           show wpAny M A (if (["enumerate", "zip", "dict_itemiterator", "dict_reverseitemiterator", "odict_iterator", "itertools.zip_longest", "itertools.pairwise"].contains n && vs[0]? == some (rawInt _)) = true then _ else _) Q E s
           rw [if_neg (by intro h; rw [hn, Bool.false_and] at h; cases h)]
           exact wpAny_pure hQ))

/-- the list at a, as it stands at each turn (a loop may append to it) -/
def Itl (K : PySem.W.Frag) (a : Addr) : It :=
  ⟨fun i H => ∃ xs x, SqL K H a xs ∧ xs[i]? = some x, fun i H x H' => H' = H ∧ ∀ xs, SqL K H a xs → xs[i]? = some x, fun i H => ∃ xs, SqL K H a xs ∧ xs.length ≤ i⟩
/-- lo, lo + 1, .. (n of them) -/
def Itr (lo : Int) (n : Nat) : It := ⟨fun i _ => i < n, fun i H x H' => H' = H ∧ x = .int (lo + i), fun i _ => n ≤ i⟩
theorem turn_list {P : Program} {w : World} {K : PySem.W.Frag} {tg : Expr} (a it : Addr) : Turn P w K tg (Itl K a) [it] it (fun i h => h.IsListIter it a i) where
  mem := by simp
  obj := fun i h st b hb => by
    have e : b = it := by simpa using hb
    subst e
    obtain ⟨o, e, c, d⟩ := st
    exact ⟨o, e, fun v z => by rw [d] at z; cases z⟩
  keep := fun i h h' st k => st.at fun o e => k it (by simp) o e
  item := by
    intro X hP hw hK hc i pins s σ H E I hf st hg
    subst hP hw hK
    obtain ⟨xs, x, hq, hx⟩ := hg
    obtain ⟨its, rv, p, hz⟩ := I.list hq
    obtain ⟨u, hu, ru⟩ := rv.get hx
    obtain ⟨f0, f1, f2, f3, f4, f5⟩ := hf it (by simp)
    refine wpAny_pyNext_list_item st p.isList (x := u) (by simpa using hu) fun h' st' sb => ?_
    have I1 : Inv X pins σ H { s with heap := h' } := I.turned (t' := s.toks) (fun b o hb e => (sb.2 b hb).trans e) f0 f1 f3 f4 f5
    obtain ⟨o, e, c, d⟩ := id st'
    exact ⟨u, rfl, go_of (s := { s with heap := h' }) e c d (by decide) ⟨x, H, I1, ru, ⟨rfl, fun ys hy => by rw [I.list_inj hy hq]; exact hx⟩, st', fun b hb => (hf b hb).1⟩⟩
  done := by
    intro X hP hw hK hc i pins s σ H E I hf st hg
    subst hP hw hK
    obtain ⟨xs, hq, hx⟩ := hg
    obtain ⟨its, rv, p, hz⟩ := I.list hq
    obtain ⟨f0, f1, f2, f3, f4, f5⟩ := hf it (by simp)
    have hl := rv.length
    exact wpAny_pyNext_list_end (I.ok.hd hc) st p.isList (by simp; omega) fun h' eb => ⟨rfl, I.turned (t' := s.toks) (fun b o hb e => eb b o hb e) f0 f1 f3 f4 f5⟩
  self := fun _ _ _ _ _ st h => wpAny_pyIter_listiter st h
theorem turn_range {P : Program} {w : World} {K : PySem.W.Frag} {tg : Expr} (it : Addr) (lo : Int) (n : Nat) : Turn P w K tg (Itr lo n) [it] it (fun i h => IsRangeIter h it (lo + (i : Nat) * 1) ((n : Int) - (i : Nat)) 1) where
  mem := by simp
  obj := fun i h st b hb => by
    have e : b = it := by simpa using hb
    subst e
    exact ⟨_, st, fun v z => by
      have z' : Data.fields _ = Data.cell v := z
      cases z'⟩
  keep := fun i h h' st k => k it (by simp) _ st
  item := by
    intro X hP hw hK hc i pins s σ H E I hf st hg
    subst hP hw hK
    obtain ⟨f0, f1, f2, f3, f4, f5⟩ := hf it (by simp)
    have W := Walks.range (prog := X.prog) (w := X.w) (I.ok.hd hc) it lo 1 n
    refine W.item i s _ _ hg st fun v h' tk hv st' kk => ?_
    obtain ⟨t, rfl⟩ := hv
    have I1 : Inv X pins σ H { s with heap := h', toks := tk } := I.turned (fun b o hb e => kk b o (by simpa using hb) e) f0 f1 f3 f4 f5
    refine ⟨_, rfl, go_of (s := { s with heap := h', toks := tk }) (n := "range_iterator") st' rfl rfl (by decide) ⟨.int (lo + i), H, I1, ⟨t, ?_⟩, ⟨rfl, rfl⟩, st', fun b hb => (hf b hb).1⟩⟩
    rw [Int.mul_one]
  done := by
    intro X hP hw hK hc i pins s σ H E I hf st hg
    subst hP hw hK
    obtain ⟨f0, f1, f2, f3, f4, f5⟩ := hf it (by simp)
    exact wpAny_pyNext_range_end (I.ok.hd hc) st (by have : n ≤ i := hg; omega) fun h' eb => ⟨rfl, I.turned (t' := s.toks) (fun b o hb e => eb b o hb e) f0 f1 f3 f4 f5⟩
  self := fun _ _ _ _ _ st h => wpAny_pyIter_rangeiter st h
end L2

namespace L2
open PySem PySem.Spec PyProof.Rows
section
variable {X : Cx} {tg : Expr}
def iList (K : PySem.W.Frag) (tl : TE) : TI := fun σ H R => tl σ H fun x H1 => ∃ a, x = .ref a ∧ (∃ xs, SqL K H1 a xs) ∧ R (Itl K a) H1
theorem pi_list {l : Expr} {tl : TE} (hl : PE X l tl) : PI X tg l (iList X.K tl) := by
  intro pins s σ H R I h
  refine thn (hl pins s σ H _ I h) fun v s1 ⟨x, H1, I1, r1, q1⟩ => ?_
  obtain ⟨a, e, ⟨xs, hq⟩, q⟩ := q1
  subst e
  cases r1
  obtain ⟨its, rv, p, hz⟩ := I1.list hq
  refine wpAny_pyIter_list p.isList ?_
  refine ⟨s1.heap.objs.size, [s1.heap.objs.size], _, _, H1, rfl, I1.kept (t' := s1.toks) fun b o e => Heap.get?_push_of_some _ e, turn_list a _, ⟨_, Heap.get?_push_size _ rfl, rfl, rfl⟩, fun b hb => ?_, q⟩
  have e : b = s1.heap.objs.size := by simpa using hb
  subst e
  exact I1.fpOk (Nat.le_refl _) (I1.hok.fresh (Nat.le_refl _))
/-- a range object just made, walked -/
theorem range_it {pins : List (Addr × Obj)} {σ : St} {H : Hp} {s : Shared} {R : It → Hp → Prop} {E : Value → Shared → Prop} {lo hi : Int} {t u v : Tok} {tk : Nat} (I : Inv X pins σ H s) (h1 : -(2 ^ 62) ≤ lo) (h2 : lo < 2 ^ 62) (h3 : -(2 ^ 62) ≤ hi) (h4 : hi < 2 ^ 62)
    (q : R (Itr lo (hi - lo).toNat) H) : wpAny (model X.prog X.w) X.A (pyIter (.ref s.heap.objs.size)) (PIE X pins σ tg R) E { s with heap := s.heap.push { cls := .type "range", data := .fields #[.int lo t, .int hi u, .int 1 v] }, toks := tk } := by
  refine wpAny_pyIter_range (IsRange.new ..) (small_one h1 h2 h3 h4) ?_
  have I1 : Inv X pins σ H { s with heap := s.heap.push { cls := .type "range", data := .fields #[.int lo t, .int hi u, .int 1 v] }, toks := tk } := I.kept fun b o e => Heap.get?_push_of_some _ e
  refine ⟨(s.heap.push { cls := .type "range", data := .fields #[.int lo t, .int hi u, .int 1 v] }).objs.size, [(s.heap.push { cls := .type "range", data := .fields #[.int lo t, .int hi u, .int 1 v] }).objs.size], _, _, H, rfl,
    I1.kept (t' := tk) fun b o e => Heap.get?_push_of_some _ e, turn_range _ lo (hi - lo).toNat, ?_, fun b hb => ?_, q⟩
  · have e1 : lo + ((0 : Nat) : Int) * 1 = lo := by simp
    have e2 : (((hi - lo).toNat : Nat) : Int) - ((0 : Nat) : Int) = Builtin.Range.rangeSize lo hi 1 := by rw [rangeSize_one]; split <;> omega
    show IsRangeIter _ _ (lo + ((0 : Nat) : Int) * 1) ((((hi - lo).toNat : Nat) : Int) - ((0 : Nat) : Int)) 1
    rw [e1, e2]
    exact Heap.get?_push_size _ rfl
  · have e : b = (s.heap.push { cls := .type "range", data := .fields #[.int lo t, .int hi u, .int 1 v] }).objs.size := by simpa using hb
    subst e
    exact I1.fpOk (Nat.le_refl _) (I1.hok.fresh (Nat.le_refl _))
def iRng1 (ta : TA) : TI := fun σ H R => ta σ H fun vs H1 => ∃ j : Int, vs = [.int j] ∧ -(2 ^ 62) ≤ j ∧ j < 2 ^ 62 ∧ R (Itr 0 j.toNat) H1
theorem pi_range1 {a : Expr} {ta : TA} {p pos : Pos} (hg : Gl X "range") (hm : X.mg "range" = none) (ha : PA X [a] ta) (hs : starEach [a] X.env = [(false, eval a X.env)] := by rfl) : PI X tg (.Call (.Name "range" p) [a] [] pos) (iRng1 ta) := by
  intro pins s σ H R I h
  refine Call_ (ld_blt I hg hm boot_range (PyProof.Rows.callWith_type1 (thn (ha pos pins s σ H _ I h) fun us s1 ⟨vs, H1, I1, r1, q1⟩ => ?_) hs rfl))
  obtain ⟨j, e, q1, q2, q⟩ := q1
  subst e
  cases r1 with
  | cons r rr =>
    cases rr
    obtain ⟨t, rfl⟩ := r
    exact call_range_1 (range_it I1 (by omega) (by omega) q1 q2 (by simpa using q))
/-! ### for -/
/-- W: the invariant by the turn and a measure; N: what the body is to reach -/
def tFor (wi : TI) (g : TG) (tb : TS) : TS := fun D σ H => wi σ H fun J H1 => ∃ W : Nat → Nat → St → Hp → Prop, (∃ m, W 0 m σ H1) ∧ ∀ i m σ H, W i m σ H →
  (J.stop i H ∧ D.nx σ H) ∨ (J.go i H ∧ ∃ N : St → Hp → Prop, (∀ σ' H', N σ' H' → ∃ m', m' < m ∧ W (i + 1) m' σ' H') ∧ ∀ x H', J.yld i H x H' → g x σ H' fun σ2 H2 => tb { D with nx := N, ct := N, bk := D.nx } σ2 H2)
/-- the records at fp as they stand -/
def pinsAt (fp : List Addr) (h : Heap) : List (Addr × Obj) := fp.filterMap fun b => (h.get? b).map fun o => (b, o)
theorem mem_pinsAt {fp : List Addr} {h : Heap} {b : Addr} {o : Obj} (hb : b ∈ fp) (e : h.get? b = some o) : (b, o) ∈ pinsAt fp h := List.mem_filterMap.mpr ⟨b, hb, by rw [e]; rfl⟩
theorem of_pinsAt {fp : List Addr} {h : Heap} {p : Addr × Obj} (hp : p ∈ pinsAt fp h) : p.1 ∈ fp ∧ h.get? p.1 = some p.2 := by
  obtain ⟨b, hb, e⟩ := List.mem_filterMap.mp hp
  cases q : h.get? b with
  | none => rw [q] at e; cases e
  | some o =>
    rw [q] at e
    have e' : (b, o) = p := Option.some.inj e
    subst e'
    exact ⟨hb, q⟩
theorem Inv.pinned {pins : List (Addr × Obj)} {σ : St} {H : Hp} {s : Shared} {fp : List Addr} (I : Inv X pins σ H s) (hf : ∀ b ∈ fp, FpOk X pins H b) (ho : ∀ b ∈ fp, ∃ o, s.heap.get? b = some o ∧ ∀ v, o.data ≠ .cell v) : Inv X (pins ++ pinsAt fp s.heap) σ H s :=
  I.pins_of fun p hp => (List.mem_append.mp hp).elim (fun z => I.pin p (List.mem_append_right _ z)) fun z => by
    obtain ⟨hb, e⟩ := of_pinsAt z
    obtain ⟨f0, f1, f2, _⟩ := hf p.1 hb
    obtain ⟨o, e', d⟩ := ho p.1 hb
    rw [e] at e'; cases e'
    exact ⟨e, f0, f1, f2, d⟩
theorem Inv.unpinned {pins pl : List (Addr × Obj)} {σ : St} {H : Hp} {s : Shared} (I : Inv X (pins ++ pl) σ H s) : Inv X pins σ H s := I.pins_of fun p hp => I.pin p (List.mem_append_right _ (List.mem_append_left _ hp))
theorem ps_for {iter : Expr} {body : List Stmt} {wi : TI} {g : TG} {tb : TS} {pos : Pos} (hp : PassesOwn (model X.prog X.w) X.A X.env X.xe) (hc : X.calm = true) (hi : PI X tg iter wi) (hg : PG X tg g) (hb : PSs X body tb)
    (hs : ∀ x, foldedSetIterable iter X.env x = pure x := by intro _; rfl) : PS X (.For tg iter body [] pos) (tFor wi g tb) := by
  intro pins s σ H D I h
  refine wpAny_For (thn (hi pins s σ H _ I h) fun v s1 h1 => thn h1 fun itv s2 h2 => ?_) hs
  obtain ⟨it, fp, tn, J, H2, e, I2, T, st2, f2, W, ⟨m0, w0⟩, turn⟩ := h2
  subst e
  -- what stays true of the iterator's objects through the loop
  have stat : ∀ {H' : Hp}, (∀ b ∈ fp, H' b = none) → ∀ b ∈ fp, FpOk X pins H' b := fun hn b hb => ⟨hn b hb, (f2 b hb).2⟩
  refine codeAny_forLoop_any (fun n s' => ∃ i σ' H', Inv X pins σ' H' s' ∧ tn i s'.heap ∧ (∀ b ∈ fp, H' b = none) ∧ W i n σ' H') ?_ m0 ⟨0, σ, H2, I2, st2, fun b hb => (f2 b hb).1, w0⟩
  rintro n s3 ⟨i, σ3, H3, I3, st3, fr3, w3⟩
  rcases turn i n σ3 H3 w3 with ⟨stop, qn⟩ | ⟨go, N, hN, step⟩
  · refine wpAny_passesOwn hp (thn (T.done X rfl rfl rfl hc i pins s3 σ3 H3 X.xe I3 (stat fr3) st3 stop) fun r s4 ⟨hr, I4⟩ => ?_)
    subst hr
    exact wpAny_execs_nil ⟨σ3, H3, I4, qn⟩
  · refine wpAny_passesOwn hp (thn (T.item X rfl rfl rfl hc i pins s3 σ3 H3 X.xe I3 (stat fr3) st3 go) fun r s4 ⟨u, hr, h4⟩ => ?_)
    subst hr
    refine wpAny_passesOwn hp (thn h4 fun _ s5 ⟨x, H5, I5, r5, y5, st5, fr5⟩ => ?_)
    have I5' := I5.pinned (stat fr5) (T.obj _ _ st5)
    refine wpAny_passesOwn hp (thn (hg _ s5 σ3 H5 x u _ I5' r5 (step x H5 y5)) fun _ s6 ⟨σ6, H6, I6, q6⟩ => ?_)
    refine wpAny_passesOwn hp (thn (hb _ s6 σ6 H6 _ I6 q6) fun f s7 q7 => ?_)
    have again : ∀ {σ7 : St} {H7 : Hp}, Inv X (pins ++ pinsAt fp s5.heap) σ7 H7 s7 → N σ7 H7 → ∃ m, m < n ∧ ∃ i σ' H', Inv X pins σ' H' s7 ∧ tn i s7.heap ∧ (∀ b ∈ fp, H' b = none) ∧ W i m σ' H' := fun {σ7 H7} I7 n7 => by
      obtain ⟨m', hm, w7⟩ := hN σ7 H7 n7
      refine ⟨m', hm, i + 1, σ7, H7, I7.unpinned, T.keep _ _ _ st5 fun b hb o e => (I7.pin (b, o) (List.mem_append_right _ (List.mem_append_right _ (mem_pinsAt hb e)))).1, fun b hb => ?_, w7⟩
      obtain ⟨o, e, d⟩ := T.obj _ _ st5 b hb
      exact (I7.pin (b, o) (List.mem_append_right _ (List.mem_append_right _ (mem_pinsAt hb e)))).2.1
    cases f with
    | next => obtain ⟨σ7, H7, I7, n7⟩ := q7; exact again I7 n7
    | cont => obtain ⟨σ7, H7, I7, n7⟩ := q7; exact again I7 n7
    | brk => obtain ⟨σ7, H7, I7, q7⟩ := q7; exact ⟨σ7, H7, I7.unpinned, q7⟩
    | ret v => obtain ⟨x7, σ7, H7, I7, r7, q7⟩ := q7; exact ⟨x7, σ7, H7, I7.unpinned, r7, q7⟩
end

/-! ### the forms one uses -/
/-- over a list that the body leaves as it is -/
theorem for_list {K : PySem.W.Frag} {a : Addr} {xs : List V} {g : TG} {tb : TS} {D : Ends} {σ : St} {H : Hp} (Pv : Nat → St → Hp → Prop) (h0 : Pv 0 σ H) (hl : ∀ i σ H, i ≤ xs.length → Pv i σ H → SqL K H a xs)
    (hs : ∀ i x σ H, xs[i]? = some x → Pv i σ H → g x σ H fun σ2 H2 => tb { D with nx := Pv (i + 1), ct := Pv (i + 1), bk := D.nx } σ2 H2) (hd : ∀ σ H, Pv xs.length σ H → D.nx σ H) :
    ∃ W : Nat → Nat → St → Hp → Prop, (∃ m, W 0 m σ H) ∧ ∀ i m σ H, W i m σ H →
      ((Itl K a).stop i H ∧ D.nx σ H) ∨ ((Itl K a).go i H ∧ ∃ N : St → Hp → Prop, (∀ σ' H', N σ' H' → ∃ m', m' < m ∧ W (i + 1) m' σ' H') ∧ ∀ x H', (Itl K a).yld i H x H' → g x σ H' fun σ2 H2 => tb { D with nx := N, ct := N, bk := D.nx } σ2 H2) := by
  refine ⟨fun i m σ H => m = xs.length - i ∧ i ≤ xs.length ∧ Pv i σ H, ⟨xs.length, by simp, Nat.zero_le _, h0⟩, ?_⟩
  rintro i m σ H ⟨rfl, hi, p⟩
  have q := hl i σ H hi p
  by_cases hlt : i < xs.length
  · refine .inr ⟨⟨xs, xs[i], q, by simp [hlt]⟩, Pv (i + 1), fun σ' H' p' => ⟨xs.length - (i + 1), by omega, rfl, hlt, p'⟩, fun x H' y => ?_⟩
    obtain ⟨e, y⟩ := y
    subst e
    exact hs i x σ _ (y xs q) p
  · have e : i = xs.length := by omega
    subst e
    exact .inl ⟨⟨xs, q, Nat.le_refl _⟩, hd σ H p⟩
theorem for_range {lo : Int} {n : Nat} {g : TG} {tb : TS} {D : Ends} {σ : St} {H : Hp} (Pv : Nat → St → Hp → Prop) (h0 : Pv 0 σ H)
    (hs : ∀ i σ H, i < n → Pv i σ H → g (.int (lo + i)) σ H fun σ2 H2 => tb { D with nx := Pv (i + 1), ct := Pv (i + 1), bk := D.nx } σ2 H2) (hd : ∀ σ H, Pv n σ H → D.nx σ H) :
    ∃ W : Nat → Nat → St → Hp → Prop, (∃ m, W 0 m σ H) ∧ ∀ i m σ H, W i m σ H →
      ((Itr lo n).stop i H ∧ D.nx σ H) ∨ ((Itr lo n).go i H ∧ ∃ N : St → Hp → Prop, (∀ σ' H', N σ' H' → ∃ m', m' < m ∧ W (i + 1) m' σ' H') ∧ ∀ x H', (Itr lo n).yld i H x H' → g x σ H' fun σ2 H2 => tb { D with nx := N, ct := N, bk := D.nx } σ2 H2) := by
  refine ⟨fun i m σ H => m = n - i ∧ i ≤ n ∧ Pv i σ H, ⟨n, by simp, Nat.zero_le _, h0⟩, ?_⟩
  rintro i m σ H ⟨rfl, hi, p⟩
  by_cases hlt : i < n
  · refine .inr ⟨hlt, Pv (i + 1), fun σ' H' p' => ⟨n - (i + 1), by omega, rfl, hlt, p'⟩, fun x H' y => ?_⟩
    obtain ⟨e, y⟩ := y
    subst e y
    exact hs i σ _ hlt p
  · have e : i = n := by omega
    subst e
    exact .inl ⟨Nat.le_refl _, hd σ H p⟩
end L2

namespace L2
open PySem PySem.Spec PyProof.Rows

abbrev R2 := V → V → Hp → VK → Prop
/-- a two-place operation on values: f is binaryOp op, inplaceOp op or compareOp op -/
def OpR (X : Cx) (f : Value → Value → Sem Value) (r : R2) : Prop :=
  ∀ (pins : List (Addr × Obj)) (s : Shared) (σ : St) (H : Hp) (x y : V) (v u : Value) (Q : VK), Inv X pins σ H s → RelV x v → RelV y u → r x y H Q →
    wpAny (model X.prog X.w) X.A (f v u) (EP X pins σ Q) X.xe s
/-- a call of a value that is known (a builtin, a type) with values -/
def CallR (X : Cx) (f : Value) (r : List V → Hp → VK → Prop) : Prop :=
  ∀ (pins : List (Addr × Obj)) (s : Shared) (σ : St) (H : Hp) (xs : List V) (us : List Value) (Q : VK), Inv X pins σ H s → Vals xs us → r xs H Q →
    wpAny (model X.prog X.w) X.A (call f us) (EP X pins σ Q) X.xe s
def tOp (r : R2) (ta tb : TE) : TE := fun σ H Q => ta σ H fun x H1 => tb σ H1 fun y H2 => r x y H2 Q
/-- ints in, under C, and a value out -/
def rI (C : Int → Int → Prop) (g : Int → Int → V) : R2 := fun x y H Q => ∃ i j, x = .int i ∧ y = .int j ∧ C i j ∧ Q (g i j) H
def rI0 (g : Int → Int → V) : R2 := fun x y H Q => ∃ i j, x = .int i ∧ y = .int j ∧ Q (g i j) H
section
variable {X : Cx} {a b c : Expr} {ta tb tc : TE} {pos : Pos}

theorem binT (ha : PE X a ta) (hb : PE X b tb) {pins : List (Addr × Obj)} {s : Shared} {σ : St} {H : Hp} {R : V → V → Hp → Prop} (I : Inv X pins σ H s)
    (h : ta σ H fun x H1 => tb σ H1 fun y H2 => R x y H2) {Q : Value → Shared → Prop} {f : Value → Value → Sem Value}
    (hf : ∀ v u s2 x y H2, Inv X pins σ H2 s2 → RelV x v → RelV y u → R x y H2 → wpAny (model X.prog X.w) X.A (f v u) Q X.xe s2) :
    wpAny (model X.prog X.w) X.A (eval a X.env) (fun v s₁ => wpAny (model X.prog X.w) X.A (eval b X.env) (fun u s₂ => wpAny (model X.prog X.w) X.A (f v u) Q X.xe s₂) X.xe s₁) X.xe s := by
  refine thn (ha pins s σ H _ I h) fun v s1 ⟨x, H1, I1, r1, q1⟩ => ?_
  refine thn (hb pins s1 σ H1 _ I1 q1) fun u s2 ⟨y, H2, I2, r2, q2⟩ => ?_
  exact hf v u s2 x y H2 I2 r1 r2 q2

theorem pe_op {op : Operator} {r : R2} (ho : OpR X (binaryOp op) r) (ha : PE X a ta) (hb : PE X b tb) : PE X (.BinOp a op b pos) (tOp r ta tb) := by
  intro pins s σ H Q I h
  exact wpAny_BinOp (binT ha hb I h fun v u s2 x y H2 I2 rx ry q => ho pins s2 σ H2 x y v u Q I2 rx ry q)
/-! ### ints -/
theorem opI {f : Value → Value → Sem Value} {C : Int → Int → Prop} {g : Int → Int → Int}
    (rule : ∀ (i j : Int) (t u : Tok) (s : Shared) (Q : Value → Shared → Prop) (E : Value → Shared → Prop), C i j → Q (.int (g i j) s.toks) { s with toks := s.toks + 1 } → wpAny (model X.prog X.w) X.A (f (.int i t) (.int j u)) Q E s) :
    OpR X f (rI C fun i j => .int (g i j)) := by
  intro pins s σ H x y v u Q I rx ry h
  obtain ⟨i, j, rfl, rfl, hc, q⟩ := h
  obtain ⟨t, rfl⟩ := rx
  obtain ⟨t', rfl⟩ := ry
  exact rule i j t t' s _ _ hc ⟨.int (g i j), H, I.tok _, ⟨_, rfl⟩, q⟩
theorem opI0 {f : Value → Value → Sem Value} {g : Int → Int → Int}
    (rule : ∀ (i j : Int) (t u : Tok) (s : Shared) (Q : Value → Shared → Prop) (E : Value → Shared → Prop), Q (.int (g i j) s.toks) { s with toks := s.toks + 1 } → wpAny (model X.prog X.w) X.A (f (.int i t) (.int j u)) Q E s) :
    OpR X f (rI0 fun i j => .int (g i j)) := by
  intro pins s σ H x y v u Q I rx ry h
  obtain ⟨i, j, rfl, rfl, q⟩ := h
  obtain ⟨t, rfl⟩ := rx
  obtain ⟨t', rfl⟩ := ry
  exact rule i j t t' s _ _ ⟨.int (g i j), H, I.tok _, ⟨_, rfl⟩, q⟩
theorem opB0 {f : Value → Value → Sem Value} {g : Int → Int → Bool}
    (rule : ∀ (i j : Int) (t u : Tok) (s : Shared) (Q : Value → Shared → Prop) (E : Value → Shared → Prop), Q (.bool (g i j)) s → wpAny (model X.prog X.w) X.A (f (.int i t) (.int j u)) Q E s) :
    OpR X f (rI0 fun i j => .bl (g i j)) := by
  intro pins s σ H x y v u Q I rx ry h
  obtain ⟨i, j, rfl, rfl, q⟩ := h
  obtain ⟨t, rfl⟩ := rx
  obtain ⟨t', rfl⟩ := ry
  exact rule i j t t' s _ _ ⟨.bl (g i j), H, I, rfl, q⟩

def CDiv (i j : Int) : Prop := 0 < j ∧ j < 1073741824
def CMul (i j : Int) : Prop := (-(2 ^ 64) < i ∧ i < 2 ^ 64) ∨ (-(2 ^ 64) < j ∧ j < 2 ^ 64)
theorem CMul.ok {i j : Int} (h : CMul i j) : IntMulOk i j := by
  rcases h with ⟨h1, h2⟩ | ⟨h1, h2⟩
  · exact .of_left (intBits_le_64 h1 h2)
  · exact .of_right (intBits_le_64 h1 h2)
theorem op_add : OpR X (binaryOp .Add) (rI0 fun i j => .int (i + j)) := opI0 fun _ _ _ _ _ _ _ q => add_int q
theorem op_mul : OpR X (binaryOp .Mult) (rI CMul fun i j => .int (i * j)) := opI fun _ _ _ _ _ _ _ hc q => mul_int q hc.ok
/-- // by a positive divisor -/
theorem op_fdiv : OpR X (binaryOp .FloorDiv) (rI CDiv fun i j => .int (i / j)) := opI fun i j _ _ _ _ _ hc q => by
  have h1 : (0 : Int) < j := hc.1
  have h2 : j < 1073741824 := hc.2
  exact floordiv_int (by omega) (by rw [Int.fdiv_eq_ediv_of_nonneg i (by omega)]; exact q) (.inl (PyProof.noPylong_small (by omega)))
/-- % by a positive divisor of any size -/
theorem op_mod : OpR X (binaryOp .Mod) (rI (fun _ j => 0 < j) fun i j => .int (i % j)) := opI fun i j _ _ _ _ _ hc q => by
  have h1 : (0 : Int) < j := hc
  exact mod_int' (by omega) (by rw [Int.fmod_eq_emod_of_nonneg i (by omega)]; exact q)
/-! ### bools among ints: n += (a < b) -/
end

/-! ### comparisons -/
/-- the scalars that == tells apart as data does -/
def scal : V → V → Bool
  | .non, .non => true | .non, .int _ => true | .int _, .non => true | .non, .bl _ => true | .bl _, .non => true | .non, .str _ => true | .str _, .non => true
  | .int _, .int _ => true | .bl _, .bl _ => true | .str _, .str _ => true | .byt _, .byt _ => true
  | .int _, .str _ => true | .str _, .int _ => true | .bl _, .str _ => true | .str _, .bl _ => true
  | _, _ => false
def rEq : R2 := fun x y H Q => scal x y = true ∧ Q (.bl (decide (x = y))) H
def rNe : R2 := fun x y H Q => scal x y = true ∧ Q (.bl (!decide (x = y))) H

theorem dec_int {i j : Int} : decide (V.int i = V.int j) = (i == j) := by
  rw [Bool.eq_iff_iff]
  simp
theorem dec_bl {i j : Bool} : decide (V.bl i = V.bl j) = (i == j) := by
  rw [Bool.eq_iff_iff]
  simp
theorem dec_str {i j : Str} : decide (V.str i = V.str j) = (i == j) := by
  rw [Bool.eq_iff_iff]
  simp
theorem dec_byt {i j : Array UInt8} : decide (V.byt i = V.byt j) = (i.toList == j.toList) := by
  rw [Bool.eq_iff_iff]
  cases i
  cases j
  simp

section
variable {X : Cx} {a b c : Expr} {ta tb tc : TE} {pos : Pos}
theorem fin_bl {pins : List (Addr × Obj)} {σ : St} {H : Hp} {s : Shared} {Q : VK} {k k' : Bool} (I : Inv X pins σ H s) (q : Q (.bl k) H) (e : k = k') : EP X pins σ Q (.bool k') s := by
  subst e
  exact ⟨.bl k, H, I, rfl, q⟩
theorem op_eq : OpR X (compareOp .Eq) rEq := by
  intro pins s σ H x y v u Q I rx ry h
  obtain ⟨hs, q⟩ := h
  cases x with
  | non =>
    cases rx
    cases y with
    | non => cases ry; exact PySem.EqNone.eq_none_none (fin_bl I q (by simp))
    | bl j => cases ry; exact PySem.EqNone.eq_none_bool (fin_bl I q (by simp))
    | int j => obtain ⟨t', rfl⟩ := ry; exact PySem.EqNone.eq_none_int (fin_bl I q (by simp))
    | str j => obtain ⟨t', rfl⟩ := ry; exact PySem.EqNone.eq_none_str (fin_bl I q (by simp))
    | _ => exact absurd (show false = true from hs) Bool.false_ne_true
  | bl i =>
    cases rx
    cases y with
    | non => cases ry; exact PySem.EqNone.eq_bool_none (fin_bl I q (by simp))
    | bl j => cases ry; exact eq_bool (fin_bl I q dec_bl)
    | str j => obtain ⟨t', rfl⟩ := ry; exact PySem.EqMixed.eq_bool_str (fin_bl I q (by simp))
    | _ => exact absurd (show false = true from hs) Bool.false_ne_true
  | int i =>
    obtain ⟨t, rfl⟩ := rx
    cases y with
    | non => cases ry; exact PySem.EqNone.eq_int_none (fin_bl I q (by simp))
    | int j => obtain ⟨t', rfl⟩ := ry; exact eq_int (fin_bl I q dec_int)
    | str j => obtain ⟨t', rfl⟩ := ry; exact PySem.EqMixed.eq_int_str (fin_bl I q (by simp))
    | _ => exact absurd (show false = true from hs) Bool.false_ne_true
  | str i =>
    obtain ⟨t, rfl⟩ := rx
    cases y with
    | non => cases ry; exact PySem.EqNone.eq_str_none (fin_bl I q (by simp))
    | bl j => cases ry; exact PySem.EqMixed.eq_str_bool (fin_bl I q (by simp))
    | int j => obtain ⟨t', rfl⟩ := ry; exact PySem.EqMixed.eq_str_int (fin_bl I q (by simp))
    | str j => obtain ⟨t', rfl⟩ := ry; exact eq_str (fin_bl I q dec_str)
    | _ => exact absurd (show false = true from hs) Bool.false_ne_true
  | byt i =>
    obtain ⟨t, rfl⟩ := rx
    cases y with
    | byt j => obtain ⟨t', rfl⟩ := ry; exact PySem.W.eq_bytes (fin_bl I q dec_byt)
    | _ => exact absurd (show false = true from hs) Bool.false_ne_true
  | _ => cases y <;> exact absurd (show false = true from hs) Bool.false_ne_true
theorem op_ne : OpR X (compareOp .NotEq) rNe := by
  intro pins s σ H x y v u Q I rx ry h
  obtain ⟨hs, q⟩ := h
  cases x with
  | non =>
    cases rx
    cases y with
    | non => cases ry; exact PySem.EqNone.ne_none_none (fin_bl I q (by simp))
    | bl j => cases ry; exact PySem.EqNone.ne_none_bool (fin_bl I q (by simp))
    | int j => obtain ⟨t', rfl⟩ := ry; exact PySem.EqNone.ne_none_int (fin_bl I q (by simp))
    | str j => obtain ⟨t', rfl⟩ := ry; exact PySem.EqNone.ne_none_str (fin_bl I q (by simp))
    | _ => exact absurd (show false = true from hs) Bool.false_ne_true
  | bl i =>
    cases rx
    cases y with
    | non => cases ry; exact PySem.EqNone.ne_bool_none (fin_bl I q (by simp))
    | bl j => cases ry; exact ne_bool (fin_bl I q (congrArg not dec_bl))
    | str j => obtain ⟨t', rfl⟩ := ry; exact PySem.EqMixed.ne_bool_str (fin_bl I q (by simp))
    | _ => exact absurd (show false = true from hs) Bool.false_ne_true
  | int i =>
    obtain ⟨t, rfl⟩ := rx
    cases y with
    | non => cases ry; exact PySem.EqNone.ne_int_none (fin_bl I q (by simp))
    | int j => obtain ⟨t', rfl⟩ := ry; exact ne_int (fin_bl I q (congrArg not dec_int))
    | str j => obtain ⟨t', rfl⟩ := ry; exact PySem.EqMixed.ne_int_str (fin_bl I q (by simp))
    | _ => exact absurd (show false = true from hs) Bool.false_ne_true
  | str i =>
    obtain ⟨t, rfl⟩ := rx
    cases y with
    | non => cases ry; exact PySem.EqNone.ne_str_none (fin_bl I q (by simp))
    | bl j => cases ry; exact PySem.EqMixed.ne_str_bool (fin_bl I q (by simp))
    | int j => obtain ⟨t', rfl⟩ := ry; exact PySem.EqMixed.ne_str_int (fin_bl I q (by simp))
    | str j => obtain ⟨t', rfl⟩ := ry; exact ne_str (fin_bl I q (congrArg not dec_str))
    | _ => exact absurd (show false = true from hs) Bool.false_ne_true
  | byt i =>
    obtain ⟨t, rfl⟩ := rx
    cases y with
    | byt j => obtain ⟨t', rfl⟩ := ry; exact PySem.W.ne_bytes (fin_bl I q (congrArg not dec_byt))
    | _ => exact absurd (show false = true from hs) Bool.false_ne_true
  | _ => cases y <;> exact absurd (show false = true from hs) Bool.false_ne_true

theorem op_lt : OpR X (compareOp .Lt) (rI0 fun i j => .bl (decide (i < j))) := opB0 fun _ _ _ _ _ _ _ q => lt_int q
theorem op_le : OpR X (compareOp .LtE) (rI0 fun i j => .bl (decide (i ≤ j))) := opB0 fun _ _ _ _ _ _ _ q => le_int q
theorem nomark (b : Expr) {op : CmpOp} (h : op ≠ .In := by decide) (h2 : op ≠ .NotIn := by decide) : behindInMarks op b = false := by
  have e1 : (op == CmpOp.In) = false := by cases op <;> first | rfl | exact absurd rfl h
  have e2 : (op == CmpOp.NotIn) = false := by cases op <;> first | rfl | exact absurd rfl h2
  cases b <;> simp [behindInMarks, e1, e2]
/-- a comparison as a value; hm: nomark b, or (for in, not in) by with_unfolding_all rfl -/
theorem pe_cmpR {op : CmpOp} {r : R2} (ho : OpR X (compareOp op) r) (ha : PE X a ta) (hb : PE X b tb) (hm : behindInMarks op b = false) : PE X (.Compare a [op] [b] pos) (tOp r ta tb) := by
  intro pins s σ H Q I h
  exact wpAny_Compare1 (binT ha hb I h fun v u s2 x y H2 I2 rx ry q => ho pins s2 σ H2 x y v u Q I2 rx ry q) hm
/-- a reading of a value as a test -/
def tTest (t : TE) : TT := fun σ H Q => t σ H fun x H' => ∃ k, x = .bl k ∧ Q k H'
theorem pt_cmpR {op : CmpOp} {r : R2} (ho : OpR X (compareOp op) r) (ha : PE X a ta) (hb : PE X b tb) (hm : behindInMarks op b = false) : PT X (.Compare a [op] [b] pos) (tTest (tOp r ta tb)) := by
  intro pins s σ H Q I h
  refine wpAny_isTrue_Compare1 (thn (ha pins s σ H _ I h) fun v s1 ⟨x, H1, I1, r1, q1⟩ => thn (hb pins s1 σ H1 _ I1 q1) fun u s2 ⟨y, H2, I2, r2, q2⟩ =>
    thn (ho pins s2 σ H2 x y v u _ I2 r1 r2 q2) fun c s3 ⟨z, H3, I3, r3, k, e, q3⟩ => ?_) hm
  subst e
  cases r3
  exact wpAny_truthy_bool ⟨H3, I3, q3⟩
/-- a op1 b op2 c -/
def tChain (r r' : R2) (ta tb tc : TE) : TE := fun σ H Q => ta σ H fun x H1 => tb σ H1 fun y H2 => r x y H2 fun z H3 => ∃ k, z = .bl k ∧
  (if k = true then tc σ H3 fun w' H4 => r' y w' H4 Q else Q (.bl false) H3)
theorem pt_chain {op op' : CmpOp} {r r' : R2} (ho : OpR X (compareOp op) r) (ho' : OpR X (compareOp op') r') (ha : PE X a ta) (hb : PE X b tb) (hc : PE X c tc)
    (hm : lastMarks [op, op'] [b, c] = false := by with_unfolding_all rfl) : PT X (.Compare a [op, op'] [b, c] pos) (tTest (tChain r r' ta tb tc)) := by
  intro pins s σ H Q I h
  refine isTrue_chain (thn (ha pins s σ H _ I h) fun v s1 ⟨x, H1, I1, r1, q1⟩ => test_link (thn (hb pins s1 σ H1 _ I1 q1) fun u s2 ⟨y, H2, I2, r2, q2⟩ =>
    thn (ho pins s2 σ H2 x y v u _ I2 r1 r2 q2) fun d s3 ⟨z, H3, I3, r3, k, e, q3⟩ => ?_)) hm
  subst e
  cases r3
  refine wpAny_truthy_bool ?_
  cases k with
  | false =>
    obtain ⟨k', e', q'⟩ := q3
    cases e'
    exact ite_ff ⟨H3, I3, q'⟩
  | true =>
    refine ite_tt (test_last (thn (hc pins s3 σ H3 _ I3 q3) fun w' s4 ⟨z', H4, I4, r4, q4⟩ => thn (ho' pins s4 σ H4 y z' u w' _ I4 r2 r4 q4) fun d' s5 ⟨z2, H5, I5, r5, k2, e2, q5⟩ => ?_))
    subst e2
    cases r5
    exact wpAny_truthy_bool ⟨H5, I5, q5⟩

/-! ### truth -/
theorem line63 : (sizeLine : Nat) < 2 ^ 63 := by rw [sizeLine_eq]; decide
/-! ### strs and bytes -/
theorem op_add_str : OpR X (binaryOp .Add) (fun x y H Q => ∃ i j, x = .str i ∧ y = .str j ∧ i.length + j.length ≤ sizeLine ∧ Q (.str (i ++ j)) H) := by
  intro pins s σ H x y v u Q I rx ry h
  obtain ⟨i, j, rfl, rfl, hz, q⟩ := h
  obtain ⟨t, rfl⟩ := rx
  obtain ⟨t', rfl⟩ := ry
  exact add_str (fun t' tk => ⟨.str (i ++ j), H, I.tok _, ⟨_, rfl⟩, q⟩) hz
/-! ### scalar builtins, by CallR -/
theorem vals1 {x : V} {us : List Value} (r : Vals [x] us) : ∃ u, us = [u] ∧ RelV x u := by
  cases r with
  | cons r1 r2 => cases r2; exact ⟨_, rfl, r1⟩
theorem vals2 {x y : V} {us : List Value} (r : Vals [x, y] us) : ∃ u w', us = [u, w'] ∧ RelV x u ∧ RelV y w' := by
  cases r with
  | cons r1 r2 =>
    cases r2 with
    | cons r3 r4 => cases r4; exact ⟨_, _, rfl, r1, r3⟩
theorem call_int1 : CallR X (.type "int") (fun xs H Q => (∃ i, xs = [.int i] ∧ Q (.int i) H) ∨ ∃ k, xs = [.bl k] ∧ Q (.int (if k then 1 else 0)) H) := by
  intro pins s σ H xs us Q I r h
  rcases h with ⟨i, rfl, q⟩ | ⟨k, rfl, q⟩
  · obtain ⟨u, rfl, t, rfl⟩ := vals1 r
    exact call_int_int ⟨.int i, H, I, ⟨_, rfl⟩, q⟩
  · obtain ⟨u, rfl, r1⟩ := vals1 r
    cases r1
    exact call_int_bool ⟨.int (if k then 1 else 0), H, I.tok _, ⟨_, rfl⟩, q⟩
theorem call_str_int : CallR X (.type "str") (fun xs H Q => ∃ i, xs = [.int i] ∧ i.natAbs.log2 < 1920 ∧ Q (.str (toString i)) H) := by
  intro pins s σ H xs us Q I r h
  obtain ⟨i, rfl, hz, q⟩ := h
  obtain ⟨u, rfl, t, rfl⟩ := vals1 r
  exact PySem.P.str_of_int hz ⟨.str _, H, I.tok _, ⟨_, rfl⟩, q⟩
end
end L2

namespace L2
open PySem PySem.Spec PyProof.Rows

/-! ### an instance, its attributes a map -/
structure ObjM (h : Heap) (x dx C : Addr) (mA : Str → Option Value) : Prop where
  obj : h.get? x = some (PySem.W.instObj C dx)
  ns : h.Ns1 dx mA
  ne : dx ≠ x

theorem lookIn_ns {h : Heap} {dx : Addr} {mA : Str → Option Value} (n : h.Ns1 dx mA) : ∃ od, h.get? dx = some od ∧ ∀ name, PySem.W.lookIn name od = some (mA name) := by
  obtain ⟨o, es, ep, ho, hd, hk, _, hm⟩ := n
  refine ⟨o, ho, fun name => ?_⟩
  have e := hm name
  unfold nsFind findBy at e
  rw [← Array.find?_toList] at e
  unfold PySem.W.lookIn
  rw [hd]
  dsimp only
  split
  · rename_i y q
    rw [q] at e
    exact congrArg some e
  · rename_i q
    rw [q] at e
    have a : es.toList.any (·.refKey) = false := by
      rw [List.any_eq_false]
      intro y hy
      obtain ⟨z, t, hkey⟩ := hk y (Array.mem_toList_iff.mp hy)
      simp [DictEntry.refKey, hkey]
    have a' : ¬ es.toList.any (·.refKey) = true := by rw [a]; exact Bool.false_ne_true
    rw [if_neg a']
    exact congrArg some e

theorem ObjM.look {h : Heap} {x dx C : Addr} {mA : Str → Option Value} (I : ObjM h x dx C mA) : ∃ od, PySem.W.InstAt h x (PySem.W.instObj C dx) C (some od) ∧ ∀ name, PySem.W.lookIn name od = some (mA name) :=
  let ⟨od, ho, hl⟩ := lookIn_ns I.ns
  ⟨od, ⟨I.obj, rfl, rfl, ho⟩, hl⟩

section
variable {prog : Program} {w : World} {A : Around} {E : Value → Shared → Prop} {s : Shared} {K : PySem.W.Frag} {x dx C f : Addr} {mA : Str → Option Value} {name : Str} {v : Value}

theorem get_map {expr : Bool} {Q : Value → Shared → Prop} (X : K.In s.heap) (I : ObjM s.heap x dx C mA) (hg : PySem.W.plainGet K C name = true) (hh : PySem.W.hasDictIn K C = true)
    (ha : PySem.W.findIn K (.ref C) name = some none) (hv : mA name = some v) (hv' : PySem.W.handedIn v = true) (h : Q v { s with toks := s.toks + 1 }) :
    wpAny (model prog w) A (getAttr (.ref x) name expr) Q E s := by
  obtain ⟨od, J, hl⟩ := I.look
  exact PySem.W.get_value X J (PySem.W.plainGet_of hg).1 (PySem.W.findObj_own hh ha rfl (by rw [hl, hv])) hv' h

theorem set_map {ns : List Str} {Q : Unit → Shared → Prop} (X : K.In s.heap) (I : ObjM s.heap x dx C mA)
    (hs : PySem.W.findIn K (.ref C) "__setattr__" = some (some (.builtin "object.__setattr__"))) (hp : PySem.W.plainOver K C = true) (ht : PySem.W.takerIn K C name = some none) (hh : PySem.W.hasDictIn K C = true)
    (hw : PySem.Within mA ns) (hsz : ns.length ≤ sizeLine)
    (h : ∀ h', ObjM h' x dx C (fun y => if y = name then some v else mA y) → Heap.SameBut dx s.heap h' → Q () { s with heap := h', toks := s.toks + 2 }) :
    wpAny (model prog w) A (setAttr (.ref x) name v) Q E s := by
  obtain ⟨od, J, hl⟩ := I.look
  refine PySem.W.set_plain X J hs (PySem.W.osa_open (s := { s with toks := s.toks + 1 }) (r := none) X J hp ht fun b => ?_)
  obtain ⟨cd, hc, hd'⟩ := PySem.W.any_some hh
  have hx : s.heap.get? x = some ⟨.ref C, some dx, .plain, #[]⟩ := I.obj
  refine wpAny_bind (wpAny_pure (wpAny_bind (wpAny_bind (wpAny_loadPart hx (wpAny_bind (PySem.W.Looks.here (s := { s with toks := s.toks + 1 }) (PySem.W.looks_clsIn X hc) ?_))))))
  rw [hd']
  refine wpAny_pure (a := some dx) (wpAny_bind (wpAny_pure (wpAny_bind ?_)))
  refine wpAny_nsSet1 (s := { s with toks := s.toks + 1 }) I.ns fun h' hn2 hs2 => ?_
  obtain ⟨oD, esD, epD, hoD, hdD, hcD⟩ := hn2.count (PySem.Within.cons name v hw)
  refine wpAny_bind (wpAny_lookBehind hoD (by rw [hdD]; exact pastItsLine_dict (Nat.le_trans hcD (by rw [List.length_cons]; omega))) ?_)
  exact wpAny_pure (h _ ⟨(hs2.2 _ (Ne.symm I.ne)).trans I.obj, hn2, I.ne⟩ hs2)

/-- C(..): the dict at the heap's end, the instance behind it; then its __init__ -/
theorem make_map {R : Result → Shared → Prop} {vs : List Value} {kw : List (Str × Value)} (X : K.In s.heap) (hm : PySem.W.makesIn K C = true)
    (hi : PySem.W.findIn K (.ref C) "__init__" = some (some (.ref f))) (hf : PySem.W.typeIn K (.ref f) = some (.type "function"))
    (h : codeAny (model prog w) (A.under (.builtin "type.__call__" ⟨.ref C :: vs, kw⟩)) (.call (.ref f) ⟨.ref (s.heap.objs.size + 1) :: vs, kw⟩) (PySem.W.InitBack (s.heap.objs.size + 1) R)
      { s with heap := (s.heap.push PySem.W.emptyDict).push (PySem.W.instObj C s.heap.objs.size) }) :
    codeAny (model prog w) A (.call (.ref C) ⟨vs, kw⟩) R s := by
  obtain ⟨hh, g, d, t, os⟩ := s
  exact PySem.W.make_core (PySem.W.makes_of X hm) (PySem.W.looks_findIn X hi) (fun self => PySem.W.bind_fn X self hf) (.inl rfl) h
end

/-! ### the attributes as a list of pairs -/
def putF (f : Str) (v : V) : List (Str × V) → List (Str × V)
  | [] => [(f, v)]
  | (g, x) :: r => if g = f then (g, v) :: r else (g, x) :: putF f v r
theorem lookup_putF (f g : Str) (v : V) : ∀ fs : List (Str × V), (putF f v fs).lookup g = if g = f then some v else fs.lookup g
  | [] => by
    show List.lookup g [(f, v)] = _
    by_cases h : g = f
    · have hb : (g == f) = true := beq_iff_eq.mpr h
      simp only [List.lookup, hb, if_pos h]
    · have hb : (g == f) = false := beq_eq_false_iff_ne.mpr h
      simp only [List.lookup, hb, if_neg h]
  | (k, x) :: r => by
    have ih := lookup_putF f g v r
    rw [show putF f v ((k, x) :: r) = (if k = f then (k, v) :: r else (k, x) :: putF f v r) from rfl]
    by_cases hk : k = f
    · rw [if_pos hk]
      by_cases h : g = k
      · have hb : (g == k) = true := beq_iff_eq.mpr h
        simp only [List.lookup, hb, if_pos (h.trans hk)]
      · have hb : (g == k) = false := beq_eq_false_iff_ne.mpr h
        simp only [List.lookup, hb, if_neg (fun e : g = f => h (e.trans hk.symm))]
    · rw [if_neg hk]
      by_cases h : g = k
      · have hb : (g == k) = true := beq_iff_eq.mpr h
        simp only [List.lookup, hb, if_neg (fun e : g = f => hk (h.symm.trans e))]
      · have hb : (g == k) = false := beq_eq_false_iff_ne.mpr h
        simp only [List.lookup, hb]
        exact ih
theorem keys_putF (f : Str) (v : V) : ∀ fs : List (Str × V), f ∈ (putF f v fs).map (·.1) ∧ ∀ g, g ∈ fs.map (·.1) → g ∈ (putF f v fs).map (·.1)
  | [] => ⟨by simp [putF], fun g h => by simp at h⟩
  | (k, x) :: r => by
    obtain ⟨i1, i2⟩ := keys_putF f v r
    rw [show putF f v ((k, x) :: r) = (if k = f then (k, v) :: r else (k, x) :: putF f v r) from rfl]
    by_cases hk : k = f
    · rw [if_pos hk]
      subst hk
      exact ⟨by simp, fun g h => by simpa using h⟩
    · rw [if_neg hk]
      refine ⟨?_, fun g h => ?_⟩
      · rw [List.map_cons]
        exact List.mem_cons_of_mem _ i1
      · rw [List.map_cons] at h ⊢
        rcases List.mem_cons.mp h with e | e
        · exact List.mem_cons.mpr (.inl e)
        · exact List.mem_cons_of_mem _ (i2 g e)
theorem length_putF (f : Str) (v : V) : ∀ fs : List (Str × V), (putF f v fs).length ≤ fs.length + 1
  | [] => by simp [putF]
  | (k, x) :: r => by
    have ih := length_putF f v r
    rw [show putF f v ((k, x) :: r) = (if k = f then (k, v) :: r else (k, x) :: putF f v r) from rfl]
    by_cases hk : k = f
    · rw [if_pos hk, List.length_cons, List.length_cons]; omega
    · rw [if_neg hk, List.length_cons, List.length_cons]; omega

theorem RelO.some_of {v : V} {o : Option Value} (r : RelO (some v) o) : ∃ u, o = some u ∧ RelV v u := by
  cases o with
  | none => exact (show False from r).elim
  | some u => exact ⟨u, rfl, r⟩
theorem handed_of {v : V} {u : Value} (r : RelV v u) : PySem.W.handedIn u = true := by
  cases v with
  | non => cases (show u = Value.none from r); rfl
  | bl b => cases (show u = Value.bool b from r); rfl
  | int i => obtain ⟨t, e⟩ := (show ∃ t, u = Value.int i t from r); cases e; rfl
  | str x => obtain ⟨t, e⟩ := (show ∃ t, u = Value.str x t from r); cases e; rfl
  | byt b => obtain ⟨t, e⟩ := (show ∃ t, u = Value.bytes b t from r); cases e; rfl
  | flt b => obtain ⟨t, e⟩ := (show ∃ t, u = Value.float b t from r); cases e; rfl
  | ref a => cases (show u = Value.ref a from r); rfl
  | ty n => cases (show u = Value.type n from r); rfl

section
variable {P : Program} {w : World} {H H' : Hp} {h h' : Heap} {a C dx : Addr} {fs fs' : List (Str × V)}
theorem ins_get (hok : HOk P w H h) (e : H a = some (.ins C dx fs)) : ∃ mA, ObjM h a dx C mA ∧ (∀ f, RelO (fs.lookup f) (mA f)) ∧ PySem.Within mA (fs.map (·.1)) ∧ fs.length ≤ 1000 ∧ H dx = some (.own a) := by
  obtain ⟨d, z, ne, ob, mA, n, r, q⟩ := (show ObjOk P w H h a (.ins C dx fs) from hok a _ e)
  exact ⟨mA, ⟨ob, n, ne⟩, r, q, z, d⟩
end

/-! ### what of the text a class must have -/
structure Cls (K : PySem.W.Frag) (C : Addr) : Prop where
  pg : PySem.W.plainGet K C Str.empty = true
  hd : PySem.W.hasDictIn K C = true
  po : PySem.W.plainOver K C = true
  sa : PySem.W.findIn K (.ref C) "__setattr__" = some (some (.builtin "object.__setattr__"))
theorem Cls.get {K : PySem.W.Frag} {C : Addr} (c : Cls K C) (f : Str) : PySem.W.plainGet K C f = true := c.pg
/-- no class of it has the name -/
def NoAttr (K : PySem.W.Frag) (C : Addr) (f : Str) : Prop := PySem.W.findIn K (.ref C) f = some none
theorem NoAttr.taker {K : PySem.W.Frag} {C : Addr} {f : Str} (n : NoAttr K C f) : PySem.W.takerIn K C f = some none := by
  unfold PySem.W.takerIn
  rw [show PySem.W.findIn K (.ref C) f = some none from n]
  rfl
/-- a method: a plain def of the class or of one above it -/
structure Meth (K : PySem.W.Frag) (C : Addr) (m : Str) (f : Addr) : Prop where
  at_ : PySem.W.findIn K (.ref C) m = some (some (.ref f))
  fn : PySem.W.isFn K (.ref f) = true
  kp : PySem.W.keepIn K (.ref f) = true

section
variable {X : Cx} {pins : List (Addr × Obj)} {σ : St} {H : Hp} {s : Shared} {a C dx : Addr} {fs : List (Str × V)} {f : Str} {v : V} {A : Around} {E : Value → Shared → Prop}

theorem getattr_ok {b : Bool} {Q : Value → Shared → Prop} (I : Inv X pins σ H s) (e : H a = some (.ins C dx fs)) (c : Cls X.K C) (n : NoAttr X.K C f) (l : fs.lookup f = some v)
    (h : ∀ u s', Inv X pins σ H s' → RelV v u → Q u s') : wpAny (model X.prog X.w) A (getAttr (.ref a) f b) Q E s := by
  obtain ⟨mA, O, r, _, _, _⟩ := ins_get I.hok e
  obtain ⟨u, hu, ru⟩ := RelO.some_of (v := v) (o := mA f) (by rw [← l]; exact r f)
  exact get_map I.kIn O (c.get f) c.hd n hu (handed_of ru) (h u _ (I.tok _) ru)

theorem setattr_ok {y : V} {u : Value} {Q : Unit → Shared → Prop} (I : Inv X pins σ H s) (e : H a = some (.ins C dx fs)) (c : Cls X.K C) (n : NoAttr X.K C f) (hl : fs.length < 1000) (ry : RelV y u)
    (h : ∀ s', Inv X pins σ (upd H a (.ins C dx (putF f y fs))) s' → Q () s') : wpAny (model X.prog X.w) A (setAttr (.ref a) f u) Q E s := by
  obtain ⟨mA, O, r, wi, _, ho⟩ := ins_get I.hok e
  have hz : (fs.map (·.1)).length ≤ sizeLine := by rw [List.length_map, sizeLine_eq]; omega
  refine set_map I.kIn O c.sa c.po n.taker c.hd wi hz fun h' O' sb => h _ ?_
  have hd : ∃ o, h'.get? dx = some o := let ⟨o, _, _, e', _⟩ := O'.ns; ⟨o, e'⟩
  refine I.write (x := a) (e := dx) (by rw [e]; exact True.intro) (.inr ho) (fun b q hb z => (sb.2 b hb).trans z) hd ?_
  refine ⟨by rw [upd_ne O.ne]; exact ho, ?_, O.ne, O'.obj, _, O'.ns, fun g => ?_, fun g hg => ?_⟩
  · have := length_putF f y fs; omega
  · show RelO ((putF f y fs).lookup g) (if g = f then some u else mA g)
    rw [lookup_putF]
    by_cases q : g = f
    · rw [if_pos q, if_pos q]; exact ry
    · rw [if_neg q, if_neg q]; exact r g
  · by_cases q : g = f
    · rw [q]; exact (keys_putF f y fs).1
    · refine (keys_putF f y fs).2 g (wi g fun z => hg ?_)
      show (if g = f then some u else mA g) = none
      rw [if_neg q]; exact z

/-- a new instance, tracked, without attributes -/
theorem Inv.made (I : Inv X pins σ H s) : Inv X pins σ (upd (upd H s.heap.objs.size (.own (s.heap.objs.size + 1))) (s.heap.objs.size + 1) (.ins C s.heap.objs.size []))
    { s with heap := (s.heap.push PySem.W.emptyDict).push (PySem.W.instObj C s.heap.objs.size) } := by
  have e1 : (s.heap.push PySem.W.emptyDict).get? s.heap.objs.size = some PySem.W.emptyDict := Heap.get?_push_size s.heap rfl
  have e2 : ((s.heap.push PySem.W.emptyDict).push (PySem.W.instObj C s.heap.objs.size)).get? (s.heap.objs.size + 1) = some (PySem.W.instObj C s.heap.objs.size) := by
    have := Heap.get?_push_size (s.heap.push PySem.W.emptyDict) (o := PySem.W.instObj C s.heap.objs.size) rfl
    rwa [Heap.size_push] at this
  have e3 : (s.heap.push PySem.W.emptyDict).Ns s.heap.objs.size (fun _ => none) := ⟨PySem.W.emptyDict, #[], _, e1, rfl, (fun e he => absurd he (by simp)), fun _ => rfl⟩
  have I1 := I.laid (a := s.heap.objs.size) (o := .own (s.heap.objs.size + 1)) (h' := s.heap.push PySem.W.emptyDict) (t' := s.toks) (fun b u q => Heap.get?_push_of_some _ q) (Nat.le_refl _) ⟨_, e1⟩
  refine I1.laid (a := s.heap.objs.size + 1) (o := .ins C s.heap.objs.size []) (t' := s.toks) (fun b u q => Heap.get?_push_of_some _ q) (Nat.le_of_eq (Heap.size_push _ _)) ?_
  have ne : s.heap.objs.size ≠ s.heap.objs.size + 1 := Nat.ne_of_lt (Nat.lt_succ_self _)
  refine ⟨by rw [upd_ne ne, upd_same], Nat.zero_le _, ne, e2, fun _ => none, (Heap.Ns1.of_empty e3).at fun o q => Heap.get?_push_of_some _ q, fun _ => True.intro, fun y hy => absurd rfl hy⟩

/-- e.f where nothing but the object is asked: through attributeBase (super) and the last hold -/
theorem attr_of {prog : Program} {w : World} {env : Env} {e : Expr} {f : Str} {pos : Pos} {s : Shared} {Q : Value → Shared → Prop} (hb : attributeBase e f env (eval e env) = eval e env)
    (h : wpAny (model prog w) A (eval e env) (fun o s₁ => wpAny (model prog w) A (getAttr o f true) Q E s₁) E s) : wpAny (model prog w) A (eval (.Attribute e f pos) env) Q E s :=
  Attribute_any_ h (by rw [arm_eval_Attribute, hb])
end

/-! ### readings and rules -/
/-- e.f, an attribute of the instance -/
def tFld (K : PySem.W.Frag) (ta : TE) (f : Str) : TE := fun σ H Q => ta σ H fun x H1 => ∃ a C dx fs v, x = .ref a ∧ H1 a = some (.ins C dx fs) ∧ Cls K C ∧ NoAttr K C f ∧ fs.lookup f = some v ∧ Q v H1
/-- e.f = value -/
def sFld (K : PySem.W.Frag) (ta tv : TE) (f : Str) : TS := fun D σ H => tv σ H fun y H1 => ta σ H1 fun x H2 => ∃ a C dx fs, x = .ref a ∧ H2 a = some (.ins C dx fs) ∧ Cls K C ∧ NoAttr K C f ∧ fs.length < 1000 ∧
  D.nx σ (upd H2 a (.ins C dx (putF f y fs)))
section
variable {X : Cx} {o e value : Expr} {f : Str} {pos pos' tpos : Pos} {ta tv : TE}
theorem pe_fld (he : PE X e ta) (hb : attributeBase e f X.env (eval e X.env) = eval e X.env) : PE X (.Attribute e f pos) (tFld X.K ta f) := by
  intro pins s σ H Q I h
  refine attr_of hb (thn (he pins s σ H _ I h) fun u s1 ⟨x, H1, I1, rx, a, C, dx, fs, v, ex, ea, c, n, l, q⟩ => ?_)
  subst ex
  obtain rfl : u = Value.ref a := rx
  exact getattr_ok I1 ea c n l fun u' s2 I2 ru => ⟨v, H1, I2, ru, q⟩
theorem ps_fld (ha : PE X o ta) (hv : PE X value tv) (hs : swapsWith value (some (.Attribute o f pos')) pos.line X.env = pure false) : PS X (.Assign [.Attribute o f pos'] value pos) (sFld X.K ta tv f) := by
  intro pins s σ H D I h
  refine plainObj_wpAny_Assign_Attribute (thn (hv pins s σ H _ I h) fun u s1 ⟨y, H1, I1, ry, q⟩ => thn (ha pins s1 σ H1 _ I1 q) fun ov s2 ⟨x, H2, I2, rx, a, C, dx, fs, ex, ea, c, n, l, q2⟩ => ?_) hs
  subst ex
  obtain rfl : ov = Value.ref a := rx
  exact setattr_ok I2 ea c n l ry fun s3 I3 => ⟨σ, _, I3, q2⟩
end

/-! ### isinstance -/
section
variable {X : Cx} {pins : List (Addr × Obj)} {σ : St} {H : Hp} {s : Shared} {A : Around} {E : Value → Shared → Prop} {Q : Value → Shared → Prop} {c : Value} {b : Bool}
/-- the type of a value, as the fragment's deciders take it; for an instance its class -/
inductive TyOf (K : PySem.W.Frag) (H : Hp) : V → Value → Prop where
  | non : TyOf K H .non (.type "NoneType")
  | bl (x : Bool) : TyOf K H (.bl x) (.type "bool")
  | int (i : Int) : TyOf K H (.int i) (.type "int")
  | str (x : Str) : TyOf K H (.str x) (.type "str")
  | flt (x : UInt64) : TyOf K H (.flt x) (.type "float")
  | lst {a : Addr} {xs : List V} (e : H a = some (.lst xs)) : TyOf K H (.ref a) (.type "list")
  | frz {a : Addr} {o : Obj} {xs : List V} (e : H a = some (.frz o (.lst xs))) : TyOf K H (.ref a) (.type "list")
  | tup {a : Addr} {xs : List V} (e : H a = some (.tup xs)) : TyOf K H (.ref a) (.type "tuple")
  | dK {a : Addr} {kvs : List (Key × V)} (e : H a = some (.dK kvs)) : TyOf K H (.ref a) (.type "dict")
  | dT {a : Addr} {kvs : List (List Key × V)} (e : H a = some (.dT kvs)) : TyOf K H (.ref a) (.type "dict")
  | ins {a C dx : Addr} {fs : List (Str × V)} (e : H a = some (.ins C dx fs)) (cl : Cls K C) (ha : PySem.W.findIn K (.ref C) "__class__" = some (some (.builtin "object.__class__")))
      (hn : PySem.W.specialIn K (.builtin "object.__class__") "__get__" = some (some (.builtin "getset_descriptor.__get__"))) (htk : PySem.W.takesIn K (.builtin "object.__class__") = some true)
      (hm : PySem.W.mroIn K C (.type "object") = some true) : TyOf K H (.ref a) (.ref C)
/-- isinstance(x, c) for one class c, a built-in or an own one: kitOne's answer -/
theorem isinst_ok {x : V} {u t : Value} (I : Inv X pins σ H s) (rx : RelV x u) (ty : TyOf X.K H x t) (e : PySem.W.kitOne X.K t c = some b) (h : ∀ tk, Q (.bool b) { s with toks := tk }) :
    wpAny (model X.prog X.w) A (call (.builtin "isinstance") [u, c]) Q E s := by
  cases ty with
  | non => cases (show u = Value.none from rx); exact PySem.W.kia_one PySem.W.kitx_none I.kIn True.intro e (fun z => nomatch z) h
  | bl y => cases (show u = Value.bool y from rx); exact PySem.W.kia_one PySem.W.kitx_bool I.kIn True.intro e (fun z => nomatch z) h
  | int i => obtain ⟨t, q⟩ := (show ∃ t, u = Value.int i t from rx); cases q; exact PySem.W.kia_one PySem.W.kitx_int I.kIn True.intro e (fun z => nomatch z) h
  | str y => obtain ⟨t, q⟩ := (show ∃ t, u = Value.str y t from rx); cases q; exact PySem.W.kia_one PySem.W.kitx_str I.kIn True.intro e (fun z => nomatch z) h
  | flt y => obtain ⟨t, q⟩ := (show ∃ t, u = Value.float y t from rx); cases q; exact PySem.W.kia_one PySem.W.kitx_float I.kIn True.intro e (fun z => nomatch z) h
  | @lst a xs ea =>
    cases (show u = Value.ref a from rx)
    obtain ⟨_, _, n, _, h1⟩ := (show ObjOk X.prog X.w H s.heap a (.lst xs) from I.hok a _ ea)
    exact PySem.W.kia_one PySem.W.kitx_list I.kIn ⟨_, h1, rfl⟩ e (fun z => nomatch z) h
  | @frz a ob xs ea =>
    cases (show u = Value.ref a from rx)
    obtain ⟨_, _, _, n, _, h1⟩ := (show ObjOk X.prog X.w H s.heap a (.frz ob (.lst xs)) from I.hok a _ ea)
    exact PySem.W.kia_one PySem.W.kitx_list I.kIn ⟨_, h1, rfl⟩ e (fun z => nomatch z) h
  | @tup a xs ea =>
    cases (show u = Value.ref a from rx)
    obtain ⟨_, _, _, p⟩ := (show ObjOk X.prog X.w H s.heap a (.tup xs) from I.hok a _ ea)
    obtain ⟨o, h1, h2, _⟩ := p
    exact PySem.W.kia_one PySem.W.kitx_tuple I.kIn ⟨o, h1, h2⟩ e (fun z => nomatch z) h
  | @dK a kvs ea =>
    cases (show u = Value.ref a from rx)
    obtain ⟨_, _, vs, _, p⟩ := (show ObjOk X.prog X.w H s.heap a (.dK kvs) from I.hok a _ ea)
    obtain ⟨o, es, ep, h1, h2, _⟩ := p
    exact PySem.W.kia_one PySem.W.kitx_dict I.kIn ⟨o, h1, h2.1⟩ e (fun z => nomatch z) h
  | @dT a kvs ea =>
    cases (show u = Value.ref a from rx)
    obtain ⟨_, _, xs, _, o, es, ep, h1, h2, _⟩ := (show ObjOk X.prog X.w H s.heap a (.dT kvs) from I.hok a _ ea)
    exact PySem.W.kia_one PySem.W.kitx_dict I.kIn ⟨o, h1, h2.1⟩ e (fun z => nomatch z) h
  | @ins a C dx fs ea cl ha hn htk hm =>
    cases (show u = Value.ref a from rx)
    obtain ⟨mA, O, _⟩ := ins_get I.hok ea
    obtain ⟨od, J, _⟩ := O.look
    exact PySem.W.kia_one (PySem.W.kitx_own (cl.get _) cl.hd ha hn htk hm) I.kIn J e (fun z => nomatch z) h
end
end L2

namespace L2
open PySem PySem.Spec PyProof.Rows

/-! ### room -/
structure Room (k : Nat) (A : Around) : Prop where
  hd : A.handled = none
  dp : A.depth + 3 * k + 5 < recursionLimit
  un : A.units + 16 * k + 200 < cLine
theorem Room.mono {j k : Nat} {A : Around} (r : Room k A) (h : j ≤ k) : Room j A := ⟨r.hd, by have := r.dp; omega, by have := r.un; omega⟩
theorem Room.deeper {k : Nat} {A : Around} (r : Room (k + 1) A) (env : Env) : Room k (A.deeper env) :=
  ⟨r.hd, by have := r.dp; show A.depth + 1 + 3 * k + 5 < _; omega, by have := r.un; show A.units + 3 + 16 * k + 200 < _; omega⟩
theorem make_depth {A : Around} {C : Addr} {us : List Value} {kw : List (Str × Value)} : (A.under (.builtin "type.__call__" ⟨.ref C :: us, kw⟩)).depth = A.depth + 1 := by
  first | rfl | simp [Around.under, Code.weight, Code.isCreation, Code.isGuard, Code.isCaller, Code.frames, Code.isFrame, guardIds]
theorem make_units {A : Around} {C : Addr} {us : List Value} {kw : List (Str × Value)} : (A.under (.builtin "type.__call__" ⟨.ref C :: us, kw⟩)).units = A.units + 1 := by
  first | rfl | simp [Around.under, Code.cUnits, Code.frames, Code.isFrame]
theorem Room.make {k : Nat} {A : Around} (r : Room (k + 1) A) (C : Addr) (us : List Value) (kw : List (Str × Value)) : Room k (A.under (.builtin "type.__call__" ⟨.ref C :: us, kw⟩)) :=
  ⟨r.hd, by have := r.dp; rw [make_depth]; omega, by have := r.un; rw [make_units]; omega⟩
theorem Room.depth {k : Nat} {A : Around} (r : Room k A) : A.depth < recursionLimit := by have := r.dp; omega
theorem Room.units {k : Nat} {A : Around} (r : Room k A) : A.units + 64 < cLine := by have := r.un; omega
/-! ### argument lists and displays -/
def tNil : TA := fun _ H Q => Q [] H
def tCons (ta : TE) (tr : TA) : TA := fun σ H Q => ta σ H fun x H1 => tr σ H1 fun xs H2 => Q (x :: xs) H2
section
variable {X : Cx} {e : Expr} {es : List Expr} {te : TE} {t : TA} {pos : Pos}
theorem pa_nil : PA X [] tNil := fun _ _ _ _ H Q I h => Calls.spliced_nil ⟨[], H, I, .nil, h⟩
theorem pa_cons (ha : PE X e te) (hr : PA X es t) (hs : starEach (e :: es) X.env = (false, eval e X.env) :: starEach es X.env := by rfl) : PA X (e :: es) (tCons te t) := by
  intro pos pins s σ H Q I h
  rw [hs]
  show wpAny _ _ (spliced ((false, eval e X.env) :: backTo pos (starEach es X.env))) _ _ s
  refine Calls.spliced_cons (thn (ha pins s σ H _ I h) fun u s1 ⟨x, H1, I1, r1, q1⟩ => ?_)
  exact thn (hr pos pins s1 σ H1 _ I1 q1) fun us s2 ⟨xs, H2, I2, r2, q2⟩ => ⟨x :: xs, H2, I2, .cons r1 r2, q2⟩

/-- a tuple, a list of written items -/
def tTup (t : TA) : TE := fun σ H Q => t σ H fun xs H1 => xs.length ≤ sizeLine ∧ ∀ p, H1 p = none → Q (.ref p) (upd H1 p (.tup xs))
def tLst (t : TA) : TE := fun σ H Q => t σ H fun xs H1 => xs.length ≤ sizeLine ∧ ∀ p, H1 p = none → Q (.ref p) (upd H1 p (.lst xs))
theorem pe_tup {x1} (h : PA X es t) : PE X (.Tuple es x1 pos) (tTup t) := by
  intro pins s σ H Q I hq
  refine wpAny_Tuple_spliced (thn (h pos pins s σ H _ I hq) fun us s1 ⟨xs, H1, I1, r, z, q⟩ => ⟨by rw [← r.length]; exact z, ?_⟩)
  have hf : H1 s1.heap.objs.size = none := I1.hok.fresh (Nat.le_refl _)
  refine ⟨.ref s1.heap.objs.size, upd H1 s1.heap.objs.size (.tup xs), I1.laid (t' := s1.toks) (fun b u e => Heap.get?_push_of_some _ e) (Nat.le_refl _) ?_, rfl, q _ hf⟩
  exact ⟨z, us, r, ⟨_, Heap.get?_push_size _ rfl, rfl, _, rfl⟩⟩
theorem pe_lst (h : PA X es t) : PE X (.List es pos) (tLst t) := by
  intro pins s σ H Q I hq
  refine wpAny_List_spliced (thn (h pos pins s σ H _ I hq) fun us s1 ⟨xs, H1, I1, r, z, q⟩ => ⟨by rw [← r.length]; exact z, ?_⟩)
  have hf : H1 s1.heap.objs.size = none := I1.hok.fresh (Nat.le_refl _)
  refine ⟨.ref s1.heap.objs.size, upd H1 s1.heap.objs.size (.lst xs), I1.laid (t' := s1.toks) (fun b u e => Heap.get?_push_of_some _ e) (Nat.le_refl _) ?_, rfl, q _ hf⟩
  exact ⟨z, us, 0, r, Heap.get?_push_size _ rfl⟩
end

/-! ### what a def promises -/
/-- a def's promise: the bound arguments in the parameters' order, the heap, the wanted end, the wanted exception -/
abbrev Sp := List V → Hp → VK → XK → Prop
/-- how an exception lies behind a call (file 08 gives it): the callers' frames, abstract heap and state ahead of the call, the wish, the exception, the state -/
abbrev CXT := List Env → Hp → Shared → XK → Value → Shared → Prop

/-- the state at a call -/
structure Env0 (P : Program) (w : World) (K : PySem.W.Frag) (mg : Str → Option Value) (base : Heap) (A : Around) (outer : List Env) (s : Shared) (H : Hp) : Prop where
  frames : A.frames = some outer
  mod : Mod K mg base
  bs : ∀ b o, base.get? b = some o → s.heap.get? b = some o ∧ H b = none
  bsz : base.objs.size ≤ s.heap.objs.size
  funs : s.heap.FunFrames base outer
  frf : ∀ b ∈ frs outer, H b = none
  hok : HOk P w H s.heap
  bare : AllBare s.gens
/-- a call's end -/
def CE (outer : List Env) (P : Program) (w : World) (H : Hp) (s : Shared) (Q : VK) (u : Value) (s' : Shared) : Prop :=
  ∃ v H', s'.os = s.os ∧ AllBare s'.gens ∧ Un (frs outer) [] H H' s.heap s'.heap ∧ HOk P w H' s'.heap ∧ RelV v u ∧ Q v H'
def CR (CX : CXT) (outer : List Env) (P : Program) (w : World) (H : Hp) (s : Shared) (Q : VK) (E : XK) (r : Result) (s' : Shared) : Prop :=
  match r with
  | .ok (.ret u) => CE outer P w H s Q u s'
  | .ok _ => False
  | .error e => CX outer H s E e s'
structure FnOk (P : Program) (w : World) (K : PySem.W.Frag) (mg : Str → Option Value) (base : Heap) (CX : CXT) (k : Nat) (f : Addr) (fd : FuncData) (ps : List Str) (sp : Sp) : Prop where
  len : ∀ vs H Q E, sp vs H Q E → vs.length = ps.length
  run : ∀ (A : Around) (outer : List Env) (s : Shared) (H : Hp) (args : Args) (us : List Value) (vs : List V) (Q : VK) (E : XK), Room k A → Env0 P w K mg base A outer s H → BindsTo s fd args (ps.zip us) → Vals vs us → sp vs H Q E →
    codeAny (model P w) A (.call (.ref f) args) (CR CX outer P w H s Q E) s
theorem Env0.make {P : Program} {w : World} {K : PySem.W.Frag} {mg : Str → Option Value} {base : Heap} {A : Around} {outer : List Env} {s : Shared} {H : Hp} (e : Env0 P w K mg base A outer s H) (C : Addr) (us : List Value) (kw : List (Str × Value)) :
    Env0 P w K mg base (A.under (.builtin "type.__call__" ⟨.ref C :: us, kw⟩)) outer s H := ⟨by first | exact e.frames | (simpa [Around.under, Code.envs, Code.isFrame, pushEnvs] using e.frames), e.mod, e.bs, e.bsz, e.funs, e.frf, e.hok, e.bare⟩
section
variable {X : Cx} {pins : List (Addr × Obj)} {σ : St} {H : Hp} {s s' : Shared}
/-- from a body: what a callee wants -/
theorem Inv.env0 (I : Inv X pins σ H s) : Env0 X.prog X.w X.K X.mg X.base X.A X.stack s H :=
  ⟨I.ok.frames, I.ok.mod, I.bs, Nat.le_trans I.ok.bsz I.sz, I.stack, I.stkFree, I.hok, I.bare⟩
/-- behind a call -/
theorem Inv.after {Q : VK} {u : Value} (I : Inv X pins σ H s) (h : CE X.stack X.prog X.w H s Q u s') : EP X pins σ Q u s' := by
  obtain ⟨v, H', os, bare, un, hok, r, q⟩ := h
  obtain ⟨hh, g, d, t, os'⟩ := s'
  obtain rfl : os' = s.os := os
  exact ⟨v, H', I.call (h' := hh) (g' := g) (d' := d) (t' := t) (ch := []) un hok bare (fun b z => absurd z (by simp)), r, q⟩
end

/-! ### calls -/
/-- f(..): the written arguments, then the defaults dvs; E: what is wanted of an exception -/
def tCall (sp : Sp) (dvs : List V) (E : XK) (t : TA) : TE := fun σ H Q => t σ H fun vs H1 => sp (vs ++ dvs) H1 Q E
/-- C(..): a new instance and its dict, then __init__ -/
def tMake (C : Addr) (sp : Sp) (dvs : List V) (E : XK) (t : TA) : TE := fun σ H Q => t σ H fun vs H1 => ∀ x dx, H1 x = none → H1 dx = none → dx ≠ x →
  sp (.ref x :: (vs ++ dvs)) (upd (upd H1 dx (.own x)) x (.ins C dx [])) (fun v H2 => v = .non ∧ Q (.ref x) H2) E

/-- how the parameters are bound: us the positional arguments, kw the keywords' values by name, ds the defaults that fill up -/
def Binds (K : PySem.W.Frag) (fd : FuncData) (ps : List Str) (ds : List Value) : Prop :=
  ∀ (s : Shared) (us : List Value), K.In s.heap → (us ++ ds).length = ps.length → BindsTo s fd ⟨us, []⟩ (ps.zip (us ++ ds))
/-- every parameter is given -/
theorem Binds.all {K : PySem.W.Frag} {fd : FuncData} {ps : List Str} (h : ∀ us : List Value, us.length = ps.length → bindArgs fd ⟨us, []⟩ = pure (ps.zip us)) : Binds K fd ps [] := fun s us _ hl => by
  rw [List.append_nil] at hl ⊢
  exact .of_eq (h us hl)

/-- an exception of a callee reaches what this body wants of exceptions -/
def Passes (CX : CXT) (X : Cx) (E : XK) : Prop := ∀ (pins : List (Addr × Obj)) (σ : St) (H : Hp) (s : Shared) (e : Value) (s' : Shared), Inv X pins σ H s → CX X.stack H s E e s' → X.xe e s'

section
variable {X : Cx} {CX : CXT} {k : Nat} {f C : Addr} {fd : FuncData} {ps : List Str} {sp : Sp} {dvs : List V} {ds : List Value} {E : XK} {x m : Str} {p pos apos : Pos} {e o : Expr} {es : List Expr} {ta : TE} {t : TA}

/-- the callee runs -/
theorem run_fn {pins : List (Addr × Obj)} {σ : St} {H : Hp} {s : Shared} {Q : VK} {us : List Value} {vs : List V} (F : FnOk X.prog X.w X.K X.mg X.base CX k f fd ps sp) (hr : Room k X.A) (hb : Binds X.K fd ps ds) (hd : Vals dvs ds) (hx : Passes CX X E)
    (I : Inv X pins σ H s) (r : Vals vs us) (h : sp (vs ++ dvs) H Q E) : wpAny (model X.prog X.w) X.A (call (.ref f) us) (EP X pins σ Q) X.xe s := by
  have r2 : Vals (vs ++ dvs) (us ++ ds) := r.append hd
  have hl : (us ++ ds).length = ps.length := by rw [← r2.length]; exact F.len _ _ _ _ h
  refine wpAny_call (codeAny_mono (F.run X.A X.stack s H ⟨us, []⟩ (us ++ ds) (vs ++ dvs) Q E hr I.env0 (hb s us I.kIn hl) r2 h) fun r s' hq => ?_)
  cases r with
  | error e => exact hx pins σ H s e s' I hq
  | ok fl =>
    cases fl with
    | ret u => exact I.after hq
    | next => exact False.elim hq
    | brk => exact False.elim hq
    | cont => exact False.elim hq

theorem pe_call (F : FnOk X.prog X.w X.K X.mg X.base CX k f fd ps sp) (hr : Room k X.A) (hg : Gl X x) (hm : X.mg x = some (.ref f)) (hk : PySem.W.keepIn X.K (.ref f) = true) (hb : Binds X.K fd ps ds) (hd : Vals dvs ds) (hx : Passes CX X E)
    (ha : PA X (e :: es) t) (hdb : (x == ("__debug__" : Str)) = false := by decide) (he : starEach (e :: es) X.env = (false, eval e X.env) :: starEach es X.env := by rfl) (hpl : (backTo pos (starEach es X.env)).any (·.1) = false := by rfl) :
    PE X (.Call (.Name x p) (e :: es) [] pos) (tCall sp dvs E t) := by
  intro pins s σ H Q I h
  refine wpAny_Call_Name_kw (ld_glob I hg hm ?_ hdb)
  refine PySem.W.callWith_K (h₀ := X.base) I.ok.mod.kin hk (thn (ha pos pins s σ H _ I h) fun us s1 ⟨vs, H1, I1, r, q⟩ => ⟨I1.kIn, ?_⟩) he hpl
  exact run_fn F hr hb hd hx I1 r q
theorem pe_call0 (F : FnOk X.prog X.w X.K X.mg X.base CX k f fd ps sp) (hr : Room k X.A) (hg : Gl X x) (hm : X.mg x = some (.ref f)) (hk : PySem.W.keepIn X.K (.ref f) = true) (hb : Binds X.K fd ps ds) (hd : Vals dvs ds) (hx : Passes CX X E)
    (hdb : (x == ("__debug__" : Str)) = false := by decide) : PE X (.Call (.Name x p) [] [] pos) (tCall sp dvs E tNil) := by
  intro pins s σ H Q I h
  refine wpAny_Call_Name_kw (ld_glob I hg hm ?_ hdb)
  exact PySem.W.callWith_K0 I.kIn hk (run_fn (us := []) F hr hb hd hx I .nil h)

/-- what a class must have to be made -/
structure Mk (K : PySem.W.Frag) (C f : Addr) : Prop where
  makes : PySem.W.makesIn K C = true
  init : PySem.W.findIn K (.ref C) "__init__" = some (some (.ref f))
  fn : PySem.W.isFn K (.ref f) = true
  kp : PySem.W.keepIn K (.ref C) = true

theorem run_make {pins : List (Addr × Obj)} {σ : St} {H : Hp} {s : Shared} {Q : VK} {us : List Value} {vs : List V} (M : Mk X.K C f) (F : FnOk X.prog X.w X.K X.mg X.base CX k f fd ps sp) (hr : Room (k + 1) X.A) (hb : Binds X.K fd ps ds) (hd : Vals dvs ds)
    (hx : Passes CX X E) (I : Inv X pins σ H s) (r : Vals vs us)
    (h : ∀ x dx, H x = none → H dx = none → dx ≠ x → sp (.ref x :: (vs ++ dvs)) (upd (upd H dx (.own x)) x (.ins C dx [])) (fun v H2 => v = .non ∧ Q (.ref x) H2) E) :
    wpAny (model X.prog X.w) X.A (call (.ref C) us) (EP X pins σ Q) X.xe s := by
  have hq := h (s.heap.objs.size + 1) s.heap.objs.size (I.hok.fresh (Nat.le_succ _)) (I.hok.fresh (Nat.le_refl _)) (Nat.ne_of_lt (Nat.lt_succ_self _))
  have I2 := Inv.made (C := C) I
  have r2 : Vals (V.ref (s.heap.objs.size + 1) :: (vs ++ dvs)) (Value.ref (s.heap.objs.size + 1) :: (us ++ ds)) := .cons rfl (r.append hd)
  have hl : (Value.ref (s.heap.objs.size + 1) :: us ++ ds).length = ps.length := by
    have e := r2.length
    rw [F.len _ _ _ _ hq] at e
    exact e.symm
  refine wpAny_call (make_map (f := f) I.kIn M.makes M.init (beq_iff_eq.mp M.fn) (codeAny_mono (F.run _ X.stack _ _ ⟨Value.ref (s.heap.objs.size + 1) :: us, []⟩ (Value.ref (s.heap.objs.size + 1) :: (us ++ ds)) _ _ E (hr.make C us [])
    (I2.env0.make C us []) (hb _ (Value.ref (s.heap.objs.size + 1) :: us) I2.kIn hl) r2 hq) fun r s' hq' => ?_))
  cases r with
  | error e => exact hx pins σ _ _ e s' I2 hq'
  | ok fl =>
    cases fl with
    | ret u =>
      obtain ⟨v, H', I3, rv, ev, q3⟩ := I2.after hq'
      subst ev
      exact ⟨rv, ⟨V.ref (s.heap.objs.size + 1), H', I3, rfl, q3⟩⟩
    | next => exact False.elim hq'
    | brk => exact False.elim hq'
    | cont => exact False.elim hq'
theorem pe_make (M : Mk X.K C f) (F : FnOk X.prog X.w X.K X.mg X.base CX k f fd ps sp) (hr : Room (k + 1) X.A) (hg : Gl X x) (hm : X.mg x = some (.ref C)) (hb : Binds X.K fd ps ds) (hd : Vals dvs ds) (hx : Passes CX X E)
    (ha : PA X (e :: es) t) (hdb : (x == ("__debug__" : Str)) = false := by decide) (he : starEach (e :: es) X.env = (false, eval e X.env) :: starEach es X.env := by rfl) (hpl : (backTo pos (starEach es X.env)).any (·.1) = false := by rfl) :
    PE X (.Call (.Name x p) (e :: es) [] pos) (tMake C sp dvs E t) := by
  intro pins s σ H Q I h
  refine wpAny_Call_Name_kw (ld_glob I hg hm ?_ hdb)
  refine PySem.W.callWith_K (h₀ := X.base) I.ok.mod.kin M.kp (thn (ha pos pins s σ H _ I h) fun us s1 ⟨vs, H1, I1, r, q⟩ => ⟨I1.kIn, ?_⟩) he hpl
  exact run_make M F hr hb hd hx I1 r q
end

/-! ### keywords -/


/-! ### a def's body keeps its promise -/
/-- names: the parameters first -/
structure FnScope (N P : List Str) (sc : Scope) : Prop where
  kind : sc.kind = .function
  co : sc.isCoroutine = false
  gen : sc.isGenerator = false
  nd : N.Nodup
  pre : N.take P.length = P
  par : ∀ x ∈ P, sc.names.lookup x = some .local ∨ sc.names.lookup x = some .cell
  nofree : ∀ y ∈ sc.names, y.2 ≠ .free

theorem bindL_out {kindOf : Str → Option NameKind} {x : Str} : ∀ {binds : List (Str × Value)} {m : Str → Option Value}, (∀ v, (x, v) ∉ binds) → bindL kindOf binds m x = m x
  | [], _, _ => rfl
  | (n, v) :: r, m, h => by
    unfold bindL
    rw [bindL_out fun w hw => h w (List.mem_cons_of_mem _ hw)]
    split
    · have : x ≠ n := by rintro rfl; exact h v List.mem_cons_self
      simp [this]
    · rfl
theorem bindC_out {kindOf : Str → Option NameKind} {x : Str} : ∀ {binds : List (Str × Value)} {m : Str → Option Value}, (∀ v, (x, v) ∉ binds) → bindC kindOf binds m x = m x
  | [], _, _ => rfl
  | (n, v) :: r, m, h => by
    unfold bindC
    rw [bindC_out fun w hw => h w (List.mem_cons_of_mem _ hw)]
    split
    · rfl
    · have : x ≠ n := by rintro rfl; exact h v List.mem_cons_self
      simp [this]
theorem bindL_get {kindOf : Str → Option NameKind} {x : Str} {v : Value} : ∀ {P : List Str} {vs : List Value} {i : Nat} {m : Str → Option Value}, P.Nodup → P[i]? = some x → vs[i]? = some v → kindOf x = some .local →
    bindL kindOf (P.zip vs) m x = some v
  | [], _, _, _, _, h, _, _ => by simp at h
  | _ :: _, [], _, _, _, _, h, _ => by simp at h
  | p :: P, w :: vs, 0, m, nd, h1, h2, hk => by
    simp at h1 h2; subst h1; subst h2
    show bindL kindOf ((p, w) :: P.zip vs) m p = _
    unfold bindL
    rw [bindL_out fun v hv => (List.nodup_cons.mp nd).1 (List.of_mem_zip hv).1, if_pos hk]
    simp
  | p :: P, w :: vs, i + 1, m, nd, h1, h2, hk => by
    show bindL kindOf ((p, w) :: P.zip vs) m x = _
    unfold bindL
    exact bindL_get (i := i) (List.nodup_cons.mp nd).2 (by simpa using h1) (by simpa using h2) hk
theorem bindC_get {kindOf : Str → Option NameKind} {x : Str} {v : Value} : ∀ {P : List Str} {vs : List Value} {i : Nat} {m : Str → Option Value}, P.Nodup → P[i]? = some x → vs[i]? = some v → kindOf x ≠ some .local →
    bindC kindOf (P.zip vs) m x = some v
  | [], _, _, _, _, h, _, _ => by simp at h
  | _ :: _, [], _, _, _, _, h, _ => by simp at h
  | p :: P, w :: vs, 0, m, nd, h1, h2, hk => by
    simp at h1 h2; subst h1; subst h2
    show bindC kindOf ((p, w) :: P.zip vs) m p = _
    unfold bindC
    rw [bindC_out fun v hv => (List.nodup_cons.mp nd).1 (List.of_mem_zip hv).1, if_neg hk]
    simp
  | p :: P, w :: vs, i + 1, m, nd, h1, h2, hk => by
    show bindC kindOf ((p, w) :: P.zip vs) m x = _
    unfold bindC
    exact bindC_get (i := i) (List.nodup_cons.mp nd).2 (by simpa using h1) (by simpa using h2) hk

/-- the names' values at the entry -/
def start (N : List Str) (vs : List V) : St := vs.map some ++ List.replicate (N.length - vs.length) none

/-- the context of a def's body, at its entry; an exception leaves the frame, then lies as CX says -/
def cxOf (CX : CXT) (P : Program) (w : World) (K : PySem.W.Frag) (mg : Str → Option Value) (base : Heap) (N : List Str) (qual : Str) (scope : Scope) (f : Addr) (cd : Value) (A : Around) (outer : List Env) (s : Shared) (H : Hp) (E : XK) : Cx where
  prog := P
  w := w
  K := K
  mg := mg
  base := base
  A := A.deeper (envOfC qual scope s.heap.objs.size f cd)
  N := N
  s₀ := s
  H₀ := H
  env := envOfC qual scope s.heap.objs.size f cd
  outer := outer
  stack := envOfC qual scope s.heap.objs.size f cd :: outer
  ex := []
  calm := true
  fn := fun _ => true
  pn := []
  xe := fun e s' => wpAny (model P w) (A.deeper (envOfC qual scope s.heap.objs.size f cd)) (leaving (envOfC qual scope s.heap.objs.size f cd) e) (fun _ s'' => CX outer H s E e s'') (fun e' s'' => CX outer H s E e' s'') s'

theorem cell_has {sc : Scope} {n : Nat} {x : Str} (h : sc.names.lookup x = some .cell) : ∃ c, (cellsFrom n sc.names []).lookup x = some c := by
  have q := PySem.W.cellsFrom_some sc.names n [] (.inl h)
  exact Option.isSome_iff_exists.mp q

theorem inv_start {CX : CXT} {P : Program} {w : World} {K : PySem.W.Frag} {mg : Str → Option Value} {base : Heap} {N ps : List Str} {qual : Str} {scope : Scope} {f : Addr} {cd : Value} {A : Around} {outer : List Env} {s s1 : Shared} {H : Hp} {E : XK} {us : List Value} {vs : List V}
    (S : FnScope N ps scope) (hd : A.handled = none) (e0 : Env0 P w K mg base A outer s H) (hl : vs.length = ps.length) (r : Vals vs us)
    (x : InCallC s s.heap.objs.size (bindL (envOfC qual scope s.heap.objs.size f cd).kindOf (ps.zip us) fun _ => none) (cellsFrom (s.heap.objs.size + 1) scope.names []) (bindC (envOfC qual scope s.heap.objs.size f cd).kindOf (ps.zip us) fun _ => none) s1) :
    Inv (cxOf CX P w K mg base N qual scope f cd A outer s H E) [] (start N vs) H s1 := by
  have hpl : ps.length ≤ N.length := by have := congrArg List.length S.pre; rw [List.length_take] at this; omega
  obtain ⟨h1, tk, rfl, hk⟩ := x.done
  have noA : ∀ b : Addr, b ∉ (cxOf CX P w K mg base N qual scope f cd A outer s H E).ex := fun b z => absurd (show b ∈ ([] : List Addr) from z) (by simp)
  refine ⟨⟨e0.mod, S.kind, rfl, rfl, Nat.le_refl _, fun y z c h1 h2 => ?_, fun y hy => ?_, fun y c _ h => ?_, fun _ => hd, Around.frames_deeper e0.frames, .inr ⟨rfl, rfl⟩, fun b z => absurd z (noA b), e0.bs, e0.bsz, fun b _ _ => noA b, fun b z => absurd z (noA b), e0.funs, e0.frf⟩,
    rfl, e0.bare, Un.kept hk, ⟨_, x.toInCall.ns, fun i y v h1 h2 h3 => ?_⟩, fun y c h => ⟨_, x.cell y c h⟩, e0.hok.fresh (Nat.le_refl _), fun y c h => ?_, fun p hp => absurd (show p ∈ ([] : List (Addr × Obj)) from hp) (by simp), e0.hok.kept hk, ?_⟩
  · exact name_of_addr x.apart (PySem.mem_of_lookup h1) (PySem.mem_of_lookup h2)
  · have hy : scope.names.lookup y = some .cell ∨ scope.names.lookup y = some .free := hy
    rcases hy with hy | hy
    · exact cell_has hy
    · exact absurd rfl (S.nofree _ (PySem.mem_of_lookup hy))
  · exact Nat.le_of_lt (x.above y c (PySem.mem_of_lookup h))
  · have hi : i < vs.length := by
      unfold start at h2
      by_cases hi : i < vs.length
      · exact hi
      · rw [List.getElem?_append_right (by simpa using hi)] at h2
        rw [List.getElem?_replicate] at h2
        split at h2 <;> cases h2
    have ha : vs[i]? = some v := by
      unfold start at h2
      rw [List.getElem?_append_left (by simpa using hi), List.getElem?_map] at h2
      cases e : vs[i]? with
      | none => rw [e] at h2; cases h2
      | some a => rw [e] at h2; cases h2; rfl
    obtain ⟨u, hu, rv⟩ := r.get ha
    have hp : ps[i]? = some y := by
      rw [← S.pre, List.getElem?_take_of_lt (by omega)]; exact h1
    have ndP : ps.Nodup := by rw [← S.pre]; exact S.nd.sublist (List.take_sublist _ _)
    refine ⟨u, rv, ?_⟩
    rcases S.par y (List.mem_of_getElem? hp) with k | k
    · exact .inl ⟨k, bindL_get ndP hp hu k⟩
    · obtain ⟨c, e⟩ := cell_has (n := s.heap.objs.size + 1) k
      refine .inr ⟨.inl k, c, e, ?_⟩
      have q := x.cell y c e
      rw [bindC_get ndP hp hu (by show scope.names.lookup y ≠ _; rw [k]; decide)] at q
      exact q
  · exact e0.hok.fresh (Nat.le_of_lt (x.above y c (PySem.mem_of_lookup h)))
  · unfold start
    show _ = N.length
    rw [List.length_append, List.length_map, List.length_replicate]
    omega

/-- THE RULE: a def (or a method) of the text, by its body. The body's reading t is chosen for each entry; it is run at the parameters' values -/
theorem fn_of {CX : CXT} {P : Program} {w : World} {K : PySem.W.Frag} {mg : Str → Option Value} {base : Heap} {k : Nat} {f : Addr} {name qual : Str} {params : Arguments} {body : List Stmt} {scope : Scope} {dV kV doc pm cdv ct oc : Value} {an od : Option Addr}
    {osl : Array (Option Value)} {N ps : List Str} {sp : Sp} (lk : K.lookup f = some ⟨oc, od, .func (PySem.W.fnOf name qual params body scope dV kV doc pm an cdv ct), osl⟩) (hcd : PySem.W.codeIn K cdv qual = true) (S : FnScope N ps scope)
    (len : ∀ vs H Q E, sp vs H Q E → vs.length = ps.length)
    (hbody : ∀ (A : Around) (outer : List Env) (s : Shared) (H : Hp) (vs : List V) (Q : VK) (E : XK), Room k (A.deeper (envOfC qual scope s.heap.objs.size f cdv)) → sp vs H Q E →
      ∃ t, PSs (cxOf CX P w K mg base N qual scope f cdv A outer s H E) body t ∧ t { nx := fun _ H' => Q .non H', rt := Q } (start N vs) H) :
    FnOk P w K mg base CX (k + 1) f (PySem.W.fnOf name qual params body scope dV kV doc pm an cdv ct) ps sp := by
  refine ⟨len, fun A outer s H args us vs Q E hr e0 hb r hsp => ?_⟩
  have hl := len _ _ _ _ hsp
  have KX : K.In s.heap := e0.mod.kin.keeps fun b o e => (e0.bs b o e).1
  have lim : s.heap.NoLimit := e0.mod.nolimit.keeps fun b o e => (e0.bs b o e).1
  have hkind : ∀ y ∈ ps.zip us, scope.names.lookup y.1 = some .local ∨ (scope.names.lookup y.1 = some .cell ∧ ((cellsFrom (s.heap.objs.size + 1) scope.names []).lookup y.1).isSome = true) := fun ⟨n, v⟩ hy => by
    rcases S.par n (List.of_mem_zip hy).1 with q | q
    · exact .inl q
    · exact .inr ⟨q, PySem.W.cellsFrom_some _ _ _ (.inl q)⟩
  refine codeAny_call_function hr.depth (KX _ _ lk) rfl S.co S.gen rfl (PySem.W.codeRec_of KX hcd) (hb _ _ _ _ ?_)
  refine wpAny_newFunctionEnv_cells S.kind hkind fun env he s1 x => ?_
  subst he
  refine ⟨lim.keeps x.toInCall.keep, codeAny_func ?_⟩
  obtain ⟨t, ht, hq⟩ := hbody A outer s H vs Q E (hr.deeper _) hsp
  have I : Inv (cxOf CX P w K mg base N qual scope f cdv A outer s H E) [] (start N vs) H s1 := inv_start S hr.hd e0 hl r x
  refine wpAny_mono (ht [] s1 (start N vs) H _ I hq) (fun fl s' hs => ?_) fun e s' hs => hs
  have fin : ∀ {σ' : St} {H' : Hp} {v : V} {u : Value}, Inv (cxOf CX P w K mg base N qual scope f cdv A outer s H E) [] σ' H' s' → RelV v u → Q v H' → CE outer P w H s Q u s' :=
    fun {σ' H' v u} J rv q => ⟨v, H', J.os, J.bare, J.base, J.hok, rv, q⟩
  cases fl with
  | ret u =>
    obtain ⟨v, σ', H', J, rv, q⟩ := hs
    exact fin J rv q
  | next =>
    obtain ⟨σ', H', J, q⟩ := hs
    exact fin (v := V.non) (u := Value.none) J rfl q
  | brk =>
    obtain ⟨_, _, _, q⟩ := hs
    exact False.elim q
  | cont =>
    obtain ⟨_, _, _, q⟩ := hs
    exact False.elim q
end L2

namespace L2
open PySem PySem.Spec PyProof.Rows
section
variable {X : Cx} {x : Str} {p pos : Pos} {e : Expr} {es : List Expr} {t : TA} {id T : String} {r : List V → Hp → VK → Prop}

def tCB (r : List V → Hp → VK → Prop) (t : TA) : TE := fun σ H Q => t σ H fun vs H1 => r vs H1 Q
/-- f(e, ..), f a built-in function -/
theorem pe_callB (hc : CallR X (.builtin id) r) (hg : Gl X x) (hm : X.mg x = none) (hv : bootBuiltins x = some (.builtin id)) (ha : PA X (e :: es) t) (hn : x ≠ "__name__" := by decide) (hdb : (x == ("__debug__" : Str)) = false := by decide)
    (he : starEach (e :: es) X.env = (false, eval e X.env) :: starEach es X.env := by rfl) (hpl : (backTo pos (starEach es X.env)).any (·.1) = false := by rfl) : PE X (.Call (.Name x p) (e :: es) [] pos) (tCB r t) := by
  intro pins s σ H Q I h
  refine wpAny_Call_Name_kw (ld_blt I hg hm hv ?_ hn hdb)
  exact PyProof.Rows.callWith_builtin1 (thn (ha pos pins s σ H _ I h) fun us s1 ⟨vs, H1, I1, r1, q1⟩ => hc pins s1 σ H1 vs us Q I1 r1 q1) he hpl
/-- T(e, ..), T a built-in type -/
theorem pe_callTy (hc : CallR X (.type T) r) (hg : Gl X x) (hm : X.mg x = none) (hv : bootBuiltins x = some (.type T)) (ha : PA X (e :: es) t) (hn : x ≠ "__name__" := by decide) (hdb : (x == ("__debug__" : Str)) = false := by decide)
    (he : starEach (e :: es) X.env = (false, eval e X.env) :: starEach es X.env := by rfl) (hpl : (backTo pos (starEach es X.env)).any (·.1) = false := by rfl) : PE X (.Call (.Name x p) (e :: es) [] pos) (tCB r t) := by
  intro pins s σ H Q I h
  refine wpAny_Call_Name_kw (ld_blt I hg hm hv ?_ hn hdb)
  exact PyProof.Rows.callWith_type1 (thn (ha pos pins s σ H _ I h) fun us s1 ⟨vs, H1, I1, r1, q1⟩ => hc pins s1 σ H1 vs us Q I1 r1 q1) he hpl
end
end L2

namespace HT
open PySem PyProof.Rows

section
open PySem.SeqAt
open PySem.AutoSeq1 (wpAny_loadPart')
open PySem.MeetsSeq PySem.MeetsSeq2 PySem.MeetsSeq3

end

section
variable {prog : Program} {w : World} {A : Around} {E : Value → Shared → Prop} {s : Shared}

/-! ### t[a:b], not the whole -/
/-- a slice's bound as a place among n (d where it is left out) -/
def sIx (n d : Nat) : Option Int → Nat
  | none => d
  | some v => if v < 0 then (v + (n : Int)).toNat else min v.toNat n
end
end HT

namespace L2
open PySem PySem.Spec PyProof.Rows

/-! ### the parts of a slice -/
abbrev TO := St → Hp → (Option Int → Hp → Prop) → Prop
/-- a slice's part (left out, or an int) -/
def PO (X : Cx) (e : Option Expr) (t : TO) : Prop :=
  ∀ (pins : List (Addr × Obj)) (s : Shared) (σ : St) (H : Hp) (Q : Option Int → Hp → Prop), Inv X pins σ H s → t σ H Q →
    wpAny (model X.prog X.w) X.A (evalPart e X.env) (fun u s' => ∃ o H', Inv X pins σ H' s' ∧ IsPart u o ∧ Q o H') X.xe s
def tNoPart : TO := fun _ H Q => Q none H
def tPart (t : TE) : TO := fun σ H Q => t σ H fun x H1 => ∃ i, x = .int i ∧ Q (some i) H1

theorem intsAre_of {ns : List Int} : ∀ {us : List Value}, Vals (ns.map V.int) us → IntsAre us ns := by
  induction ns with
  | nil => intro us r; rw [List.map_nil] at r; cases r; exact .nil
  | cons n ns ih =>
    intro us r
    rw [List.map_cons] at r
    cases r with
    | cons r1 r2 =>
      obtain ⟨t, e⟩ := r1
      subst e
      exact .cons n t (ih r2)

section
variable {X : Cx} {e : Expr} {te : TE} {lo hi : Option Expr} {tl th : TO} {pos p2 : Pos}

theorem po_none : PO X none tNoPart := by
  intro pins s σ H Q I h
  rw [evalPart_none]
  exact wpAny_pure ⟨none, H, I, .none, h⟩
theorem po_some (h : PE X e te) : PO X (some e) (tPart te) := by
  intro pins s σ H Q I hw
  rw [evalPart_some]
  refine thn (h pins s σ H _ I hw) fun u s1 ⟨x, H1, I1, r1, q1⟩ => ?_
  obtain ⟨i, rfl, q⟩ := q1
  obtain ⟨t, rfl⟩ := r1
  exact ⟨some i, H1, I1, .int i t, q⟩

/-- what a slice of a value is, by values: the slice object stands at sl -/
def SlR (X : Cx) (r : V → Option Int → Option Int → Hp → VK → Prop) : Prop :=
  ∀ (pins : List (Addr × Obj)) (s : Shared) (σ : St) (H : Hp) (x : V) (v vl vu : Value) (lo hi : Option Int) (sl : Addr) (Q : VK), Inv X pins σ H s → RelV x v → s.heap.IsSliceOf sl vl vu .none → IsPart vl lo → IsPart vu hi → r x lo hi H Q →
    ∃ T id, typeLookup (.type T) "__getitem__" = pure (some (.builtin id)) ∧ s.TypeIs v T ∧ wpAny (model X.prog X.w) X.A (getItem v (.ref sl)) (EP X pins σ Q) X.xe s
def tSl (r : V → Option Int → Option Int → Hp → VK → Prop) (te : TE) (tl th : TO) : TE := fun σ H Q => te σ H fun x H1 => tl σ H1 fun l H2 => th σ H2 fun u H3 => r x l u H3 Q
/-- a[lo:hi], any a -/
theorem pe_slice {r : V → Option Int → Option Int → Hp → VK → Prop} (hr : SlR X r) (he : PE X e te) (hl : PO X lo tl) (hu : PO X hi th) : PE X (.Subscript e (.Slice lo hi none p2) pos) (tSl r te tl th) := by
  intro pins s σ H Q I h
  refine Subscript_ (thn (he pins s σ H _ I h) fun v s1 ⟨x, H1, I1, r1, q1⟩ => ?_)
  refine wpAny_Slice (thn (hl pins s1 σ H1 _ I1 q1) fun vl s2 ⟨l, H2, I2, pl, q2⟩ => thn (hu pins s2 σ H2 _ I2 q2) fun vu s3 ⟨u, H3, I3, pu, q3⟩ => ?_)
  rw [evalPart_none]
  refine wpAny_pure ?_
  have I4 : Inv X pins σ H3 { s3 with heap := s3.heap.push { cls := .type "slice", data := .fields #[vl, vu, .none] } } := I3.kept (t' := s3.toks) fun b ob q => Heap.get?_push_of_some _ q
  obtain ⟨T, id, hT, ht, hg⟩ := hr pins { s3 with heap := s3.heap.push { cls := .type "slice", data := .fields #[vl, vu, .none] } } σ H3 x v vl vu l u s3.heap.objs.size Q I4 r1 (Heap.IsSliceOf.new ..) pl pu q3
  show wpAny (model X.prog X.w) X.A (subscriptTail e (.Slice lo hi none p2) v (.ref s3.heap.objs.size)) (EP X pins σ Q) X.xe { s3 with heap := s3.heap.push { cls := .type "slice", data := .fields #[vl, vu, .none] } }
  exact tail_any (ops := [.ref s3.heap.objs.size, v]) ht hT hg (by with_unfolding_all rfl)

/-- the items of xs[lo:hi] -/
def cutV (xs : List V) (lo hi : Option Int) : List V := (xs.drop (HT.sIx xs.length 0 lo)).take (HT.sIx xs.length xs.length hi - HT.sIx xs.length 0 lo)
theorem cutV_length (xs : List V) (lo hi : Option Int) : (cutV xs lo hi).length ≤ xs.length := by
  unfold cutV
  rw [List.length_take, List.length_drop]
  omega
/-! ### t < u, t + u -/
end
end L2

namespace L2
open PySem PySem.Spec PyProof.Rows

/-! ### places -/
/-- the place that an index of any sign means -/
def ixN (n : Nat) (i : Int) : Option Nat := if 0 ≤ i then (if i < n then some i.toNat else none) else if -(n : Int) ≤ i then some (i + n).toNat else none
def atI {α : Type} (xs : List α) (i : Int) : Option α := (ixN xs.length i).bind fun j => xs[j]?
theorem ixN_seq {n : Nat} {i : Int} {j : Nat} (h : ixN n i = some j) : seqIndex? i n = some j ∧ j < n ∧ -(n : Int) ≤ i ∧ i < n := by
  unfold ixN at h
  by_cases h0 : 0 ≤ i
  · rw [if_pos h0] at h
    by_cases h1 : i < n
    · rw [if_pos h1] at h
      have e : i.toNat = j := Option.some.inj h
      exact ⟨by rw [seqIndex_of h0 h1, e], by omega, by omega, h1⟩
    · rw [if_neg h1] at h; cases h
  · rw [if_neg h0] at h
    by_cases h1 : -(n : Int) ≤ i
    · rw [if_pos h1] at h
      have e : (i + n).toNat = j := Option.some.inj h
      exact ⟨by rw [seqIndex_neg (by omega) h1, e], by omega, h1, by omega⟩
    · rw [if_neg h1] at h; cases h
theorem atI_get {α : Type} {xs : List α} {i : Int} {v : α} (h : atI xs i = some v) : ∃ j, seqIndex? i xs.length = some j ∧ xs[j]? = some v ∧ j < xs.length ∧ -(xs.length : Int) ≤ i ∧ i < xs.length := by
  unfold atI at h
  cases e : ixN xs.length i with
  | none => rw [e] at h; cases h
  | some j =>
    rw [e] at h
    obtain ⟨h1, h2, h3, h4⟩ := ixN_seq e
    exact ⟨j, h1, h, h2, h3, h4⟩
theorem atI_nat {α : Type} {xs : List α} {j : Nat} {v : α} (h : xs[j]? = some v) : atI xs (j : Int) = some v := by
  have hj : j < xs.length := (List.getElem?_eq_some_iff.mp h).1
  have e : ixN xs.length (j : Int) = some j := by
    unfold ixN
    rw [if_pos (by omega), if_pos (by omega)]; simp
  unfold atI; rw [e]; exact h
/-! ### what may be subscripted -/
/-- what stands as an index of a plain subscript -/
def PlainIx (b : Expr) : Prop := ∀ o i, subscripted b false o i = operate [o, i] (getItem o i)
/-- a subscript by values -/
def IxR (X : Cx) (r : R2) : Prop :=
  ∀ (value slice : Expr) (pins : List (Addr × Obj)) (s : Shared) (σ : St) (H : Hp) (x y : V) (v u : Value) (Q : VK), Inv X pins σ H s → RelV x v → RelV y u → r x y H Q →
    subscripted slice false v u = operate [v, u] (getItem v u) → wpAny (model X.prog X.w) X.A (subscriptTail value slice v u) (EP X pins σ Q) X.xe s
/-- a call of a builtin's method by values: the receiver, the arguments -/
def MtR (X : Cx) (id : String) (r : V → List V → Hp → VK → Prop) : Prop :=
  ∀ (pins : List (Addr × Obj)) (s : Shared) (σ : St) (H : Hp) (x : V) (xs : List V) (v : Value) (us : List Value) (Q : VK), Inv X pins σ H s → RelV x v → Vals xs us → r x xs H Q →
    wpAny (model X.prog X.w) X.A (call (.builtin id) (v :: us)) (EP X pins σ Q) X.xe s
section
variable {X : Cx} {a b : Expr} {ta tb : TE} {pos : Pos}
/-- a[b] -/
theorem pe_ix {r : R2} (hr : IxR X r) (ha : PE X a ta) (hb : PE X b tb) (hs : PlainIx b) : PE X (.Subscript a b pos) (tOp r ta tb) := by
  intro pins s σ H Q I h
  exact Subscript_ (binT ha hb I h fun v u s2 x y H2 I2 rx ry q => hr a b pins s2 σ H2 x y v u Q I2 rx ry q (hs _ _))

def rIxL (K : PySem.W.Frag) : R2 := fun x y H Q => ∃ p xs i v, x = .ref p ∧ y = .int i ∧ SqL K H p xs ∧ atI xs i = some v ∧ Q v H
theorem ix_list : IxR X (rIxL X.K) := by
  intro value slice pins s σ H x y v u Q I rx ry h hs
  obtain ⟨p, xs, i, z, rfl, rfl, hq, he, q⟩ := h
  cases rx
  obtain ⟨t, rfl⟩ := ry
  obtain ⟨its, r, pl, hz⟩ := I.list hq
  obtain ⟨j, h1, h2, h3, h4, h5⟩ := atI_get he
  obtain ⟨w, ew, rw'⟩ := r.get h2
  have hl := r.length
  have hn := line63
  have fin : EP X pins σ Q w s := ⟨z, H, I, rw', q⟩
  by_cases h0 : 0 ≤ i
  · have hj : i.toNat = j := by
      rw [seqIndex_of h0 h5] at h1
      exact Option.some.inj h1
    exact item_listR pl.isList h0 (by omega) (by rw [hj]; simpa using ew) fin hs
  · have hj : (i + (its.toArray.size : Int)).toNat = j := by
      rw [seqIndex_neg (by omega) h4] at h1
      rw [List.size_toArray, ← hl]
      exact Option.some.inj h1
    exact subscriptTail_builtinR (x := w) pl.isList.typeIs slot_list_getitem.lookup
      (wpAny_getItem_list_neg (Q := fun r s' => r = w ∧ EP X pins σ Q r s') pl.isList (by omega) (by rw [List.size_toArray] <;> omega) (by omega) (by rw [hj]; simpa using ew) ⟨rfl, fin⟩) hs
/-! ### xs[i] = v, any sign -/
/-- the list's object behind a store -/
theorem mapSeq_set (its : List Value) (n j : Nat) (u : Value) : Obj.mapSeq (·.setIfInBounds j u) { cls := .type "list", data := .seq its.toArray n } = { cls := .type "list", data := .seq (its.set j u).toArray n } := by
  simp [Obj.mapSeq]
theorem Inv.lst {pins : List (Addr × Obj)} {σ : St} {H : Hp} {s : Shared} {p : Addr} {xs : List V} (I : Inv X pins σ H s) (h : H p = some (.lst xs)) :
    ∃ (its : List Value) (n : Nat), Vals xs its ∧ s.heap.get? p = some { cls := .type "list", data := .seq its.toArray n } ∧ xs.length ≤ sizeLine := by
  obtain ⟨z, its, n, r, e⟩ := I.hok p _ h
  exact ⟨its, n, r, e, z⟩
/-- the list at p is written by an update of its object -/
theorem Inv.lstUpd {pins : List (Addr × Obj)} {σ : St} {H : Hp} {s : Shared} {p : Addr} {xs ys : List V} {its its' : List Value} {n n' : Nat} {f : Obj → Obj} (I : Inv X pins σ H s) (h : H p = some (.lst xs))
    (ho : s.heap.get? p = some { cls := .type "list", data := .seq its.toArray n }) (hf : f { cls := .type "list", data := .seq its.toArray n } = { cls := .type "list", data := .seq its'.toArray n' }) (r : Vals ys its') (hz : ys.length ≤ sizeLine) (t : Nat) :
    Inv X pins σ (upd H p (.lst ys)) { s with heap := s.heap.update p f, toks := t } := by
  have e : (s.heap.update p f).get? p = some { cls := .type "list", data := .seq its'.toArray n' } := by
    rw [Heap.get?_update_self f ho (by rw [hf] <;> rfl), hf]
  refine I.write (x := p) (e := p) (by rw [h]; trivial) (.inl rfl) (fun b u hb q => (Heap.get?_update_other _ _ (Ne.symm hb)).trans q) ⟨_, e⟩ ?_
  exact ⟨hz, its', n', r, e⟩
def rSetL : V → V → V → Hp → (Hp → Prop) → Prop := fun o i v H Q => ∃ p xs k j, o = .ref p ∧ i = .int k ∧ H p = some (.lst xs) ∧ ixN xs.length k = some j ∧ Q (upd H p (.lst (xs.set j v)))
theorem set_list : PSet X rSetL := by
  intro pins s σ H o i v ov iv u Q I ro ri rv h
  obtain ⟨p, xs, k, j, rfl, rfl, hp, hj, q⟩ := h
  cases ro
  obtain ⟨t, rfl⟩ := ri
  obtain ⟨its, n, r, ho, hz⟩ := I.lst hp
  obtain ⟨h1, h2, h3, h4⟩ := ixN_seq hj
  have hl := r.length
  have hn := line63
  have I' : Inv X pins σ (upd H p (.lst (xs.set j v))) { s with heap := s.heap.update p (Obj.mapSeq (·.setIfInBounds j u)) } :=
    I.lstUpd hp ho (mapSeq_set its n j u) (r.set rv j) (by rw [List.length_set]; exact hz) s.toks
  by_cases h0 : 0 ≤ k
  · have hk : k.toNat = j := by
      rw [seqIndex_of h0 h4] at h1
      exact Option.some.inj h1
    exact PySem.W.ki_setAt ho h0 (by omega) (by rw [List.size_toArray, ← hl]; exact h4) (by rw [hk]; exact ⟨_, I', q⟩)
  · have hk : (k + (its.toArray.size : Int)).toNat = j := by
      rw [seqIndex_neg (by omega) h3] at h1
      rw [List.size_toArray, ← hl]
      exact Option.some.inj h1
    exact PySem.W.ki_setBack ho (by omega) (by rw [List.size_toArray, ← hl]; exact h3) (by omega) (by rw [hk]; exact ⟨_, I', q⟩)

/-! ### slices -/
theorem slice_bounds (lo hi : Option Int) (n : Nat) : (sliceBounds lo hi none n).1 = ((HT.sIx n 0 lo : Nat) : Int) ∧ (sliceBounds lo hi none n).2.1 = ((HT.sIx n n hi : Nat) : Int) ∧ (sliceBounds lo hi none n).2.2 = 1 := by
  refine ⟨?_, ?_, rfl⟩
  · cases lo with
    | none => simp [sliceBounds, HT.sIx]
    | some i =>
      simp only [sliceBounds, HT.sIx, Option.getD_none, show (1 : Int) > 0 by decide, if_true]
      by_cases h : i < 0
      · simp only [h, if_true] <;> omega
      · simp only [h, if_false] <;> omega
  · cases hi with
    | none => simp [sliceBounds, HT.sIx]
    | some i =>
      simp only [sliceBounds, HT.sIx, Option.getD_none, show (1 : Int) > 0 by decide, if_true]
      by_cases h : i < 0
      · simp only [h, if_true] <;> omega
      · simp only [h, if_false] <;> omega
theorem slicePick_cut (its : List Value) (lo hi : Option Int) : slicePick its.toArray lo hi none = ((its.drop (HT.sIx its.length 0 lo)).take (HT.sIx its.length its.length hi - HT.sIx its.length 0 lo)).toArray := by
  obtain ⟨h1, h2, h3⟩ := slice_bounds lo hi its.toArray.size
  unfold slicePick
  rw [h1, h2, h3]
  simp only [sliceRange_one, pick_run, List.size_toArray] <;> rfl
/-- xs[lo:hi] of a list: a new list -/
def rSlL (K : PySem.W.Frag) : V → Option Int → Option Int → Hp → VK → Prop := fun x lo hi H Q => ∃ a xs, x = .ref a ∧ SqL K H a xs ∧ ∀ p, H p = none → Q (.ref p) (upd H p (.lst (cutV xs lo hi)))
theorem sl_list : SlR X (rSlL X.K) := by
  intro pins s σ H x v vl vu lo hi sl Q I rx hs pl pu h
  obtain ⟨a, xs, rfl, hx, q⟩ := h
  cases rx
  obtain ⟨its, r, ht, hz⟩ := I.list hx
  have hlen := r.length
  refine ⟨"list", _, slot_list_getitem.lookup, ht.isList.typeIs, ?_⟩
  refine wpAny_getItem_list_slice ht.isList hs pl pu .none (by simp) ?_ (by rw [List.size_toArray] <;> omega)
  rw [slicePick_cut, ← hlen]
  refine ⟨.ref s.heap.objs.size, _, I.laid (t' := s.toks) (o := .lst (cutV xs lo hi)) (fun b ob q => Heap.get?_push_of_some _ q) (Nat.le_refl _) ?_, rfl, q _ (I.hok.fresh (Nat.le_refl _))⟩
  exact ⟨Nat.le_trans (cutV_length xs lo hi) hz, _, 0, (r.drop (HT.sIx xs.length 0 lo)).take (HT.sIx xs.length xs.length hi - HT.sIx xs.length 0 lo), Heap.get?_push_size _ rfl⟩

/-! ### in, not in: flat items -/
/-! ### len, list(x), tuple(x) of any list or tuple that is read -/
theorem call_len_seq : CallR X (.builtin "len") (fun xs H Q => ∃ p ys, xs = [.ref p] ∧ (SqL X.K H p ys ∨ SqT X.K H p ys) ∧ Q (.int ys.length) H) := by
  intro pins s σ H xs us Q I r h
  obtain ⟨p, ys, rfl, hq, q⟩ := h
  obtain ⟨u, rfl, rx⟩ := vals1 r
  cases rx
  have hn := line63
  rcases hq with hq | hq
  · obtain ⟨its, r', pl, hz⟩ := I.list hq
    have hlen := r'.length
    exact Calls.call_len_list pl.isList (by simp only [List.size_toArray] <;> omega) ⟨.int ys.length, H, I.tok _, ⟨s.toks + 1, by rw [List.size_toArray, hlen]⟩, q⟩
  · obtain ⟨its, r', pl, hz⟩ := I.tuple hq
    have hlen := r'.length
    exact len_tuple pl (by simp only [List.size_toArray] <;> omega) ⟨.int ys.length, H, I.tok _, ⟨s.toks + 1, by rw [List.size_toArray, hlen]⟩, q⟩
theorem call_len_str : CallR X (.builtin "len") (fun xs H Q => ∃ z, xs = [.str z] ∧ z.length ≤ sizeLine ∧ Q (.int z.length) H) := by
  intro pins s σ H xs us Q I r h
  obtain ⟨z, rfl, hz, q⟩ := h
  obtain ⟨u, rfl, t, rfl⟩ := vals1 r
  have hn := line63
  exact len_str (by omega) ⟨.int z.length, H, I.tok _, ⟨_, rfl⟩, q⟩
theorem call_list_of : CallR X (.type "list") (fun xs H Q => ∃ p ys, xs = [.ref p] ∧ (SqL X.K H p ys ∨ SqT X.K H p ys) ∧ ∀ l, H l = none → Q (.ref l) (upd H l (.lst ys))) := by
  intro pins s σ H xs us Q I r h
  obtain ⟨p, ys, rfl, hq, q⟩ := h
  obtain ⟨u, rfl, rx⟩ := vals1 r
  cases rx
  have fin : ∀ (its : List Value), Vals ys its → ys.length ≤ sizeLine → ∀ (h' : Heap) (c' : Nat), (∀ b o', s.heap.get? b = some o' → h'.get? b = some o') →
      h'.get? s.heap.objs.size = some { cls := .type "list", dict := none, data := .seq its.toArray c', slots := #[] } → EP X pins σ Q (.ref s.heap.objs.size) { s with heap := h' } := fun its r' hz h' c' kp e =>
    ⟨.ref s.heap.objs.size, _, I.laid (t' := s.toks) kp (Nat.le_refl _) (show ObjOk X.prog X.w _ h' _ (.lst ys) from ⟨hz, its, c', r', e⟩), rfl, q _ (I.hok.fresh (Nat.le_refl _))⟩
  rcases hq with hq | hq
  · obtain ⟨its, r', pl, hz⟩ := I.list hq
    have hlen := r'.length
    obtain ⟨o, ho, hc, n, hd⟩ := pl.isList
    exact call_list_seq p (.inl rfl) ho hc hd (fun h' c' kp e => fin its r' hz h' c' kp e) (by simp only [List.size_toArray] <;> omega)
  · obtain ⟨its, r', pl, hz⟩ := I.tuple hq
    have hlen := r'.length
    obtain ⟨o, ho, hc, n, hd⟩ := pl
    exact call_list_seq p (.inr rfl) ho hc hd (fun h' c' kp e => fin its r' hz h' c' kp e) (by simp only [List.size_toArray] <;> omega)
/-! ### the call of a builtin's method: o.m(..) -/
/-- the value is of that builtin type -/
def tyV (K : PySem.W.Frag) (T : String) (x : V) (H : Hp) : Prop := match x with
  | .str _ => T = "str"
  | .int _ => T = "int"
  | .ref p => (T = "list" ∧ ∃ xs, SqL K H p xs) ∨ (T = "tuple" ∧ ∃ o, K.lookup p = some o ∧ o.cls = .type "tuple" ∧ o.dict = none) ∨
      (T = "dict" ∧ ((∃ kvs, H p = some (.dK kvs)) ∨ ∃ kvs, H p = some (.dT kvs))) ∨ (T = "set" ∧ ∃ S n, H p = some (.set S n))
  | _ => False
theorem tyV_is {pins : List (Addr × Obj)} {σ : St} {H : Hp} {s : Shared} {T : String} {x : V} {v : Value} (I : Inv X pins σ H s) (r : RelV x v) (ty : tyV X.K T x H) :
    s.TypeIs v T ∧ ∀ a, v = .ref a → ∃ ob, s.heap.get? a = some ob ∧ ob.dict = none := by
  cases x with
  | str z =>
    obtain ⟨t, rfl⟩ := r
    cases (show T = "str" from ty)
    exact ⟨typeIs_str s z t, fun _ e => nomatch e⟩
  | int i =>
    obtain ⟨t, rfl⟩ := r
    cases (show T = "int" from ty)
    exact ⟨typeIs_int s i t, fun _ e => nomatch e⟩
  | ref p =>
    cases r
    rcases ty with ⟨rfl, xs, hq⟩ | ⟨rfl, o, hk, hc, hd⟩ | ⟨rfl, hk⟩ | ⟨rfl, S, n, hk⟩
    · obtain ⟨its, _, pl, _⟩ := I.list hq
      refine ⟨pl.isList.typeIs, fun a e => ?_⟩
      cases e
      obtain ⟨o, n, e, c, hd, _⟩ := pl
      exact ⟨o, e, hd⟩
    · refine ⟨⟨o, I.kIn p o hk, hc⟩, fun a e => ?_⟩
      cases e
      exact ⟨o, I.kIn _ o hk, hd⟩
    · have z : ∃ o, s.heap.get? p = some o ∧ o.ExactDict := by
        rcases hk with ⟨kvs, hk⟩ | ⟨kvs, hk⟩
        · obtain ⟨_, _, _, _, o, _, _, e, ex, _⟩ := I.hok p _ hk
          exact ⟨o, e, ex⟩
        · obtain ⟨_, _, _, _, o, _, _, e, ex, _⟩ := I.hok p _ hk
          exact ⟨o, e, ex⟩
      obtain ⟨o, e, ex⟩ := z
      refine ⟨⟨o, e, ex.1⟩, fun a e2 => ?_⟩
      cases e2
      exact ⟨o, e, ex.2.1⟩
    · obtain ⟨o, _, _, _, e, ex, _⟩ := I.hok p _ hk
      refine ⟨⟨o, e, ex.1⟩, fun a e2 => ?_⟩
      cases e2
      exact ⟨o, e, ex.2.1⟩
  | _ => exact False.elim ty
def tBM0 (K : PySem.W.Frag) (T : String) (r : V → List V → Hp → VK → Prop) (to : TE) : TE := fun σ H Q => to σ H fun x H1 => tyV K T x H1 ∧ r x [] H1 Q
def tBM (K : PySem.W.Frag) (T : String) (r : V → List V → Hp → VK → Prop) (to : TE) (t : TA) : TE := fun σ H Q => to σ H fun x H1 => tyV K T x H1 ∧ t σ H1 fun xs H2 => r x xs H2 Q
variable {o e : Expr} {es : List Expr} {to : TE} {t : TA} {name : Str} {apos cpos : Pos} {T id : String} {r : V → List V → Hp → VK → Prop}
theorem pe_bm0 (pa : PlainAttrs T) (slot : Slot T name id) (hty : typeOf (.builtin id) = pure (.type "method_descriptor")) (hm : MtR X id r) (ho : PE X o to)
    (hbase : attributeBase o name X.env (eval o X.env) = eval o X.env := by rfl) (hline : (apos.endLine == cpos.line) = true := by rfl) : PE X (.Call (.Attribute o name apos) [] [] cpos) (tBM0 X.K T r to) := by
  intro pins s σ H Q I h
  refine wpAny_Call_method0_late hbase hline (thn (ho pins s σ H _ I h) fun v s1 ⟨x, H1, I1, r1, ty, q1⟩ => ?_)
  obtain ⟨h1, h2⟩ := tyV_is I1 r1 ty
  exact ⟨T, id, pa, slot, hty, h1, h2, Calls.callWith_builtin rfl (PySem.evalArgs_none (hm pins s1 σ H1 x [] v [] Q I1 r1 .nil q1))⟩
theorem pe_bm (pa : PlainAttrs T) (slot : Slot T name id) (hty : typeOf (.builtin id) = pure (.type "method_descriptor")) (hm : MtR X id r) (ho : PE X o to) (ha : PA X (e :: es) t)
    (hbase : attributeBase o name X.env (eval o X.env) = eval o X.env := by rfl)
    (hfew : ((backTo cpos (starEach (e :: es) X.env)).all (fun x => !x.1) && (backToKw cpos (keywordEach [] X.env)).all (fun x => x.1.isSome)
      && decide ((e :: es).length + ([] : List Keyword).length + (if ([] : List Keyword).isEmpty then 0 else 1) < 30)) = true := by rfl)
    (hline : (apos.endLine == cpos.line) = true := by rfl) (hs : starEach (e :: es) X.env = (false, eval e X.env) :: starEach es X.env := by rfl) (hplain : (backTo cpos (starEach es X.env)).any (·.1) = false := by rfl) :
    PE X (.Call (.Attribute o name apos) (e :: es) [] cpos) (tBM X.K T r to t) := by
  intro pins s σ H Q I h
  refine wpAny_Call_method_late hbase hfew hline rfl (thn (ho pins s σ H _ I h) fun v s1 ⟨x, H1, I1, r1, ty, q1⟩ => ?_)
  obtain ⟨h1, h2⟩ := tyV_is I1 r1 ty
  refine ⟨T, id, pa, slot, hty, h1, h2, ?_⟩
  have hA := ha cpos pins s1 σ H1 _ I1 q1
  rw [hs] at hA ⊢
  refine Calls.callWith_builtin (by show (false || (backTo cpos (starEach es X.env)).any (·.1)) = false; rw [hplain] <;> rfl) (Calls.evalArgs_plain ?_)
  exact thn hA fun us s2 ⟨vs, H2, I2, r2, q2⟩ => hm pins s2 σ H2 x vs v us Q I2 r1 r2 q2
/- xs.append(e), list.index on a module's tuple .. are MtR facts of 06m -/
end
end L2

namespace L2
open PySem PySem.Spec PyProof.Rows

def MtM (X : Cx) (id : String) (r : V → List V → Hp → VK → Prop) : Prop :=
  ∀ (pins : List (Addr × Obj)) (s : Shared) (σ : St) (H : Hp) (x : V) (xs : List V) (v : Value) (us : List Value) (Q : VK), Inv X pins σ H s → RelV x v → Vals xs us → r x xs H Q →
    wpAny (model X.prog X.w) X.A (call (.builtin id) (v :: us)) (EP X pins σ Q) X.xe s

/-! ### lists of values -/
theorem Vals.one : ∀ {x : V} {us : List Value}, Vals [x] us → ∃ u, us = [u] ∧ RelV x u
  | _, _, .cons r .nil => ⟨_, rfl, r⟩
theorem Vals.zero : ∀ {us : List Value}, Vals [] us → us = []
  | _, .nil => rfl
theorem Vals.dropLast {xs : List V} {us : List Value} (h : Vals xs us) : Vals xs.dropLast us.dropLast := by
  induction h with
  | nil => exact .nil
  | cons r t ih =>
    cases t with
    | nil => exact .nil
    | cons q t' => exact .cons r ih
theorem erase_last {α : Type} (l : List α) : l.eraseIdx (l.length - 1) = l.dropLast := by
  induction l with
  | nil => rfl
  | cons a r ih =>
    cases r with
    | nil => rfl
    | cons b r =>
      have e : (a :: b :: r).length - 1 = ((b :: r).length - 1) + 1 := by
        have h1 : (a :: b :: r).length = r.length + 2 := rfl
        have h2 : (b :: r).length = r.length + 1 := rfl
        omega
      rw [e, List.eraseIdx_cons_succ, ih]
      all_goals rfl
section
variable {X : Cx} {pins : List (Addr × Obj)} {σ : St} {H : Hp} {s : Shared} {l b : Addr} {xs ys zs : List V}

/-! ### the two steps: a tracked list is rewritten, a new list is laid -/
theorem Inv.lset {its its' : List Value} {n : Nat} {f : Array Value → Array Value} {t' : Nat} (I : Inv X pins σ H s) (hH : H l = some (.lst xs))
    (e : s.heap.get? l = some { cls := .type "list", data := .seq its.toArray n }) (hf : f its.toArray = its'.toArray) (hv : Vals ys its') (hz : ys.length ≤ sizeLine) :
    Inv X pins σ (upd H l (.lst ys)) { s with heap := s.heap.update l (Obj.mapSeq f), toks := t' } := by
  have q := PySem.IsL.update e f
  rw [hf] at q
  refine I.write (x := l) (e := l) (by rw [hH]; exact trivial) (.inl rfl) (fun b' u hb hu => (Heap.get?_update_other s.heap (Obj.mapSeq f) (Ne.symm hb)).trans hu) ⟨_, q⟩ ?_
  exact ⟨hz, its', _, hv, q⟩
theorem Inv.lnew {its : List Value} {t' : Nat} (I : Inv X pins σ H s) (hv : Vals ys its) (hz : ys.length ≤ sizeLine) :
    Inv X pins σ (upd H s.heap.objs.size (.lst ys)) { s with heap := s.heap.push { cls := .type "list", data := .seq its.toArray }, toks := t' } :=
  I.laid (fun _ _ q => Heap.get?_push_of_some _ q) (Nat.le_refl _) ⟨hz, its, 0, hv, Heap.get?_push_size _ rfl⟩
theorem Inv.fresh (I : Inv X pins σ H s) : H s.heap.objs.size = none := I.hok.fresh (Nat.le_refl _)
theorem Inv.lstM (I : Inv X pins σ H s) (hH : H l = some (.lst xs)) : xs.length ≤ sizeLine ∧ ∃ (its : List Value) (n : Nat), Vals xs its ∧ xs.length = its.length ∧ s.heap.get? l = some { cls := .type "list", data := .seq its.toArray n } := by
  obtain ⟨z, its, n, r, e⟩ := I.hok l _ hH
  exact ⟨z, its, n, r, r.length, e⟩

end

section
variable {X : Cx}

/-! ### methods -/
def rAppend : V → List V → Hp → VK → Prop := fun x vs H Q => ∃ l xs y, x = .ref l ∧ vs = [y] ∧ H l = some (.lst xs) ∧ xs.length < sizeLine ∧ Q .non (upd H l (.lst (xs ++ [y])))
theorem mt_append : MtM X "list.append" rAppend := by
  intro pins s σ H x vs v us Q I rx rv h
  obtain ⟨l, xs, y, rfl, rfl, hH, hz, q⟩ := h
  cases rx
  obtain ⟨u, rfl, ru⟩ := rv.one
  obtain ⟨z, its, n, r, hl, e⟩ := I.lstM hH
  refine call_meets F.slot_list_append ⟨_, e, rfl⟩ F.entry_list_append (F.args_list_append_2 _ _) (PySem.list_append l its.toArray n u (by rw [List.size_toArray]; omega)) ⟨e, ?_⟩
  refine ⟨.non, _, I.lset (its' := its ++ [u]) hH e (by simp) (r.append (.cons ru .nil)) ?_, rfl, q⟩
  rw [List.length_append, List.length_singleton]
  omega

def rPop : V → List V → Hp → VK → Prop := fun x vs H Q => ∃ l xs y, x = .ref l ∧ vs = [] ∧ H l = some (.lst xs) ∧ xs[xs.length - 1]? = some y ∧ Q y (upd H l (.lst xs.dropLast))
theorem mt_pop : MtM X "list.pop" rPop := by
  intro pins s σ H x vs v us Q I rx rv h
  obtain ⟨l, xs, y, rfl, rfl, hH, hy, q⟩ := h
  cases rx
  have hus := rv.zero
  subst hus
  obtain ⟨z, its, n, r, hl, e⟩ := I.lstM hH
  obtain ⟨u, hu, ru⟩ := r.get hy
  have hy' : its.toArray[its.toArray.size - 1]? = some u := by
    show its.toArray[its.length - 1]? = some u
    rw [← Array.getElem?_toList, ← hl]
    exact hu
  refine call_meets F.slot_list_pop ⟨_, e, rfl⟩ F.entry_list_pop (F.args_list_pop_1 _) (MeetsSeq.list_pop_last l its.toArray n u hy' (by rw [List.size_toArray]; omega)) ⟨e, ?_⟩
  refine ⟨y, _, I.lset (its' := its.dropLast) hH e ?_ r.dropLast ?_, ru, q⟩
  · show its.toArray.eraseIdxIfInBounds (its.toArray.size - 1) = its.dropLast.toArray
    rw [List.size_toArray, List.eraseIdxIfInBounds_toArray, erase_last]
  · rw [List.length_dropLast]
    omega

/-! ### list + list, list += list, list * int -/
def rCat : R2 := fun x y H Q => ∃ l b xs zs, x = .ref l ∧ y = .ref b ∧ H l = some (.lst xs) ∧ H b = some (.lst zs) ∧ xs.length + zs.length ≤ sizeLine ∧ ∀ p, H p = none → Q (.ref p) (upd H p (.lst (xs ++ zs)))
theorem op_cat : OpR X (binaryOp .Add) rCat := by
  intro pins s σ H x y v u Q I rx ry h
  obtain ⟨l, b, xs, zs, rfl, rfl, hH, hB, hz, q⟩ := h
  cases rx
  cases ry
  obtain ⟨z, its, n, r, hl, e⟩ := I.lstM hH
  obtain ⟨z2, its2, n2, r2, hl2, e2⟩ := I.lstM hB
  refine PySem.P.add_list e e2 ?_ (by rw [List.size_toArray, List.size_toArray]; omega)
  have ea : its.toArray ++ its2.toArray = (its ++ its2).toArray := by simp
  rw [ea]
  exact ⟨.ref _, _, I.lnew (t' := s.toks) (r.append r2) (by rw [List.length_append]; omega), rfl, q _ I.fresh⟩
/-! ### del xs[i] -/
end

/-! ### xs[a:b] = ys -/
section
variable {prog : Program} {w : World} {A : Around} {E : Value → Shared → Prop} {s : Shared}
set_option maxRecDepth 100000 in
end


end L2
namespace L2
open PySem PySem.Spec PyProof.Rows

/-! ### lists of pairs as tables -/
section
variable {κ : Type} [DecidableEq κ]
def valV (kvs : List (κ × V)) (k : κ) : Option V := (kvs.find? fun kv => decide (kv.1 = k)).map (·.2)
/-- in its place, or at the end -/
def putK (kvs : List (κ × V)) (k : κ) (v : V) : List (κ × V) :=
  if (kvs.any fun kv => decide (kv.1 = k)) = true then kvs.map (fun kv => if kv.1 = k then (kv.1, v) else kv) else kvs ++ [(k, v)]
theorem valV_pos {p : κ × V} {r : List (κ × V)} {k : κ} (e : p.1 = k) : valV (p :: r) k = some p.2 := by simp [valV, List.find?_cons, e]
theorem valV_neg {p : κ × V} {r : List (κ × V)} {k : κ} (e : ¬ p.1 = k) : valV (p :: r) k = valV r k := by simp [valV, List.find?_cons, e]
theorem valV_any (k : κ) : ∀ kvs : List (κ × V), (kvs.any fun kv => decide (kv.1 = k)) = (valV kvs k).isSome
  | [] => rfl
  | p :: r => by
    rw [List.any_cons]
    by_cases e : p.1 = k
    · simp only [valV_pos e, decide_eq_true e, Bool.true_or, Option.isSome_some]
    · rw [valV_neg e, decide_eq_false e, Bool.false_or]; exact valV_any k r
theorem valV_map (k j : κ) (y : V) : ∀ kvs : List (κ × V), valV (kvs.map fun kv => if kv.1 = k then (kv.1, y) else kv) j = (valV kvs j).map fun x => if j = k then y else x
  | [] => rfl
  | p :: r => by
    have ih := valV_map k j y r
    rw [List.map_cons]
    by_cases h : p.1 = k
    · rw [if_pos h]
      by_cases e : p.1 = j
      · rw [valV_pos (p := (p.1, y)) e, valV_pos e, Option.map_some, if_pos (e.symm.trans h)]
      · rw [valV_neg (p := (p.1, y)) e, valV_neg e, ih]
    · rw [if_neg h]
      by_cases e : p.1 = j
      · rw [valV_pos (p := p) e, valV_pos e, Option.map_some, if_neg (fun z => h (e.trans z))]
      · rw [valV_neg (p := p) e, valV_neg e, ih]
theorem valV_snoc (k j : κ) (y : V) : ∀ kvs : List (κ × V), valV kvs k = none → valV (kvs ++ [(k, y)]) j = if j = k then some y else valV kvs j
  | [], _ => by
    by_cases e : k = j
    · rw [if_pos e.symm]; exact valV_pos (p := (k, y)) e
    · rw [if_neg (fun z => e z.symm)]; exact valV_neg (p := (k, y)) e
  | p :: r, hn => by
    rw [List.cons_append]
    have hk : ¬ p.1 = k := fun z => by rw [valV_pos z] at hn; cases hn
    rw [valV_neg hk] at hn
    have ih := valV_snoc k j y r hn
    by_cases e : p.1 = j
    · rw [valV_pos e, valV_pos e, if_neg (fun z => hk (e.trans z))]
    · rw [valV_neg e, valV_neg e, ih]
theorem valV_put (kvs : List (κ × V)) (k j : κ) (y : V) : valV (putK kvs k y) j = if j = k then some y else valV kvs j := by
  unfold putK
  by_cases a : (kvs.any fun kv => decide (kv.1 = k)) = true
  · rw [if_pos a, valV_map]
    rw [valV_any] at a
    by_cases e : j = k
    · obtain ⟨x, hx⟩ := Option.isSome_iff_exists.mp a
      rw [if_pos e, e, hx, Option.map_some, if_pos rfl]
    · rw [if_neg e]
      cases valV kvs j with
      | none => rfl
      | some x => rw [Option.map_some, if_neg e]
  · rw [if_neg a]
    refine valV_snoc k j y kvs ?_
    rw [valV_any] at a
    cases q : valV kvs k with
    | none => rfl
    | some x => rw [q] at a; exact (a rfl).elim
theorem length_putK (kvs : List (κ × V)) (k : κ) (v : V) : (putK kvs k v).length ≤ kvs.length + 1 := by
  unfold putK
  split
  · rw [List.length_map]; omega
  · rw [List.length_append, List.length_cons, List.length_nil]; omega
theorem putK_new {kvs : List (κ × V)} {k : κ} (v : V) (h : valV kvs k = none) : putK kvs k v = kvs ++ [(k, v)] := by
  unfold putK
  rw [valV_any, h]
  exact if_neg (by decide)

theorem RelO.isSome_eq {o : Option V} {u : Option Value} (r : RelO o u) : o.isSome = u.isSome := by
  cases o with
  | none => cases u with
    | none => rfl
    | some _ => exact (show False from r).elim
  | some _ => cases u with
    | none => exact (show False from r).elim
    | some _ => rfl
/-- raw tables of the same keys -/
theorem KV.val {kvs : List (κ × V)} {vs : List (κ × Value)} (r : KV kvs vs) (k : κ) : RelO (valV kvs k) (valueAt vs k) := by
  unfold KV at r
  induction r with
  | nil => exact True.intro
  | @cons p q ps qs h t ih =>
    obtain ⟨h1, h2⟩ := h
    by_cases e : p.1 = k
    · have e' : q.1 = k := h1.symm.trans e
      have b : valueAt (q :: qs) k = some q.2 := by simp [valueAt, List.find?_cons, e']
      rw [valV_pos e, b]; exact h2
    · have e' : ¬ q.1 = k := fun z => e (h1.trans z)
      have b : valueAt (q :: qs) k = valueAt qs k := by simp [valueAt, List.find?_cons, e']
      rw [valV_neg e, b]; exact ih
theorem KV.any {kvs : List (κ × V)} {vs : List (κ × Value)} (r : KV kvs vs) (k : κ) : (kvs.any fun kv => decide (kv.1 = k)) = vs.any fun kv => decide (kv.1 = k) := by
  unfold KV at r
  induction r with
  | nil => rfl
  | cons h t ih => rw [List.any_cons, List.any_cons, ih, h.1]
theorem KV.repl {kvs : List (κ × V)} {vs : List (κ × Value)} (r : KV kvs vs) (k : κ) {y : V} {u : Value} (ry : RelV y u) :
    KV (kvs.map fun kv => if kv.1 = k then (kv.1, y) else kv) (vs.map fun kv => if kv.1 = k then (kv.1, u) else kv) := by
  unfold KV at r ⊢
  induction r with
  | nil => exact .nil
  | @cons p q ps qs h t ih =>
    rw [List.map_cons, List.map_cons]
    refine .cons ?_ ih
    obtain ⟨h1, h2⟩ := h
    by_cases e : p.1 = k
    · rw [if_pos e, if_pos (h1.symm.trans e)]; exact ⟨h1, ry⟩
    · rw [if_neg e, if_neg (fun z => e (h1.trans z))]; exact ⟨h1, h2⟩
theorem KV.put {kvs : List (κ × V)} {vs : List (κ × Value)} (r : KV kvs vs) (k : κ) {y : V} {u : Value} (ry : RelV y u) : KV (putK kvs k y) (stored vs k u) := by
  unfold putK stored
  rw [r.any k]
  by_cases e : (vs.any fun kv => decide (kv.1 = k)) = true
  · rw [if_pos e, if_pos e]; exact r.repl k ry
  · rw [if_neg e, if_neg e]; exact Paired.snoc r ⟨rfl, ry⟩
theorem KV.length {kvs : List (κ × V)} {vs : List (κ × Value)} (r : KV kvs vs) : kvs.length = vs.length := Paired.length r
end


/-! ### a tracked dict, its keys ints and texts or tuples of these -/
theorem kV_is {P : Program} {w : World} {k : Key} {u : Value} (r : RelV (kV k) u) : (mixKind P w).is k u = true := by
  cases k with
  | inl i => obtain ⟨t, e⟩ := (show ∃ t, u = Value.int i t from r); subst e; exact mixKind_int P w i t
  | inr x => obtain ⟨t, e⟩ := (show ∃ t, u = Value.str x t from r); subst e; exact mixKind_str P w x t
theorem items_are {P : Program} {w : World} : ∀ {ks : List Key} {us : List Value}, Vals (ks.map kV) us → ItemsAre (mixKind P w) ks us
  | [], _, r => by rw [List.map_nil] at r; cases r; exact .nil
  | k :: ks, _, r => by
    rw [List.map_cons] at r
    cases r with
    | cons h t => exact .cons (kV_is h) (items_are t)

/-- raw entries of a dict with tuple keys -/
abbrev KT (H : Hp) : List (List Key × V) → List (List Key × Addr × Value) → Prop := Paired fun p q => p.1 = q.1 ∧ H q.2.1 = some (.tup (p.1.map kV)) ∧ RelV p.2 q.2.2
theorem KT.val {H : Hp} {kvs : List (List Key × V)} {xs : List (List Key × Addr × Value)} (r : KT H kvs xs) (k : List Key) : RelO (valV kvs k) ((atKey xs k).map (·.2)) := by
  induction r with
  | nil => exact True.intro
  | @cons p q ps qs h t ih =>
    obtain ⟨h1, _, h2⟩ := h
    by_cases e : p.1 = k
    · have e' : q.1 = k := h1.symm.trans e
      have b : atKey (q :: qs) k = some q.2 := by simp [atKey, List.find?_cons, e']
      rw [valV_pos e, b]; exact h2
    · have e' : ¬ q.1 = k := fun z => e (h1.trans z)
      have b : atKey (q :: qs) k = atKey qs k := by simp [atKey, List.find?_cons, e']
      rw [valV_neg e, b]; exact ih
theorem KT.repl {H : Hp} {kvs : List (List Key × V)} {xs : List (List Key × Addr × Value)} (r : KT H kvs xs) (k : List Key) {y : V} {u : Value} (ry : RelV y u) :
    KT H (kvs.map fun kv => if kv.1 = k then (kv.1, y) else kv) (xs.map (putAt k u)) := by
  induction r with
  | nil => exact .nil
  | @cons p q ps qs h t ih =>
    rw [List.map_cons, List.map_cons]
    refine .cons ?_ ih
    obtain ⟨h1, h2, h3⟩ := h
    unfold putAt
    by_cases e : p.1 = k
    · rw [if_pos e, if_pos (h1.symm.trans e)]; exact ⟨h1, h2, ry⟩
    · rw [if_neg e, if_neg (fun z => e (h1.trans z))]; exact ⟨h1, h2, h3⟩
theorem KT.put {H : Hp} {kvs : List (List Key × V)} {xs : List (List Key × Addr × Value)} (r : KT H kvs xs) (k : List Key) {b : Addr} {y : V} {u : Value} (hb : H b = some (.tup (k.map kV))) (ry : RelV y u) :
    KT H (putK kvs k y) (storedH xs k b u) := by
  have e : (kvs.any fun kv => decide (kv.1 = k)) = (atKey xs k).isSome := by
    rw [valV_any, (r.val k).isSome_eq, Option.isSome_map]
  unfold putK storedH
  rw [e]
  by_cases q : (atKey xs k).isSome = true
  · rw [if_pos q, if_pos q]; exact r.repl k ry
  · rw [if_neg q, if_neg q]; exact Paired.snoc r ⟨rfl, hb, ry⟩
theorem KT.keeps {H H' : Hp} {kvs : List (List Key × V)} {xs : List (List Key × Addr × Value)} (r : KT H kvs xs) (ht : ∀ b ys, H b = some (.tup ys) → H' b = some (.tup ys)) : KT H' kvs xs :=
  Paired.mapP r fun _ _ z => ⟨z.1, ht _ _ z.2.1, z.2.2⟩

section
variable {P : Program} {w : World} {H : Hp} {h : Heap} {a : Addr}
theorem rd_of {u : HO} (ok : HOk P w H h) (e : Rd H a u) : ObjOk P w H h a u := e.ok ok
theorem dk_rd {kvs : List (Key × V)} (ok : HOk P w H h) (e : Rd H a (.dK kvs)) : kvs.length ≤ sizeLine ∧ (a == sysModules) = false ∧ ∃ vs, KV kvs vs ∧ h.DictOf (mixKind P w) a vs :=
  show ObjOk P w H h a (.dK kvs) from rd_of ok e
theorem dk_of {kvs : List (Key × V)} (ok : HOk P w H h) (e : H a = some (.dK kvs)) : kvs.length ≤ sizeLine ∧ (a == sysModules) = false ∧ ∃ vs, KV kvs vs ∧ h.DictOf (mixKind P w) a vs := dk_rd ok (.inl e)
/-- a tracked tuple of ints and texts is a key -/
theorem key_of {ks : List Key} (ok : HOk P w H h) (e : H a = some (.tup (ks.map kV))) : (tupleKind (mixKind P w)).is h ks a := by
  obtain ⟨_, its, r, o, h1, h2, n, h3⟩ := (show ObjOk P w H h a (.tup (ks.map kV)) from ok a _ e)
  exact ⟨o, its.toArray, n, h1, h2, h3, by simpa using items_are r⟩
theorem dt_rd {kvs : List (List Key × V)} (ok : HOk P w H h) (e : Rd H a (.dT kvs)) : kvs.length ≤ sizeLine ∧ (a == sysModules) = false ∧
    ∃ xs, KT H kvs xs ∧ h.DictOfH (tupleKind (mixKind P w)) a xs := by
  obtain ⟨z, y, xs, r, o, es, ep, h1, h2, h3, h4, h5⟩ := (show ObjOk P w H h a (.dT kvs) from rd_of ok e)
  refine ⟨z, y, xs, r, o, es, ep, h1, h2, h3, h4, fun x hx => ?_, h5⟩
  have all : ∀ {l : List (List Key × V)} {m : List (List Key × Addr × Value)}, KT H l m → ∀ x ∈ m, (tupleKind (mixKind P w)).is h x.1 x.2.1 := by
    intro l m q
    induction q with
    | nil => intro x hx; exact nomatch hx
    | @cons p q ps qs hq t ih =>
      intro x hx
      rcases List.mem_cons.mp hx with e | hx
      · subst e
        exact key_of ok (by rw [← hq.1]; exact hq.2.1)
      · exact ih x hx
  exact all r x hx
theorem dt_of {kvs : List (List Key × V)} (ok : HOk P w H h) (e : H a = some (.dT kvs)) : kvs.length ≤ sizeLine ∧ (a == sysModules) = false ∧
    ∃ xs, KT H kvs xs ∧ h.DictOfH (tupleKind (mixKind P w)) a xs := dt_rd ok (.inl e)
end

/-- what the dict at a holds at the key y -/
def DGet (H : Hp) (a : Addr) (y : V) (r : Option V) : Prop :=
  (∃ kvs k, Rd H a (.dK kvs) ∧ y = kV k ∧ r = valV kvs k) ∨ ∃ kvs k b, Rd H a (.dT kvs) ∧ y = .ref b ∧ H b = some (.tup (k.map kV)) ∧ r = valV kvs k
/-- the heap behind a[y] = v -/
def DPut (H : Hp) (a : Addr) (y v : V) (H' : Hp) : Prop :=
  (∃ kvs k, H a = some (.dK kvs) ∧ y = kV k ∧ kvs.length < sizeLine ∧ H' = upd H a (.dK (putK kvs k v))) ∨
  ∃ kvs k b, H a = some (.dT kvs) ∧ y = .ref b ∧ H b = some (.tup (k.map kV)) ∧ kvs.length < sizeLine ∧ H' = upd H a (.dT (putK kvs k v))
theorem DGet.k {H : Hp} {a : Addr} {kvs : List (Key × V)} {k : Key} (e : H a = some (.dK kvs)) : DGet H a (kV k) (valV kvs k) := .inl ⟨kvs, k, .inl e, rfl, rfl⟩
theorem DPut.k {H : Hp} {a : Addr} {kvs : List (Key × V)} {k : Key} {v : V} (e : H a = some (.dK kvs)) (hl : kvs.length < sizeLine) : DPut H a (kV k) v (upd H a (.dK (putK kvs k v))) := .inl ⟨kvs, k, e, rfl, hl, rfl⟩
section
variable {X : Cx} {pins : List (Addr × Obj)} {σ : St} {H : Hp} {s : Shared} {a : Addr} {y v : V} {u r : Value} {o : Option V} {A : Around} {E : Value → Shared → Prop}

theorem Inv.big (I : Inv X pins σ H s) : sysModules < s.heap.objs.size := by
  have h : mainGlobals < s.heap.objs.size := (I.mod.glob.keeps I.bk).lt
  exact Nat.lt_trans (by decide) h

/-- d[y], there -/
theorem d_getItem {Q : Value → Shared → Prop} (hu : A.units + 1 < cLine) (I : Inv X pins σ H s) (g : DGet H a y (some v)) (ry : RelV y u) (h : ∀ w' s', Inv X pins σ H s' → RelV v w' → Q w' s') :
    wpAny (model X.prog X.w) A (getItem (.ref a) u) Q E s := by
  rcases g with ⟨kvs, k, e, ey, l⟩ | ⟨kvs, k, b, e, ey, eb, l⟩
  · subst ey
    obtain ⟨z, hd, vs, rel, dd⟩ := dk_rd I.hok e
    obtain ⟨w', hw, rw'⟩ := RelO.some_of (v := v) (o := valueAt vs k) (by rw [l]; exact rel.val k)
    exact wpAny_getItem_of (kV_is ry) dd.mapOf hw (h w' _ (I.tok _) rw')
  · subst ey
    cases (show u = Value.ref b from ry)
    obtain ⟨z, hd, xs, rel, dd⟩ := dt_rd I.hok e
    obtain ⟨w', hw, rw'⟩ := RelO.some_of (v := v) (o := (atKey xs k).map (·.2)) (by rw [l]; exact rel.val k)
    obtain ⟨p, hp, hp2⟩ := Option.map_eq_some_iff.mp hw
    refine wpAny_getItem_heap (tupleKind_room_in1 hu) (key_of I.hok eb) dd hp ?_
    rw [hp2]
    exact h w' _ (I.tok _) rw'
theorem d_notIn {Q : Value → Shared → Prop} (hu : A.units + 1 < cLine) (I : Inv X pins σ H s) (g : DGet H a y o) (ry : RelV y u) (h : ∀ s', Inv X pins σ H s' → Q (.bool (!o.isSome)) s') :
    wpAny (model X.prog X.w) A (compareOp .NotIn u (.ref a)) Q E s := by
  rcases g with ⟨kvs, k, e, ey, l⟩ | ⟨kvs, k, b, e, ey, eb, l⟩
  · subst ey
    obtain ⟨z, hd, vs, rel, dd⟩ := dk_rd I.hok e
    refine wpAny_notIn_of (kV_is ry) hd dd.mapOf ?_
    rw [← (rel.val k).isSome_eq, ← l]
    exact h _ (I.tok _)
  · subst ey
    cases (show u = Value.ref b from ry)
    obtain ⟨z, hd, xs, rel, dd⟩ := dt_rd I.hok e
    refine wpAny_notIn_heap (tupleKind_room_in1 hu) (key_of I.hok eb) hd dd ?_
    have q := (rel.val k).isSome_eq
    rw [Option.isSome_map] at q
    rw [← q, ← l]
    exact h _ (I.tok _)
/-- a dict's object is replaced -/
theorem d_write {h' : Heap} {t' : Nat} {ob : HO} (I : Inv X pins σ H s) (mu : Mut (H a)) (hs : Heap.SameBut a s.heap h') (he : ∃ q, h'.get? a = some q) (new : ObjOk X.prog X.w (upd H a ob) h' a ob) :
    Inv X pins σ (upd H a ob) { s with heap := h', toks := t' } :=
  I.write (x := a) (e := a) mu (.inl rfl) (fun b q hb z => (hs.2 b hb).trans z) he new
theorem dk_new {P : Program} {w : World} {H' : Hp} {h' : Heap} {kvs : List (Key × V)} {vs : List (Key × Value)} (z : kvs.length ≤ sizeLine) (hd : (a == sysModules) = false) (rel : KV kvs vs) (dd : h'.DictOf (mixKind P w) a vs) :
    ObjOk P w H' h' a (.dK kvs) := ⟨z, hd, vs, rel, dd⟩
/-- d[y] = v -/
theorem d_setItem {H' : Hp} {Q : Unit → Shared → Prop} (hu : A.units + 1 < cLine) (I : Inv X pins σ H s) (g : DPut H a y v H') (ry : RelV y u) (rv : RelV v r) (h : ∀ s', Inv X pins σ H' s' → Q () s') :
    wpAny (model X.prog X.w) A (setItem (.ref a) u r) Q E s := by
  rcases g with ⟨kvs, k, e, ey, l, eH⟩ | ⟨kvs, k, b, e, ey, eb, l, eH⟩
  · subst ey eH
    obtain ⟨z, hd, vs, rel, dd⟩ := dk_of I.hok e
    have hz : vs.length ≤ sizeLine := by rw [← rel.length]; exact z
    have hl : (putK kvs k v).length ≤ sizeLine := by have := length_putK kvs k v; omega
    refine wpAny_setItem_pairs (hsz := hz) (kV_is ry) dd fun h' dd' hs => h _ ?_
    have he : ∃ q, h'.get? a = some q := let ⟨q, _, _, hq, _⟩ := dd'; ⟨q, hq⟩
    exact d_write I (by rw [e]; exact True.intro) hs he (dk_new hl hd (rel.put k rv) dd')
  · subst ey eH
    cases (show u = Value.ref b from ry)
    obtain ⟨z, hd, xs, rel, dd⟩ := dt_of I.hok e
    have hz : xs.length ≤ sizeLine := by rw [← Paired.length rel]; exact z
    have hl : (putK kvs k v).length ≤ sizeLine := by have := length_putK kvs k v; omega
    refine wpAny_setItem_heap (hsz := hz) (tupleKind_room_in1 hu) (key_of I.hok eb) dd fun h' dd' hs => h _ ?_
    obtain ⟨q, es, ep, hq, h2, h3, h4, _, h5⟩ := dd'
    refine d_write I (by rw [e]; exact True.intro) hs ⟨q, hq⟩ ⟨hl, hd, _, (rel.put k eb rv).keeps fun c ys ec => ?_, q, es, ep, hq, h2, h3, h4, h5⟩
    rw [upd_ne (ne_of ec e (fun z => nomatch z))]
    exact ec
end




/-! ### readings and rules -/
/-- the element of a subscription, not a slice -/
def NoSl (i : Expr) : Prop := ∀ ov iv, subscripted i false ov iv = operate [ov, iv] (getItem ov iv)
theorem subD_of {prog : Program} {w : World} {A : Around} {E : Value → Shared → Prop} {s : Shared} {env : Env} {value slice : Expr} {pos : Pos} {T id : String} {Q : Value → Shared → Prop}
    (hl : typeLookup (.type T) "__getitem__" = pure (some (.builtin id))) (hs : NoSl slice)
    (h : wpAny (model prog w) A (eval value env) (fun o s₁ => wpAny (model prog w) A (eval slice env) (fun i s₂ => s₂.TypeIs o T ∧ wpAny (model prog w) A (getItem o i) Q E s₂) E s₁) E s) :
    wpAny (model prog w) A (eval (.Subscript value slice pos) env) Q E s := by
  refine Subscript_ (wpAny_mono h (fun o s₁ h₁ => wpAny_mono h₁ (fun i s₂ h₂ => ?_) fun _ _ x => x) fun _ _ x => x)
  obtain ⟨hT, h₂⟩ := h₂
  unfold subscriptTail
  refine wpAny_bind ?_
  rw [getitemInPython_of_ne hT.not_modules]
  refine wpAny_bind (wpAny_specialOf hT hl ?_)
  have fin : wpAny (model prog w) A (subscripted slice false o i) (fun r s₃ => wpAny (model prog w) A (letTemporaryGo value o r >>= fun _ => pure r) Q E s₃) E s₂ := by
    rw [hs o i]
    exact wpAny_operating (wpAny_mono h₂ (fun r s₃ h₃ => wpAny_bind (wpAny_letTemporaryGo (wpAny_pure h₃))) fun _ _ x => x)
  first
    | exact wpAny_pure (wpAny_bind fin)
    | exact wpAny_bind (wpAny_pure (wpAny_bind fin))
    | exact wpAny_bind fin

theorem dict_typeIs {X : Cx} {pins : List (Addr × Obj)} {σ : St} {H : Hp} {s : Shared} {a : Addr} {y : V} {o : Option V} (I : Inv X pins σ H s) (g : DGet H a y o) : s.TypeIs (.ref a) "dict" := by
  rcases g with ⟨kvs, k, e, _, _⟩ | ⟨kvs, k, b, e, _, _, _⟩
  · obtain ⟨_, _, vs, _, dd⟩ := dk_rd I.hok e
    exact dd.typeIs
  · obtain ⟨_, _, xs, _, dd⟩ := dt_rd I.hok e
    exact dd.typeIs
/-- d[y] -/
def tDGet (td ty : TE) : TE := fun σ H Q => td σ H fun x H1 => ty σ H1 fun y H2 => ∃ a v, x = .ref a ∧ DGet H2 a y (some v) ∧ Q v H2
def tDNotIn (ty td : TE) : TE := fun σ H Q => ty σ H fun y H1 => td σ H1 fun x H2 => ∃ a o, x = .ref a ∧ DGet H2 a y o ∧ Q (.bl (!o.isSome)) H2
/-- d[y] = v -/
def sDPut (td ty tv : TE) : TS := fun D σ H => tv σ H fun v H1 => td σ H1 fun x H2 => ty σ H2 fun y H3 => ∃ a H4, x = .ref a ∧ DPut H3 a y v H4 ∧ D.nx σ H4
section
variable {X : Cx} {o i e value : Expr} {pos pos' tpos : Pos} {td ty tv : TE}
theorem pe_dget (hu : X.A.units + 1 < cLine) (ho : PE X o td) (hi : PE X i ty) (hs : NoSl i) : PE X (.Subscript o i pos) (tDGet td ty) := by
  intro pins s σ H Q I h
  refine subD_of PySem.F.slot_dict_getitem.lookup hs (thn (ho pins s σ H _ I h) fun u s1 ⟨x, H1, I1, rx, q1⟩ => thn (hi pins s1 σ H1 _ I1 q1) fun iv s2 ⟨y, H2, I2, ry, a, v, ex, g, q2⟩ => ?_)
  subst ex
  obtain rfl : u = Value.ref a := rx
  exact ⟨dict_typeIs I2 g, d_getItem hu I2 g ry fun w' s3 I3 rw' => ⟨v, H2, I3, rw', q2⟩⟩
theorem pc_dnotin (hu : X.A.units + 1 < cLine) (hi : PE X i ty) (ho : PE X o td) : PC X .NotIn i o (tDNotIn ty td) := by
  intro pins s σ H Q I h
  refine thn (hi pins s σ H _ I h) fun iv s1 ⟨y, H1, I1, ry, q1⟩ => thn (ho pins s1 σ H1 _ I1 q1) fun u s2 ⟨x, H2, I2, rx, a, ov, ex, g, q2⟩ => ?_
  subst ex
  obtain rfl : u = Value.ref a := rx
  exact d_notIn hu I2 g ry fun s3 I3 => ⟨.bl (!ov.isSome), H2, I3, rfl, q2⟩
theorem ps_dput (hu : X.A.units + 1 < cLine) (ho : PE X o td) (hi : PE X i ty) (hv : PE X value tv) (hs : swapsWith value (some (.Subscript o i pos')) pos.line X.env = pure false) :
    PS X (.Assign [.Subscript o i pos'] value pos) (sDPut td ty tv) := by
  intro pins s σ H D I h
  refine wpAny_Assign_Subscript (thn (hv pins s σ H _ I h) fun r s1 ⟨v, H1, I1, rv, q1⟩ => thn (ho pins s1 σ H1 _ I1 q1) fun u s2 ⟨x, H2, I2, rx, q2⟩ => thn (hi pins s2 σ H2 _ I2 q2) fun iv s3 ⟨y, H3, I3, ry, a, H4, ex, g, q3⟩ => ?_) hs
  subst ex
  obtain rfl : u = Value.ref a := rx
  exact d_setItem hu I3 g ry rv fun s4 I4 => ⟨σ, H4, I4, q3⟩
end


/-! ### displays -/
theorem dk_empty {P : Program} {w : World} {H : Hp} (h : Heap) (hb : sysModules < h.objs.size) : ObjOk P w H (h.push { cls := .type "dict", data := .dict #[] }) h.objs.size (.dK []) :=
  ⟨Nat.zero_le _, beq_eq_false_iff_ne.mpr (Ne.symm (Nat.ne_of_lt hb)), [], .nil, Heap.DictOf.new h⟩
/-- {}, to be a dict of the kind that is wanted -/
def tDNewK : TE := fun _ H Q => ∀ p, H p = none → Q (.ref p) (upd H p (.dK []))
section
variable {X : Cx} {pos : Pos}
theorem pe_dnewK : PE X (.Dict [] [] pos) tDNewK := fun pins s σ H Q I h =>
  wpAny_Dict_empty ⟨.ref s.heap.objs.size, _, I.laid (a := s.heap.objs.size) (o := .dK []) (t' := s.toks) (fun _ _ q => Heap.get?_push_of_some _ q) (Nat.le_refl _) (dk_empty s.heap I.big), rfl, h _ (I.hok.fresh (Nat.le_refl _))⟩
end

/-! ### methods -/




/-! ### dict(d): a copy -/




end L2


namespace Att
open PySem PySem.W PySem.Calls PyProof.Rows

/-! ### the script -/
theorem ints_of_wellAll {P : Params} {h : Heap} : ∀ (ns : List Int) (vs : List Value), WellAll P h vs (ns.map WData.int) → IntsAre vs ns := by
  intro ns
  induction ns with
  | nil =>
    intro vs w
    rw [List.map_nil] at w
    cases w
    exact .nil
  | cons n ns ih =>
    intro vs w
    rw [List.map_cons] at w
    cases w with
    | cons a b =>
      cases a
      exact .cons _ _ (ih _ b)

theorem script_of {l : OpenLaw} {n : Nat} (hn : l.most = some n) {P : Params} {h : Heap} {args : List WData} {vals : List Value}
    (hpre : l.row.toRowW.claim.pre args = true) (hwl : WellAll P h vals args) :
    ∃ a vs ns, vals = [Value.ref a] ∧ args = [WData.list (ns.map WData.int)] ∧ h.get? a = some { cls := .type "list", data := .seq vs.toArray } ∧ IntsAre vs ns ∧ ns.length ≤ n := by
  have hsh : WShape.hasAll [] args [.list .int] = true := (pre_splitW hpre).1
  have hc : l.pre.holds [] { args := args } = true := (pre_splitW hpre).2
  obtain ⟨d, r, rfl, h1, h2⟩ := hasAllW_cons hsh
  obtain rfl := hasAllW_nil h2
  obtain ⟨xs, rfl, h3⟩ := hasW_list h1
  obtain ⟨ns, rfl⟩ := items_int h3
  have hlen : ns.length ≤ n := by
    unfold OpenLaw.pre at hc
    have h4 : (WTm.not (.lt (.lit (.int (n : Int))) (.len (.arg 0)))).holds [] { args := [.list (ns.map .int)] } = true := by
      have h4 := (holds_andW hc).1
      rw [hn] at h4
      exact h4
    have h5 := condW_of h4 (w_not (w_lt w_lit (w_len_list (w_arg rfl))))
    rw [List.length_map] at h5
    refine Nat.le_of_not_lt fun q => ?_
    have q' : (n : Int) < ((ns.length : Nat) : Int) := by omega
    first
      | (rw [decide_eq_true q'] at h5; exact absurd h5 (by decide))
      | (simp at h5; omega)
  cases hwl with
  | cons w1 w2 =>
    cases w2
    cases w1 with
    | list ho hall => exact ⟨_, _, ns, rfl, rfl, ho, ints_of_wellAll ns _ hall, hlen⟩

theorem post_true (l : OpenLaw) (args : List WData) : l.row.toRowW.claim.post args (.bool true) args = true :=
  postW_of (r := l.row.toRowW) (X := (true == true))
    (show WShape.has [] (.bool true) .bool = true by first | rfl | decide | simp [WShape.has, WShape.arms, WShape.armsAll])
    (show (WTm.eq .res (.lit (.bool true))).value [] { args := args, res := some (.bool true), after := args } = some (.bool (true == true)) from w_eq_bool (w_res rfl) w_lit) rfl

/-! ### the attachment: holds_open's last premise (the goal 'hc' behind k_head) from a wpAny of the law's body -/
/-- the same from a codeAny of the CALL (for a layer whose function contracts speak of calls) -/
theorem attach_call {l : OpenLaw} {n : Nat} {q : Program} {loose : List Str} {XP : (Str → Option Value) → Heap → Prop} {YP : World → Heap → Prop} {d : DefRec}
    (hn : l.most = some n) (hdf : d.params.defaults = [])
    (call : ∀ (w : World) (s₀ s₁ : Shared) (mg mb : Str → Option Value) (fa : Addr) (o : Obj) (pm cd doc : Value) (a : Addr) (vs : List Value) (ns : List Int),
      Ground q loose [] XP w s₀ mg mb s₁.heap → YP w s₁.heap →
      s₁.heap.get? fa = some o → o.data = .func (docDef d.name d.params d.body d.scope pm cd doc) → s₁.heap.CodeRec cd d.name → mg d.name = some (.ref fa) →
      s₁.heap.get? a = some { cls := .type "list", data := .seq vs.toArray } → IntsAre vs ns → ns.length ≤ n → s₁.gens = #[] →
      codeAny (model l.prog w) callerA (.call (.ref fa) ⟨[.ref a], []⟩) (fun r s' => r = .ok (.ret (.bool true)) ∧ OldK s₁.heap s'.heap ∧ s'.os = s₁.os ∧ AllBare s'.gens) s₁) :
    WalkO q loose XP YP l.row.toRowW d [] (fun f vs => PySem.call f vs) := by
  intro w s₀ s₁ mg mb G Y fa o pm cd doc dV kV ho hd hcd hD hmg hg args vals as hpre hlay hrd hwl hlo
  obtain rfl : dV = .none := Dflts.none hD hdf
  obtain rfl : kV = .none := Dflts.noKw hD
  obtain ⟨a, vs, ns, rfl, rfl, hobj, hints, hlen⟩ := script_of hn hpre hwl
  refine enter_call (codeAny_mono (call w s₀ s₁ mg mb fa o pm cd doc a vs ns G Y ho (fd_plain hd) hcd hmg hobj hints hlen hg) fun r s' hq => ?_)
  obtain ⟨rfl, h2, h3, h4⟩ := hq
  exact ⟨.inl ⟨.bool true, .bool true, [], rfl, fun _ => rfl, .bool true, post_true l _, fun _ => ⟨List.Pairwise.nil, fun _ hm => (nomatch hm)⟩⟩, h2, h3, h4⟩

/-! ### rules over ANY heap (no ledger) from facts about the written part K: the library's own take a ledger (News) for what they write -/
section
variable {prog : Program} {w : World} {A : Around} {E : Value → Shared → Prop} {s : Shared} {K : Frag}

/-! the whole heap as the ledger: makes every rule that writes through a ledger a rule over any heap -/
end
end Att

namespace L2
open PySem PySem.Spec PyProof.Rows

theorem vals_ints : ∀ {vs : List Value} {ns : List Int}, IntsAre vs ns → Vals (ns.map V.int) vs
  | _, _, .nil => .nil
  | _, _, .cons n t h => .cons ⟨t, rfl⟩ (vals_ints h)

/-- nothing is tracked but the script, known to the object (or it is an object of the module) -/
def Only (H : Hp) : Prop := ∀ b, H b = none ∨ ∃ o xs, H b = some (.frz o (.lst xs))

/-- THE HEAD: the law's promise, at the heap behind the top. F, the promise of the law's def, may use that base is part of the heap (so K.In base, base.Ns mainGlobals mg stand in Mod) -/
theorem law_call {P : Program} {w : World} {K : PySem.W.Frag} {mg mb : Str → Option Value} {CX : CXT} {k : Nat} {fa a : Addr} {fd : FuncData} {x : Str} {sp : Sp} {s₁ : Shared} {vs : List Value} {ns : List Int}
    (KX : K.In s₁.heap) (hns : s₁.heap.Ns mainGlobals mg) (hb : s₁.heap.Ns builtinsNs mb) (hbb : ∀ x : Str, x ≠ "__name__" → mb x = bootBuiltins x) (hlim : s₁.heap.NoLimit) (hg : s₁.gens = #[])
    (ha : s₁.heap.get? a = some { cls := .type "list", data := .seq vs.toArray }) (hi : IntsAre vs ns) (hl : ns.length ≤ sizeLine) (hr : Room k callerA)
    (F : ∀ base : Heap, K.In base → base.Ns mainGlobals mg → FnOk P w K mg base CX k fa fd [x] sp) (hbind : ∀ (s : Shared) (u : Value), BindsTo s fd ⟨[u], []⟩ [(x, u)])
    (hsp : ∀ H : Hp, Only H → SqL K H a (ns.map V.int) → sp [.ref a] H (fun v _ => v = .bl true) fun _ _ _ => False)
    (hCX : ∀ H e s', CX [] H s₁ (fun _ _ _ => False) e s' → False) :
    codeAny (model P w) callerA (.call (.ref fa) ⟨[.ref a], []⟩) (fun r s' => r = .ok (.ret (.bool true)) ∧ OldK s₁.heap s'.heap ∧ s'.os = s₁.os ∧ AllBare s'.gens) s₁ := by
  have rv := vals_ints hi
  have lenV := hi.length
  -- from an abstract heap in which nothing but the script may be tracked
  have core : ∀ H : Hp, Only H → SqL K H a (ns.map V.int) → HOk P w H s₁.heap → (∀ b, H b ≠ none → b = a) → (H a ≠ none → K.lookup a = none) →
      codeAny (model P w) callerA (.call (.ref fa) ⟨[.ref a], []⟩) (fun r s' => r = .ok (.ret (.bool true)) ∧ OldK s₁.heap s'.heap ∧ s'.os = s₁.os ∧ AllBare s'.gens) s₁ := by
    intro H hO hS hok hA hK
    have base_of : ∀ {b : Addr} {o : Obj}, s₁.heap.get? b = some o → H b = none → (hidT s₁.heap H).get? b = some o := fun e n => hidT_get e n
    have noA : ∀ {b : Addr} {o : Obj} {es : Array DictEntry} {ep : Nat}, s₁.heap.get? b = some o → o.data = .dict es ep → H b = none := fun {b o es ep} e d => by
      cases q : H b with
      | none => rfl
      | some u =>
        have e' : b = a := hA b (by rw [q]; simp)
        subst e'
        rw [ha] at e; cases e
        have d' : Data.seq vs.toArray _ = Data.dict es ep := d
        cases d'
    have nsK : ∀ {b : Addr} {m : Str → Option Value}, s₁.heap.Ns b m → (hidT s₁.heap H).Ns b m := fun {b m} ⟨o, es, ep, e, d, r⟩ => ⟨o, es, ep, base_of e (noA e d), d, r⟩
    have hKb : K.In (hidT s₁.heap H) := fun b o e => base_of (KX b o e) (by
      cases q : H b with
      | none => rfl
      | some u =>
        have e' : b = a := hA b (by rw [q]; simp)
        subst e'
        rw [hK (by rw [q]; simp)] at e; cases e)
    have hM : Mod K mg (hidT s₁.heap H) := ⟨hKb, nsK hns, ⟨mb, nsK hb, hbb⟩, let ⟨mc, h1, h2⟩ := hlim; ⟨mc, nsK h1, h2⟩⟩
    have e0 : Env0 P w K mg (hidT s₁.heap H) callerA [] s₁ H := ⟨rfl, hM, fun b o e => of_hidT e, Nat.le_of_eq (hidT_size _ _), trivial, fun b hb => absurd (show b ∈ ([] : List Addr) from hb) (by simp), hok, .of_eq hg⟩
    refine codeAny_mono ((F _ hKb (nsK hns)).run callerA [] s₁ H ⟨[.ref a], []⟩ [.ref a] [.ref a] _ _ hr e0 (hbind s₁ (.ref a)) (.cons rfl .nil) (hsp H hO hS)) fun r s' h => ?_
    cases r with
    | error e => exact (hCX H e s' h).elim
    | ok fl =>
      cases fl with
      | next => exact False.elim h
      | brk => exact False.elim h
      | cont => exact False.elim h
      | ret u =>
        obtain ⟨v, H', os, bare, un, hok', r', q⟩ := h
        have q' : v = .bl true := q
        subst q'
        obtain rfl : u = Value.bool true := r'
        refine ⟨rfl, OldK.of_keep fun b o e => ?_, os, bare⟩
        cases q : H b with
        | none => exact un.keep b o e q (by intro z; exact absurd (show b ∈ ([] : List Addr) from z) (by simp)) (by simp)
        | some u =>
          rcases hO b with z | ⟨ob, xs, z⟩
          · rw [q] at z; cases z
          · have z2 := un.frzs b ob _ z
            obtain ⟨e1, _⟩ := hok b _ z
            obtain ⟨e2, _⟩ := hok' b _ z2
            rw [e] at e1; cases e1
            exact e2
  cases hk : K.lookup a with
  | some o =>
    -- the script is one of the module's own objects
    have e := KX a o hk
    rw [ha] at e
    cases e
    refine core (fun _ => none) (fun _ => .inl rfl) (.inr ⟨_, vs.toArray, _, hk, rfl, rfl, rfl, by rw [List.size_toArray, lenV]; exact hl, by simpa using rv⟩) (fun b u z => by have z' : (none : Option HO) = some u := z; cases z') (fun b z => absurd rfl z) fun z => absurd rfl z
  | none =>
    refine core (fun b => if b = a then some (.frz { cls := .type "list", data := .seq vs.toArray } (.lst (ns.map V.int))) else none) (fun b => ?_) (.inl (.inr ⟨{ cls := .type "list", data := .seq vs.toArray }, if_pos rfl⟩)) (fun b u z => ?_) (fun b z => ?_) fun _ => hk
    · by_cases hb : b = a
      · exact .inr ⟨_, _, if_pos hb⟩
      · exact .inl (if_neg hb)
    · by_cases hb : b = a
      · have z' := (if_pos hb).symm.trans z
        cases z'
        subst hb
        exact ⟨ha, by rw [List.length_map]; exact hl, vs, _, rv, ha⟩
      · have z' := (if_neg hb).symm.trans z
        cases z'
    · by_cases hb : b = a
      · exact hb
      · exact absurd (if_neg hb) z
end L2

namespace L2
open PySem PySem.Spec PyProof.Rows

abbrev KOf {K : PySem.W.Frag} {h : Heap} (_ : K.In h) : PySem.W.Frag := K

/-- the goal that k_head leaves (case hc), from the law's promise. F gives the function object fd (K's own) once, then the promise over every base -/
theorem walk_of {l : PySem.W.OpenLaw} {n k : Nat} {q : Program} {loose : List Str} {XP : (Str → Option Value) → Heap → Prop} {YP : World → Heap → Prop} {d : DefRec} {K : Params → PySem.W.Frag} {CX : World → CXT} {sp : World → Sp} {x : Str}
    (hn : l.most = some n) (hn2 : n ≤ sizeLine) (hdf : d.params.defaults = []) (hr : Room k callerA)
    (hY : ∀ (w : World) (h : Heap), YP w h → (K w.params).In h)
    (F : ∀ (w : World) (mg : Str → Option Value) (fa : Addr) (h : Heap), (K w.params).In h → h.Ns mainGlobals mg → mg d.name = some (.ref fa) →
      ∃ fd : FuncData, (∀ (s : Shared) (u : Value), BindsTo s fd ⟨[u], []⟩ [(x, u)]) ∧
        ∀ base : Heap, (K w.params).In base → base.Ns mainGlobals mg → FnOk l.prog w (K w.params) mg base (CX w) k fa fd [x] (sp w))
    (hsp : ∀ (w : World) (H : Hp) (a : Addr) (ns : List Int), ns.length ≤ n → Only H → SqL (K w.params) H a (ns.map V.int) → sp w [.ref a] H (fun v _ => v = .bl true) fun _ _ _ => False)
    (hCX : ∀ (w : World) (H : Hp) (s : Shared) (e : Value) (s' : Shared), CX w [] H s (fun _ _ _ => False) e s' → False) :
    PySem.W.WalkO q loose XP YP l.row.toRowW d [] (fun f vs => PySem.call f vs) := by
  refine Att.attach_call hn hdf fun w s₀ s₁ mg mb fa o pm cd doc a vs ns G Y ho hd hcd hmg hobj hints hlen hg => ?_
  have KX := hY w _ Y
  obtain ⟨fd, hb, hF⟩ := F w mg fa _ KX G.T.g hmg
  exact law_call KX G.T.g G.T.b G.T.builtins G.T.nolimit hg hobj hints (Nat.le_trans hlen hn2) hr hF hb (fun H hO hS => hsp w H a ns hlen hO hS) fun H e s' => hCX w H s₁ e s'
/-- the same where the promise hangs on the written part alone: (sp := My.sp_law), no hole under a binder -/
theorem walk_ofK {l : PySem.W.OpenLaw} {n k : Nat} {q : Program} {loose : List Str} {XP : (Str → Option Value) → Heap → Prop} {YP : World → Heap → Prop} {d : DefRec} {K : Params → PySem.W.Frag} {CX : CXT} {sp : PySem.W.Frag → Sp} {x : Str}
    (hn : l.most = some n) (hn2 : n ≤ sizeLine) (hdf : d.params.defaults = []) (hr : Room k callerA)
    (hY : ∀ (w : World) (h : Heap), YP w h → (K w.params).In h)
    (F : ∀ (w : World) (mg : Str → Option Value) (fa : Addr) (h : Heap), (K w.params).In h → h.Ns mainGlobals mg → mg d.name = some (.ref fa) →
      ∃ fd : FuncData, (∀ (s : Shared) (u : Value), BindsTo s fd ⟨[u], []⟩ [(x, u)]) ∧
        ∀ base : Heap, (K w.params).In base → base.Ns mainGlobals mg → FnOk l.prog w (K w.params) mg base CX k fa fd [x] (sp (K w.params)))
    (hsp : ∀ (K : PySem.W.Frag) (H : Hp) (a : Addr) (ns : List Int), ns.length ≤ n → Only H → SqL K H a (ns.map V.int) → sp K [.ref a] H (fun v _ => v = .bl true) fun _ _ _ => False)
    (hCX : ∀ (H : Hp) (s : Shared) (e : Value) (s' : Shared), CX [] H s (fun _ _ _ => False) e s' → False) :
    PySem.W.WalkO q loose XP YP l.row.toRowW d [] (fun f vs => PySem.call f vs) :=
  walk_of (K := K) (CX := fun _ => CX) (sp := fun w => sp (K w.params)) hn hn2 hdf hr hY F (fun w H a ns h1 h2 h3 => hsp (K w.params) H a ns h1 h2 h3) fun _ H s e s' => hCX H s e s'
end L2



/-! SHORT WORDS over the layer: a def of the text, its body, what a loop and a test want. -/
namespace L2
open PySem PySem.Spec PyProof.Rows

/-! ### the text by places -/
/-- the j-th statement of a class's body -/
def inClass (s : Stmt) (j : Nat) : Stmt := match s with
  | .ClassDef _ _ _ body _ _ _ _ _ _ _ => body.getD j (.Pass ⟨0, 0, 0, 0⟩)
  | _ => .Pass ⟨0, 0, 0, 0⟩
def defArgs (s : Stmt) : Arguments := match s with
  | .FunctionDef _ a _ _ _ _ _ _ _ _ => a
  | _ => { posonlyargs := [], args := [], vararg := none, kwonlyargs := [], kw_defaults := [], kwarg := none, defaults := [] }
def defBody (s : Stmt) : List Stmt := match s with
  | .FunctionDef _ _ b _ _ _ _ _ _ _ => b
  | _ => []
def defScope (s : Stmt) : Scope := match s with
  | .FunctionDef _ _ _ _ _ _ sc _ _ _ => sc
  | _ => { kind := .function, names := [], isGenerator := false, isCoroutine := false }

/-! ### no exception leaves a def -/
abbrev CX0 : CXT := fun _ _ _ _ _ _ => False
abbrev E0 : XK := fun _ _ _ => False
theorem pass0 {X : Cx} : Passes CX0 X E0 := fun _ _ _ _ _ _ _ h => h.elim

/-! ### a def (or method) of the text as it stands behind the top -/
structure Fun (K : PySem.W.Frag) (x qual : Str) (st : Stmt) (f : Addr) (fd : FuncData) : Prop where
  ex : ∃ (oc : Value) (od : Option Addr) (kV doc pm : Value) (an : Option Addr) (cdv ct : Value) (osl : Array (Option Value)),
    fd = PySem.W.fnOf x qual (defArgs st) (defBody st) (defScope st) .none kV doc pm an cdv ct ∧ K.lookup f = some ⟨oc, od, .func fd, osl⟩ ∧ PySem.W.codeIn K cdv qual = true
  kp : PySem.W.keepIn K (.ref f) = true
section
variable {P : Program} {w : World} {K : PySem.W.Frag} {mg : Str → Option Value} {base : Heap}
/-- THE RULE for a def: its body as a term of rules, and the reading of that term -/
theorem Fun.ok {x qual : Str} {st : Stmt} {f : Addr} {fd : FuncData} {N ps : List Str} {k : Nat} {sp : Sp} (F : Fun K x qual st f fd) (S : FnScope N ps (defScope st)) (len : ∀ vs H Q E, sp vs H Q E → vs.length = ps.length)
    (hbody : ∀ (cdv : Value) (A : Around) (outer : List Env) (s : Shared) (H : Hp) (vs : List V) (Q : VK) (E : XK), Room k (A.deeper (envOfC qual (defScope st) s.heap.objs.size f cdv)) → sp vs H Q E →
      ∃ t, PSs (cxOf CX0 P w K mg base N qual (defScope st) f cdv A outer s H E).nox (defBody st) t ∧ t { nx := fun _ H' => Q .non H', rt := Q } (start N vs) H) : FnOk P w K mg base CX0 (k + 1) f fd ps sp := by
  obtain ⟨oc, od, kV, doc, pm, an, cdv, ct, osl, rfl, lk, hcd⟩ := F.ex
  refine fn_of lk hcd S len fun A outer s H vs Q E hr hsp => ?_
  obtain ⟨t, h, q⟩ := hbody cdv A outer s H vs Q E hr hsp
  exact ⟨t, h.nox, q⟩
/-- how its arguments bind (no defaults): h is «fun _ _ _ _ _ _ us hl => match us, hl with | [_, _], _ => rfl», one _ a parameter -/
theorem Fun.binds {x qual : Str} {st : Stmt} {f : Addr} {fd : FuncData} {ps : List Str} (F : Fun K x qual st f fd)
    (h : ∀ (kV doc pm : Value) (an : Option Addr) (cdv ct : Value) (us : List Value), us.length = ps.length → bindArgs (PySem.W.fnOf x qual (defArgs st) (defBody st) (defScope st) .none kV doc pm an cdv ct) ⟨us, []⟩ = pure (ps.zip us)) : Binds K fd ps [] := by
  obtain ⟨oc, od, kV, doc, pm, an, cdv, ct, osl, rfl, lk, hcd⟩ := F.ex
  exact .all (h kV doc pm an cdv ct)
theorem fun_mk {x qual : Str} {st : Stmt} {f : Addr} {oc : Value} {od an : Option Addr} {osl : Array (Option Value)} {kV doc pm cdv ct : Value} (l : K.lookup f = some ⟨oc, od, .func (PySem.W.fnOf x qual (defArgs st) (defBody st) (defScope st) .none kV doc pm an cdv ct), osl⟩)
    (c : PySem.W.codeIn K cdv qual = true) (k : PySem.W.keepIn K (.ref f) = true) : Fun K x qual st f (PySem.W.fnOf x qual (defArgs st) (defBody st) (defScope st) .none kV doc pm an cdv ct) := ⟨⟨oc, od, kV, doc, pm, an, cdv, ct, osl, rfl, l, c⟩, k⟩
end
theorem small1000 {n : Nat} (h : n ≤ 1000) : n < sizeLine := Nat.lt_of_le_of_lt h (by decide)

/-! ### expressions in short: the name that stands in the i-th slot -/
section
variable {X : Cx}
theorem pv (i : Nat) {x : Str} {pos : Pos} (hN : X.N[i]? = some x := by rfl) (hv : Vis X.env.scope x := by first | exact Or.inl rfl | exact Or.inr (Or.inl rfl) | exact Or.inr (Or.inr rfl)) (hd : (x == ("__debug__" : Str)) = false := by decide)
    (hcd : (x == ("__classdict__" : Str)) = false := by decide) : PE X (.Name x pos) (tVar i) := pe_var hN hv hd hcd
end

/-! ### tests -/
/-! ### heaps -/
/-- all that was tracked is as it was -/
def Same (H H' : Hp) : Prop := ∀ b o, H b = some o → H' b = some o
theorem Same.refl (H : Hp) : Same H H := fun _ _ h => h
theorem Same.trans {H H1 H2 : Hp} (a : Same H H1) (b : Same H1 H2) : Same H H2 := fun c o h => b c o (a c o h)
theorem Same.free {H H' : Hp} (e : Same H H') {l : Addr} (h : H' l = Option.none) : H l = Option.none := by
  cases q : H l with
  | none => rfl
  | some o =>
    rw [e l o q] at h
    cases h
theorem Same.seq {K : PySem.W.Frag} {H H' : Hp} {a : Addr} {xs : List V} (e : Same H H') (h : SqL K H a xs) : SqL K H' a xs := by
  rcases h with (h | ⟨o, h⟩) | h
  · exact .inl (.inl (e _ _ h))
  · exact .inl (.inr ⟨o, e _ _ h⟩)
  · exact .inr h


/-! ### a dict's pairs: keys that differ -/
section
variable {κ : Type} [DecidableEq κ]
theorem nd_snoc : ∀ {l : List κ} {k : κ}, l.Nodup → ¬ k ∈ l → (l ++ [k]).Nodup
  | [], k, _, _ => by simp
  | a :: r, k, h, hk => by
    obtain ⟨h1, h2⟩ := List.nodup_cons.mp h
    show (a :: (r ++ [k])).Nodup
    refine List.nodup_cons.mpr ⟨fun m => ?_, nd_snoc h2 fun m => hk (List.mem_cons.mpr (Or.inr m))⟩
    rcases List.mem_append.mp m with q | q
    · exact h1 q
    · exact hk (List.mem_cons.mpr (Or.inl (List.mem_singleton.mp q).symm))
end
end L2


/-! ## My extension of the layer -/
namespace PySem
open Sem (wp)
theorem forIn_cl {env : Env} {f : Str × NameKind → List (Str × Addr) → Sem (ForInStep (List (Str × Addr)))}
    (h1 : ∀ x r, x.2 ≠ .free → f x r = pure (.yield r)) (h2 : ∀ x r c, x.2 = .free → env.cells.lookup x.1 = some c → f x r = pure (.yield ((x.1, c) :: r))) :
    ∀ (l : List (Str × NameKind)) (acc : List (Str × Addr)), (∀ x ∈ l, x.2 = .free → ∃ c, env.cells.lookup x.1 = some c) → (∀ x c, acc.lookup x = some c → env.cells.lookup x = some c) →
      ∃ cl, forIn l acc f = pure cl ∧ (∀ x c, cl.lookup x = some c → env.cells.lookup x = some c) ∧ (∀ x ∈ l, x.2 = .free → ∃ c, cl.lookup x.1 = some c) ∧ (∀ x c, acc.lookup x = some c → ∃ c', cl.lookup x = some c')
  | [], acc, _, ha => ⟨acc, rfl, ha, (fun _ h => nomatch h), (fun x c h => ⟨c, h⟩)⟩
  | x :: l, acc, h, ha => by
    by_cases hf : x.2 = .free
    · obtain ⟨c, hc⟩ := h x List.mem_cons_self hf
      have hself : ((x.1, c) :: acc).lookup x.1 = some c := by rw [List.lookup_cons]; simp
      have hne : ∀ y, y ≠ x.1 → ((x.1, c) :: acc).lookup y = acc.lookup y := fun y e => by
        have : (y == x.1) = false := beq_eq_false_iff_ne.mpr e
        rw [List.lookup_cons, this]
      have ha' : ∀ y d, ((x.1, c) :: acc).lookup y = some d → env.cells.lookup y = some d := fun y d hy => by
        by_cases e : y = x.1
        · subst e; rw [hself] at hy; cases hy; exact hc
        · rw [hne y e] at hy; exact ha y d hy
      obtain ⟨cl, e1, e2, e3, e4⟩ := forIn_cl h1 h2 l ((x.1, c) :: acc) (fun y hy => h y (List.mem_cons_of_mem _ hy)) ha'
      refine ⟨cl, ?_, e2, fun y hy hk => ?_, fun y d hy => ?_⟩
      · rw [List.forIn_cons, h2 x acc c hf hc, pure_bind]; exact e1
      · rcases List.mem_cons.mp hy with rfl | hy
        · exact e4 _ c hself
        · exact e3 y hy hk
      · by_cases e : y = x.1
        · subst e; exact e4 _ c hself
        · exact e4 y d (by rw [hne y e]; exact hy)
    · obtain ⟨cl, e1, e2, e3, e4⟩ := forIn_cl h1 h2 l acc (fun y hy => h y (List.mem_cons_of_mem _ hy)) ha
      refine ⟨cl, ?_, e2, fun y hy hk => ?_, e4⟩
      · rw [List.forIn_cons, h1 x acc hf, pure_bind]; exact e1
      · rcases List.mem_cons.mp hy with rfl | hy
        · exact (hf hk).elim
        · exact e3 y hy hk
theorem closure_ok {scope : Scope} {env : Env} (h : ∀ x ∈ scope.names, x.2 = .free → ∃ c, env.cells.lookup x.1 = some c) :
    ∃ cl, closureFor scope env = pure cl ∧ (∀ x c, cl.lookup x = some c → env.cells.lookup x = some c) ∧ ∀ x ∈ scope.names, x.2 = .free → ∃ c, cl.lookup x.1 = some c := by
  obtain ⟨cl, e1, e2, e3, _⟩ := forIn_cl (env := env) (f := fun x r => match x with | (name, kind) => if (kind == .free) = true then (do let c ← cellOf env name; pure (ForInStep.yield ((name, c) :: r))) else pure (ForInStep.yield r))
    (fun x r hx => by
      obtain ⟨n, k⟩ := x
      have : (k == NameKind.free) = false := by simpa using hx
      simp only [this, Bool.false_eq_true, if_false])
    (fun x r c hx hc => by
      obtain ⟨n, k⟩ := x
      have hx : k = .free := hx
      have hc : env.cells.lookup n = some c := hc
      subst hx
      simp only [cellOf, hc, beq_self_eq_true, if_true, pure_bind]) scope.names [] h (by simp)
  refine ⟨cl, ?_, e2, e3⟩
  unfold closureFor
  first
    | (rw [show _ = pure cl from e1]; rfl)
    | exact (congrArg (· >>= pure) e1).trans (pure_bind ..)

section
variable {prog : Program} {w : World} {A : Around} {R : Result → Shared → Prop} {s : Shared}
theorem codeAny_compLoop_gen {elt target iter : Expr} {scope : Scope} {pos : Pos} {it acc : Value} {env : Env} (I : Nat → Shared → Prop)
    (turn : ∀ n s, I n s → wpAny (model prog w) A (pyNext it) (fun r s₁ => match r with
      | none => R (.ok .next) s₁
      | some v => wpAny (model prog w) A (letOwnedTupleGo target it v) (fun _ s₂ => wpAny (model prog w) A (assign target env v) (fun _ s₃ => wpAny (model prog w) A (eval elt env) (fun x s₄ =>
          wpAny (model prog w) A (call (.builtin "list.append") [acc, x]) (fun _ s₅ => ∃ m, m < n ∧ I m s₅) (fun _ _ => False) s₄) (fun _ _ => False) s₃) (fun _ _ => False) s₂) (fun _ _ => False) s₁) (fun _ _ => False) s)
    (n : Nat) (h : I n s) : codeAny (model prog w) A (.compLoop (.ListComp elt [⟨target, iter, [], 0⟩] scope pos) 0 it acc env) R s := by
  refine codeAny_loop rfl I (fun n s hI => ?_) n h
  show wpAny _ _ ((compTurn (.ListComp elt [⟨target, iter, [], 0⟩] scope pos) 0 it acc env).onRaise (fun x => do noteFrame x env; theTreesLotGoes x)) _ _ s
  refine wpAny_noted ?_
  rw [compTurn_list1]
  refine wpAny_bind (wpAny_standAt (wpAny_bind (wpAny_mono (turn n s hI) (fun r s₁ h₁ => ?_) fun _ _ h' => h'.elim)))
  cases r with
  | none => exact wpAny_pure h₁
  | some v =>
    exact wpAny_bind (wpAny_mono h₁ (fun _ s₂ h₂ => wpAny_bind (wpAny_mono h₂ (fun _ s₃ h₃ => wpAny_bind (wpAny_bind (wpAny_mono h₃ (fun x s₄ h₄ => wpAny_bind (wpAny_mono h₄
      (fun _ s₅ h₅ => wpAny_pure (wpAny_pure ⟨rfl, h₅⟩)) fun _ _ h' => h'.elim)) fun _ _ h' => h'.elim))) fun _ _ h' => h'.elim)) fun _ _ h' => h'.elim)
end
end PySem

namespace L2
open PySem PySem.Spec PyProof.Rows

section
variable {X : Cx} {pins : List (Addr × Obj)} {σ : St} {H : Hp} {s : Shared} {h' : Heap}
/-- the records at ch turn, a new object is laid and tracked -/
theorem Inv.turnL {t' : Nat} {ch : List Addr} {t : Addr} {o : HO} (I : Inv X pins σ H s) (hf : ∀ b ∈ ch, FpOk X pins H b)
    (k : ∀ b u, b ∉ ch → s.heap.get? b = some u → h'.get? b = some u) (hp : s.heap.objs.size ≤ t) (new : ObjOk X.prog X.w (upd H t o) h' t o) :
    Inv X pins σ (upd H t o) { s with heap := h', toks := t' } := by
  have hn : H t = none := I.hok.fresh hp
  have nch : ∀ b u, H b = some u → b ∉ ch := fun b u e z => by rw [(hf b z).1] at e; cases e
  have net : ∀ b u, s.heap.get? b = some u → b ≠ t := fun b u e => Nat.ne_of_lt (Nat.lt_of_lt_of_le (Heap.lt_size e) hp)
  refine I.step (g' := s.gens) (d' := s.drawn) (ch := ch) (fun b hb => ?_) (fun b u _ _ hc e _ => k b u hc e) (fun b u _ _ hc e _ => ⟨u.slots, k b u hc e⟩)
    (fun b u _ e n => by rw [upd_ne (net b u e)]; exact n) (fun b u hc e => ⟨u, k b u hc e⟩)
    (fun b xs e => by rw [upd_ne (ne_of_none e hn)]; exact e) (fun b u xs e => by rw [upd_ne (ne_of_none e hn)]; exact e)
    (fun b ps e => ⟨#[], by rw [upd_ne (ne_of_none e hn), e]; simp⟩) (fun m hm => ?_) (fun b u e => ?_) I.bare
  · obtain ⟨_, f1, _, f3, f4, f5⟩ := hf b hb
    exact ⟨f3, f1, f4, f5⟩
  · obtain ⟨ob, es, ep, ho, r⟩ := hm
    exact ⟨ob, es, ep, k _ ob (fun z => (hf _ z).2.1 rfl) ho, r⟩
  · by_cases hb : b = t
    · subst hb; rw [upd_same] at e; cases e; exact new
    · rw [upd_ne hb] at e
      refine (I.hok b u e).stay (fun c v hc q => k c v ?_ q) (fun c q => by rw [upd_ne (ne_of_none q hn)]; exact q) fun c xs q => by rw [upd_ne (ne_of_none q hn)]; exact q
      rcases hc with z | z
      · rw [z]; exact nch b u e
      · exact nch c _ z
end

/-! ### enumerate of a list, its pairs taken apart on the spot -/
def Ite (K : PySem.W.Frag) (a : Addr) : It :=
  ⟨fun i H => ∃ xs x, SqL K H a xs ∧ xs[i]? = some x,
   fun i H x H' => ∃ t v, x = .ref t ∧ H t = none ∧ H' = upd H t (.tup [.int (i : Int), v]) ∧ ∀ xs, SqL K H a xs → xs[i]? = some v,
   fun i H => ∃ xs, SqL K H a xs ∧ xs.length ≤ i⟩
theorem turn_enum {P : Program} {w : World} {K : PySem.W.Frag} {es : List Expr} {kk : Nat} {pos : Pos} (a it e : Addr) (hne : e ≠ it) :
    Turn P w K (.Tuple es kk pos) (Ite K a) [e, it] e (fun i h => (∃ old, IsEnum h e it ((i : Nat) : Int) old) ∧ h.IsListIter it a i) where
  mem := by simp
  obj := fun i h st b hb => by
    obtain ⟨⟨old, he⟩, hi⟩ := st
    rcases List.mem_cons.mp hb with rfl | hb
    · exact ⟨_, he, fun v z => by
        have z' : Data.fields _ = Data.cell v := z
        cases z'⟩
    · have eb := List.mem_singleton.mp hb
      subst eb
      obtain ⟨o, e1, c, d⟩ := hi
      exact ⟨o, e1, fun v z => by rw [d] at z; cases z⟩
  keep := fun i h h' st k => by
    obtain ⟨⟨old, he⟩, hi⟩ := st
    exact ⟨⟨old, k e (by simp) _ he⟩, hi.at fun o q => k it (by simp) o q⟩
  item := by
    intro X hP hw hK hc i pins s σ H E I hf st hg
    subst hP hw hK
    obtain ⟨⟨old, he⟩, hi⟩ := st
    obtain ⟨xs, x, hq, hx⟩ := hg
    obtain ⟨its, rv, p, hz⟩ := I.list hq
    obtain ⟨u, hu, ru⟩ := rv.get hx
    have hel : e < s.heap.objs.size := Heap.lt_size he
    have hil : it < s.heap.objs.size := by obtain ⟨o, q, _⟩ := id hi; exact Heap.lt_size q
    refine wpAny_pyNext_enum_item he hi p.isList (x := u) (by simpa using hu) hne fun h1 ho hi1 hT hsz hk => ?_
    refine ⟨_, rfl, wpAny_letOwnedTupleGo_enum ho fun h2 he2 hs2 => ?_⟩
    replace hs2 : Heap.SameBut e h1 h2 := hs2
    have hT2 : h2.get? s.heap.objs.size = some { cls := .type "tuple", data := .seq #[.int (i : Int) s.toks, u] } := (hs2.2 _ (Nat.ne_of_gt hel)).trans hT
    have I1 : Inv X pins σ (upd H s.heap.objs.size (.tup [.int (i : Int), x])) { s with heap := h2, toks := s.toks + 1 } :=
      I.turnL (ch := [e, it]) hf (fun b o hb q => by
        have hbe : b ≠ e := fun z => hb (by simp [z])
        have hbi : b ≠ it := fun z => hb (by simp [z])
        exact hs2.extBut b o hbe (hk b o hbe hbi q)) (Nat.le_refl _)
        ⟨by show 2 ≤ sizeLine; decide, [.int (i : Int) s.toks, u], .cons ⟨_, rfl⟩ (.cons ru .nil), ⟨_, hT2, rfl, _, rfl⟩⟩
    refine ⟨.ref s.heap.objs.size, _, I1, rfl, ⟨_, x, rfl, I.hok.fresh (Nat.le_refl _), rfl, fun ys hy => by rw [I.list_inj hy hq]; exact hx⟩, ⟨⟨u, ?_⟩, ?_⟩, fun b hb => ?_⟩
    · have : ((i + 1 : Nat) : Int) = (i : Int) + 1 := by push_cast; rfl
      rw [this]; exact he2
    · exact hi1.extBut hs2.extBut (Ne.symm hne)
    · have hbl : b < s.heap.objs.size := by
        rcases List.mem_cons.mp hb with rfl | hb
        · exact hel
        · rw [List.mem_singleton.mp hb]; exact hil
      rw [upd_ne (Nat.ne_of_lt hbl)]
      exact (hf b hb).1
  done := by
    intro X hP hw hK hc i pins s σ H E I hf st hg
    subst hP hw hK
    obtain ⟨⟨old, he⟩, hi⟩ := st
    obtain ⟨xs, hq, hx⟩ := hg
    obtain ⟨its, rv, p, hz⟩ := I.list hq
    obtain ⟨f0, f1, f2, f3, f4, f5⟩ := hf it (by simp)
    have hl := rv.length
    exact wpAny_pyNext_enum_end (I.ok.hd hc) he hi p.isList (by simp; omega) fun h' eb => ⟨rfl, I.turned (t' := s.toks) (fun b o hb e => eb b o hb e) f0 f1 f3 f4 f5⟩
  self := fun _ _ _ _ _ st h => by
    obtain ⟨⟨old, he⟩, _⟩ := st
    exact wpAny_pyIter_enum he h
section
variable {X : Cx}
def iEnum (K : PySem.W.Frag) (ta : TA) : TI := fun σ H R => ta σ H fun vs H1 => ∃ a, vs = [.ref a] ∧ (∃ xs, SqL K H1 a xs) ∧ R (Ite K a) H1
theorem pi_enum {es : List Expr} {kk : Nat} {p0 : Pos} {l : Expr} {ta : TA} {p pos : Pos} (hg : Gl X "enumerate") (hm : X.mg "enumerate" = none) (ha : PA X [l] ta) (hs : starEach [l] X.env = [(false, eval l X.env)] := by rfl) :
    PI X (.Tuple es kk p0) (.Call (.Name "enumerate" p) [l] [] pos) (iEnum X.K ta) := by
  intro pins s σ H R I h
  refine Call_ (ld_blt I hg hm boot_enumerate (PyProof.Rows.callWith_type1 (thn (ha pos pins s σ H _ I h) fun us s1 ⟨vs, H1, I1, r1, q1⟩ => ?_) hs rfl))
  obtain ⟨a, e, ⟨xs, hq⟩, q⟩ := q1
  subst e
  cases r1 with
  | cons r rr =>
    cases rr
    cases r
    obtain ⟨its, rv, p, hz⟩ := I1.list hq
    refine call_enumerate_list p.isList fun h' he hi hsz hk => ?_
    refine wpAny_pyIter_enum he ?_
    have I2 : Inv X pins σ H1 { s1 with heap := h' } := I1.kept (t' := s1.toks) hk
    refine ⟨s1.heap.objs.size + 1, [s1.heap.objs.size + 1, s1.heap.objs.size], _, _, H1, rfl, I2, turn_enum a s1.heap.objs.size (s1.heap.objs.size + 1) (Nat.succ_ne_self _), ⟨⟨_, he⟩, hi⟩, fun b hb => ?_, q⟩
    have hb' : s1.heap.objs.size ≤ b := by
      rcases List.mem_cons.mp hb with rfl | hb
      · exact Nat.le_succ _
      · rw [List.mem_singleton.mp hb]; exact Nat.le_refl _
    exact I1.fpOk hb' (I1.hok.fresh hb')
/-- over the pairs of a list that the body leaves as it is -/
theorem for_enum {K : PySem.W.Frag} {a : Addr} {xs : List V} {g : TG} {tb : TS} {D : Ends} {σ : St} {H : Hp} (Pv : Nat → St → Hp → Prop) (h0 : Pv 0 σ H) (hl : ∀ i σ H, i ≤ xs.length → Pv i σ H → SqL K H a xs)
    (hs : ∀ i x σ H t, xs[i]? = some x → Pv i σ H → H t = none → g (.ref t) σ (upd H t (.tup [.int (i : Int), x])) fun σ2 H2 => tb { D with nx := Pv (i + 1), ct := Pv (i + 1), bk := D.nx } σ2 H2) (hd : ∀ σ H, Pv xs.length σ H → D.nx σ H) :
    ∃ W : Nat → Nat → St → Hp → Prop, (∃ m, W 0 m σ H) ∧ ∀ i m σ H, W i m σ H →
      ((Ite K a).stop i H ∧ D.nx σ H) ∨ ((Ite K a).go i H ∧ ∃ N : St → Hp → Prop, (∀ σ' H', N σ' H' → ∃ m', m' < m ∧ W (i + 1) m' σ' H') ∧ ∀ x H', (Ite K a).yld i H x H' → g x σ H' fun σ2 H2 => tb { D with nx := N, ct := N, bk := D.nx } σ2 H2) := by
  refine ⟨fun i m σ H => m = xs.length - i ∧ i ≤ xs.length ∧ Pv i σ H, ⟨xs.length, by simp, Nat.zero_le _, h0⟩, ?_⟩
  rintro i m σ H ⟨rfl, hi, p⟩
  have q := hl i σ H hi p
  by_cases hlt : i < xs.length
  · refine .inr ⟨⟨xs, xs[i], q, by simp [hlt]⟩, Pv (i + 1), fun σ' H' p' => ⟨xs.length - (i + 1), by omega, rfl, hlt, p'⟩, fun x H' y => ?_⟩
    obtain ⟨t, v, rfl, ht, rfl, y⟩ := y
    exact hs i v σ H t (y xs q) p ht
  · have e : i = xs.length := by omega
    subst e
    exact .inl ⟨⟨xs, q, Nat.le_refl _⟩, hd σ H p⟩
end

/-! ### list comprehensions, one clause, no test -/
def relS (scope sc0 : Scope) : Scope := { scope with names := scope.names.map fun (n, k) => if (k == .free && sc0.kind == .function && sc0.names.lookup n == some .cell) then (n, .cell) else (n, k) }
def blk (X : Cx) (N' : List Str) (scope : Scope) (cl : List (Str × Addr)) (C : Addr) (s : Shared) (H : Hp) (ex : List Addr) (pins : List (Addr × Obj)) : Cx :=
  { X with N := N', s₀ := s, H₀ := H, env := compEnvC scope cl C X.env, outer := X.stack, ex := ex, fn := fun _ => false, pn := X.pn ++ pins, xe := fun _ _ => False }
def capOk (N : List Str) (sc : Scope) (p : Str × Option Nat) : Bool :=
  match p.2 with
  | none => true
  | some j => N[j]? == some p.1 && sc.names.lookup p.1 == some NameKind.free
/-- the block's names N', caps: from which slot of the def each comes (none: its own) -/
structure BlkScope (N : List Str) (sc0 sc : Scope) (N' : List Str) (caps : List (Option Nat)) : Prop where
  kind : sc.kind = .function
  names : ∀ x ∈ sc.names, x.2 = .local → sc.names.lookup x.1 = some .local
  nocell : ∀ x ∈ sc.names, x.2 ≠ .cell
  frees : ∀ x ∈ sc.names, x.2 = .free → sc0.names.lookup x.1 = some .cell ∨ sc0.names.lookup x.1 = some .free
  len : caps.length = N'.length
  cap : ((N'.zip caps).all (capOk N sc)) = true
  nd : N'.Nodup
def capσ (caps : List (Option Nat)) (σ : St) : St := caps.map fun o => o.bind fun j => σ.getD j none
def Wk (σ' σ : St) : Prop := σ'.length = σ.length ∧ ∀ (i : Nat) v, σ'[i]? = some (some v) → σ[i]? = some (some v)
theorem Wk.set {σ : St} {i : Nat} {v : V} (h : σ[i]? = some none) : Wk σ (σ.set i (some v)) := by
  refine ⟨by simp, fun j w e => ?_⟩
  by_cases hj : i = j
  · subst hj; rw [h] at e; cases e
  · rw [List.getElem?_set_ne hj]; exact e
theorem lookup_relS {names : List (Str × NameKind)} {f : Str × NameKind → Str × NameKind} (hf : ∀ x, (f x).1 = x.1) {x : Str} {k : NameKind} (h : (names.map f).lookup x = some k) : ∃ y ∈ names, y.1 = x ∧ (f y).2 = k := by
  induction names with
  | nil => simp at h
  | cons y r ih =>
    rw [List.map_cons] at h
    have hl : List.lookup x (f y :: r.map f) = match x == (f y).1 with | true => some (f y).2 | false => List.lookup x (r.map f) := by
      cases f y with
      | mk a b =>
        simp only [List.lookup_cons]
        cases x == a <;> rfl
    rw [hl] at h
    cases hb : x == (f y).1 with
    | true =>
      rw [hb] at h
      cases h
      exact ⟨y, List.mem_cons_self, by rw [← hf y]; exact (beq_iff_eq.mp hb).symm, rfl⟩
    | false =>
      rw [hb] at h
      obtain ⟨z, hz, e1, e2⟩ := ih h
      exact ⟨z, List.mem_cons_of_mem _ hz, e1, e2⟩

section
variable {X : Cx} {pins : List (Addr × Obj)} {σ : St} {H : Hp} {s : Shared} {scope : Scope} {cl : List (Str × Addr)} {C : Addr} {N' : List Str} {ex : List Addr} {caps : List (Option Nat)}
theorem blk_ok (I : Inv X pins σ H s) (S : BlkScope X.N X.env.scope scope N' caps) (hcl1 : ∀ x c, cl.lookup x = some c → X.env.cells.lookup x = some c) (hcl2 : ∀ x ∈ scope.names, x.2 = .free → ∃ c, cl.lookup x.1 = some c)
    (hC : s.heap.objs.size ≤ C) (hf : ∀ b ∈ ex, FpOk X pins H b) (hex : ∀ b ∈ ex, b < s.heap.objs.size) : (blk X N' scope cl C s H ex pins).Ok where
  mod := I.ok.mod
  kind := S.kind
  glob := I.ok.glob
  blt := I.ok.blt
  above := hC
  inj := fun x y c hx hy => I.ok.inj x y c (hcl1 x c hx) (hcl1 y c hy)
  has := fun x hx => by
    have hx' : (relS scope X.env.scope).names.lookup x = some .cell ∨ (relS scope X.env.scope).names.lookup x = some .free := hx
    have fin : ∀ k, (k = NameKind.cell ∨ k = NameKind.free) → (relS scope X.env.scope).names.lookup x = some k → ∃ c, cl.lookup x = some c := fun k hk hl => by
      obtain ⟨y, hy, e1, e2⟩ := lookup_relS (fun z => by obtain ⟨n, k⟩ := z; dsimp only; split <;> rfl) hl
      obtain ⟨n, k0⟩ := y
      have e1 : n = x := e1
      subst e1
      have hfree : k0 = .free := by
        dsimp only at e2
        split at e2
        · rename_i hcond
          simp only [Bool.and_eq_true, beq_iff_eq] at hcond
          exact hcond.1.1
        · have e2 : k0 = k := e2
          rcases hk with rfl | rfl
          · exact absurd e2 (S.nocell _ hy)
          · exact e2
      exact hcl2 _ hy hfree
    rcases hx' with h | h
    · exact fin _ (.inl rfl) h
    · exact fin _ (.inr rfl) h
  cab := fun _ _ h => by cases h
  hd := I.ok.hd
  frames := I.ok.frames
  stk := .inl rfl
  exf := fun b hb => ⟨Nat.ne_of_lt (Nat.lt_of_lt_of_le (hex b hb) hC), fun x c hc => (hf b hb).2.2.2.2.1 x c (hcl1 x c hc)⟩
  bs := I.bs
  bsz := Nat.le_trans I.ok.bsz I.sz
  noex := fun b o e hb => by
    rcases (hf b hb).2.2.2.1 with z | z
    · exact I.ok.noex b o e z
    · exact absurd (Nat.lt_of_lt_of_le (Heap.lt_size (I.ok.bs b o e).1) z) (Nat.lt_irrefl _)
  exfs := fun b hb hm => by
    rcases List.mem_cons.mp (I.stkSub b hm) with z | z
    · exact (hf b hb).2.1 z
    · exact (hf b hb).2.2.1 z
  funs := I.stack
  frf := I.stkFree

theorem capσ_get {i : Nat} {v : V} (h : (capσ caps σ)[i]? = some (some v)) : ∃ j, caps[i]? = some (some j) ∧ σ[j]? = some (some v) := by
  unfold capσ at h
  rw [List.getElem?_map] at h
  cases hc : caps[i]? with
  | none => rw [hc] at h; simp at h
  | some o =>
    rw [hc] at h
    cases o with
    | none => simp at h
    | some j =>
      refine ⟨j, rfl, ?_⟩
      have h : σ.getD j none = some v := by simpa using h
      rw [List.getD_eq_getElem?_getD] at h
      cases hj : σ[j]? with
      | none => rw [hj] at h; simp at h
      | some w => rw [hj] at h; simp at h; rw [h]

theorem blk_inv {acc n t' : Nat} {h₁ : Heap} {m : Str → Option Value} (I : Inv X pins σ H s) (S : BlkScope X.N X.env.scope scope N' caps) (hcl1 : ∀ x c, cl.lookup x = some c → X.env.cells.lookup x = some c) (hcl2 : ∀ x ∈ scope.names, x.2 = .free → ∃ c, cl.lookup x.1 = some c)
    (hC : s.heap.objs.size ≤ C) (hf : ∀ b ∈ ex, FpOk X pins H b) (hex : ∀ b ∈ ex, b < s.heap.objs.size) (hns : h₁.Ns C m) (old : ∀ b o, s.heap.get? b = some o → h₁.get? b = some o)
    (hacc : h₁.get? acc = some { cls := .type "list", data := .seq #[] n }) (hge : s.heap.objs.size ≤ acc) (hne : acc ≠ C) :
    Inv (blk X N' scope cl C s H ex pins) [] (capσ caps σ) (upd H acc (.lst [])) { s with heap := h₁, toks := t' } where
  ok := blk_ok I S hcl1 hcl2 hC hf hex
  os := rfl
  bare := I.bare
  base := Un.laid old hge (I.hok.fresh hge)
  loc := ⟨m, hns, fun i x v e1 e2 e3 => by
    obtain ⟨j, hj, hv⟩ := capσ_get e2
    have hz : (x, some j) ∈ N'.zip caps := by
      have : (N'.zip caps)[i]? = some (x, some j) := by rw [List.getElem?_zip_eq_some]; exact ⟨e1, hj⟩
      exact List.mem_of_getElem? this
    have hk := List.all_eq_true.mp S.cap _ hz
    simp only [capOk, Bool.and_eq_true, beq_iff_eq] at hk
    obtain ⟨hN, hfr⟩ := hk
    have hmem : (x, NameKind.free) ∈ scope.names := by
      have e : ∀ {l : List (Str × NameKind)}, l.lookup x = some .free → (x, NameKind.free) ∈ l := fun {l} => mem_of_lookup
      exact e hfr
    have h0 := S.frees _ hmem rfl
    obtain ⟨m0, hn0, hl⟩ := I.loc
    obtain ⟨u, r, l⟩ := hl j x v hN hv (by
      rcases h0 with h0 | h0
      · exact .inr (.inl h0)
      · exact .inr (.inr h0))
    refine ⟨u, r, ?_⟩
    have hcase : ∃ c, X.env.cells.lookup x = some c ∧ s.heap.IsCell c (some u) := by
      rcases l with ⟨hk, _⟩ | ⟨_, c, hc, hcell⟩
      · have hk' : X.env.scope.names.lookup x = some .local := hk
        rcases h0 with h0 | h0 <;> (rw [h0] at hk'; cases hk')
      · exact ⟨c, hc, hcell⟩
    obtain ⟨c, hc, hcell⟩ := hcase
    obtain ⟨c', hc'⟩ := hcl2 _ hmem rfl
    have ec := hcl1 x c' hc'
    rw [hc] at ec
    cases ec
    refine .inr ⟨?_, c, hc', hcell.keeps old⟩
    have e3' : Vis (relS scope X.env.scope) x := e3
    rcases e3' with h | h | h
    · exfalso
      obtain ⟨y, hy, q1, q2⟩ := lookup_relS (fun z => by obtain ⟨n, k⟩ := z; dsimp only; split <;> rfl) h
      obtain ⟨nn, k0⟩ := y
      have q1 : nn = x := q1
      subst q1
      dsimp only at q2
      split at q2
      · cases q2
      · have q2 : k0 = .local := q2
        subst q2
        have := S.names _ hy rfl
        have this : scope.names.lookup nn = some .local := this
        rw [hfr] at this; cases this
    · exact .inl h
    · exact .inr h⟩
  cell := fun x c e => let ⟨v, z⟩ := I.cell x c (hcl1 x c e); ⟨v, z.keeps old⟩
  free := by
    show upd H acc (.lst []) C = none
    rw [upd_ne (Ne.symm hne)]; exact I.hok.fresh hC
  freeC := fun x c e => by
    obtain ⟨v, z⟩ := I.cell x c (hcl1 x c e)
    have hl : c ≠ acc := Nat.ne_of_lt (Nat.lt_of_lt_of_le z.lt hge)
    rw [upd_ne hl]; exact I.freeC x c (hcl1 x c e)
  pin := fun p hp => by
    have hp' : p ∈ X.pn ++ pins := by
      have : p ∈ (X.pn ++ pins) ++ [] := hp
      simpa using this
    obtain ⟨e, n, ne, nf, d⟩ := I.pin p hp'
    have hlt := Heap.lt_size e
    refine ⟨old _ _ e, ?_, Nat.ne_of_lt (Nat.lt_of_lt_of_le hlt hC), fun z => ?_, d⟩
    · rw [upd_ne (Nat.ne_of_lt (Nat.lt_of_lt_of_le hlt hge))]; exact n
    · rcases List.mem_cons.mp (I.stkSub _ z) with z | z
      · exact ne z
      · exact nf z
  hok := I.hok.laid old hge ⟨Nat.zero_le _, [], n, .nil, hacc⟩
  len := by
    show (capσ caps σ).length = N'.length
    unfold capσ; rw [List.length_map]; exact S.len

/-- back from the block -/
theorem blk_back {H' : Hp} {s' : Shared} {σ' : St} {pins' : List (Addr × Obj)} (I : Inv X pins σ H s) (J : Inv (blk X N' scope cl C s H ex pins) pins' σ' H' s') (hf : ∀ b ∈ ex, FpOk X pins H b) : Inv X pins σ H' s' :=
  I.call' (ch := ex) J.os J.base J.hok J.bare fun b hb => by
    obtain ⟨_, f1, _, f3, f4, f5⟩ := hf b hb
    exact ⟨f3, f1, f4, f5⟩
/-- an untracked object at C, younger than the state s, has changed -/
theorem Inv.letC {H' : Hp} {s' : Shared} {h'' : Heap} {σ' : St} (I : Inv X pins σ H s) (hC : s.heap.objs.size ≤ C) (J : Inv X pins σ' H' s') (hn : H' C = none) (hs : Heap.SameBut C s'.heap h'') : Inv X pins σ' H' { s' with heap := h'' } := by
  refine J.turned (it := C) (t' := s'.toks) (fun b o hb e => (hs.2 b hb).trans e) hn (Nat.ne_of_gt (Nat.lt_of_lt_of_le I.lt hC)) (.inr (Nat.le_trans I.sz hC)) (fun x c e => ?_) fun p hp => ?_
  · obtain ⟨v, z⟩ := I.cell x c e
    exact Nat.ne_of_lt (Nat.lt_of_lt_of_le z.lt hC)
  · obtain ⟨e, _⟩ := I.pin p hp
    exact Nat.ne_of_lt (Nat.lt_of_lt_of_le (Heap.lt_size e) hC)
end

def tComp (wi : TI) (g : TG) (te : TE) (caps : List (Option Nat)) : TE := fun σ H Q => wi σ H fun J H1 => ∀ acc, H1 acc = none → ∃ W : Nat → Nat → List V → Hp → Prop, (∃ m, W 0 m [] (upd H1 acc (.lst []))) ∧ ∀ i m ys H, W i m ys H →
  (J.stop i H ∧ Q (.ref acc) H) ∨ (J.go i H ∧ ∃ N : List V → Hp → Prop, (∀ ys' H', N ys' H' → ∃ m', m' < m ∧ W (i + 1) m' ys' H') ∧ ∀ x H', J.yld i H x H' → g x (capσ caps σ) H' fun σ2 H2 => Wk (capσ caps σ) σ2 ∧ te σ2 H2 fun y H3 => H3 acc = some (.lst ys) ∧ ys.length < sizeLine ∧ N (ys ++ [y]) (upd H3 acc (.lst (ys ++ [y]))))

section
variable {X : Cx} {scope : Scope} {N' : List Str} {caps : List (Option Nat)} {elt iter tg : Expr} {pos : Pos} {wi : TI} {g : TG} {te : TE}

def CompR (caps : List (Option Nat)) (g : TG) (te : TE) (σ : St) (Q : VK) (J : It) (H1 : Hp) : Prop := ∀ acc, H1 acc = none → ∃ W : Nat → Nat → List V → Hp → Prop, (∃ m, W 0 m [] (upd H1 acc (.lst []))) ∧ ∀ i m ys H, W i m ys H →
  (J.stop i H ∧ Q (.ref acc) H) ∨ (J.go i H ∧ ∃ N : List V → Hp → Prop, (∀ ys' H', N ys' H' → ∃ m', m' < m ∧ W (i + 1) m' ys' H') ∧ ∀ x H', J.yld i H x H' → g x (capσ caps σ) H' fun σ2 H2 => Wk (capσ caps σ) σ2 ∧ te σ2 H2 fun y H3 => H3 acc = some (.lst ys) ∧ ys.length < sizeLine ∧ N (ys ++ [y]) (upd H3 acc (.lst (ys ++ [y]))))
theorem comp_core {pins : List (Addr × Obj)} {s : Shared} {σ : St} {H : Hp} {cl : List (Str × Addr)} {Q : VK} {E : Value → Shared → Prop} {RR : Value → Addr → Result → Shared → Prop} {it : Addr} {fp : List Addr} {tn : Nat → Heap → Prop} {J : It} (hc : X.calm = true) (S : BlkScope X.N X.env.scope scope N' caps)
    (hg : ∀ cl C s H ex pins, PG (blk X N' scope cl C s H ex pins) tg g) (he : ∀ cl C s H ex pins, PE (blk X N' scope cl C s H ex pins) elt te)
    (hcl1 : ∀ x c, cl.lookup x = some c → X.env.cells.lookup x = some c) (hcl2 : ∀ x ∈ scope.names, x.2 = .free → ∃ c, cl.lookup x.1 = some c)
    (I : Inv X pins σ H s) (T : Turn X.prog X.w X.K tg J fp it tn) (st : tn 0 s.heap) (f2 : ∀ b ∈ fp, FpOk X pins H b) (R : CompR caps g te σ Q J H)
    (hRR : ∀ acc C H' s' m, s.heap.objs.size ≤ C → s'.heap.Ns C m → Inv X pins σ H' s' → H' C = none → Q (.ref acc) H' → RR (.ref acc) C (.ok .next) s') :
    wpAny (model X.prog X.w) X.A (newList []) (fun acc s₃ => wpAny (model X.prog X.w) X.A (newFunctionEnv scope X.env.globals cl [] X.env.qual none .none (some X.env)) (fun cenv s₄ =>
      codeAny (model X.prog X.w) X.A (.compStart (.ListComp elt [⟨tg, iter, [], 0⟩] scope pos) 0 (.ref it) acc { cenv with scope := relabel scope X.env }) (RR acc cenv.locals) s₄) E s₃) E s := by
  refine wpAny_newObj_type (wpAny_newFunctionEnv S.nocell (by intro y hy; simp at hy) (fun h₁ hns₁ hsb₁ => ?_) S.kind)
  dsimp only at hns₁ hsb₁ ⊢
  generalize hP2 : s.heap.push { cls := .type "list", dict := none, data := .seq ([] : List Value).toArray } = P2 at hns₁ hsb₁ ⊢
  have hC : P2.objs.size = s.heap.objs.size + 1 := by rw [← hP2, Heap.size_push]
  have hDC : s.heap.objs.size ≠ P2.objs.size := by rw [hC]; exact Nat.ne_of_lt (Nat.lt_succ_self _)
  have hCle : s.heap.objs.size ≤ P2.objs.size := by rw [hC]; exact Nat.le_succ _
  have old : ∀ b o, s.heap.get? b = some o → h₁.get? b = some o := fun b o e => hsb₁.extBut b o (by rw [hC]; exact Nat.ne_of_lt (Nat.lt_succ_of_lt (Heap.lt_size e))) (Heap.get?_push_of_some _ (hP2 ▸ Heap.get?_push_of_some _ e))
  have hacc : h₁.get? s.heap.objs.size = some { cls := .type "list", data := .seq #[] } := hsb₁.extBut _ _ hDC (Heap.get?_push_of_some _ (hP2 ▸ Heap.get?_push_size _ rfl))
  have hex : ∀ b ∈ fp, b < s.heap.objs.size := fun b hb => by obtain ⟨o, e, _⟩ := T.obj 0 _ st b hb; exact Heap.lt_size e
  obtain ⟨W, ⟨m0, w0⟩, turn⟩ := R s.heap.objs.size (I.hok.fresh (Nat.le_refl _))
  have I3 : ∀ t', Inv (blk X N' scope cl P2.objs.size s H fp pins) [] (capσ caps σ) (upd H s.heap.objs.size (.lst [])) { s with heap := h₁, toks := t' } := fun t' => blk_inv (t' := t') I S hcl1 hcl2 hCle f2 hex hns₁ old hacc (Nat.le_refl _) hDC
  have stat : ∀ {H' : Hp}, (∀ b ∈ fp, H' b = none) → ∀ b ∈ fp, FpOk (blk X N' scope cl P2.objs.size s H fp pins) [] H' b := fun hn b hb => by
    obtain ⟨_, q1, q2, q3, q4, q5⟩ := f2 b hb
    refine ⟨hn b hb, Nat.ne_of_lt (Nat.lt_of_lt_of_le (hex b hb) hCle), fun z => ?_, .inl hb, fun x c e => q4 x c (hcl1 x c e), fun p hp => q5 p ?_⟩
    · rcases List.mem_cons.mp (I.stkSub b z) with z | z
      · exact q1 z
      · exact q2 z
    · have : p ∈ (X.pn ++ pins) ++ [] := hp
      simpa using this
  have loop : ∀ s₃ : Shared, s₃ = { s with heap := h₁, toks := s.toks + ([] : List (Str × Value)).length } →
      codeAny (model X.prog X.w) X.A (.compLoop (.ListComp elt [⟨tg, iter, [], 0⟩] scope pos) 0 (.ref it) (.ref s.heap.objs.size) (compEnvC scope cl P2.objs.size X.env)) (RR (.ref s.heap.objs.size) P2.objs.size) s₃ := by
    rintro s₃ rfl
    refine codeAny_compLoop_gen (fun n s' => ∃ i ys H', Inv (blk X N' scope cl P2.objs.size s H fp pins) [] (capσ caps σ) H' s' ∧ tn i s'.heap ∧ (∀ b ∈ fp, H' b = none) ∧ W i n ys H') ?_ m0
      ⟨0, [], _, I3 _, T.keep 0 _ _ st (fun b _ o e => old b o e), fun b hb => by rw [upd_ne (Nat.ne_of_lt (hex b hb))]; exact (f2 b hb).1, w0⟩
    rintro n s4 ⟨i, ys, H4, I4, st4, fr4, w4⟩
    rcases turn i n ys H4 w4 with ⟨stop, q⟩ | ⟨go, N, hN, step⟩
    · refine thn (T.done (blk X N' scope cl P2.objs.size s H fp pins) rfl rfl rfl hc i [] s4 _ H4 _ I4 (stat fr4) st4 stop) fun r s5 ⟨hr, I5⟩ => ?_
      subst hr
      obtain ⟨m, hm, _⟩ := id I5.loc
      exact hRR _ _ H4 s5 m hCle hm (blk_back I I5 f2) I5.free q
    · refine thn (T.item (blk X N' scope cl P2.objs.size s H fp pins) rfl rfl rfl hc i [] s4 _ H4 _ I4 (stat fr4) st4 go) fun r s5 ⟨u, hr, h5⟩ => ?_
      subst hr
      refine thn h5 fun _ s6 ⟨x, H6, I6, r6, y6, st6, fr6⟩ => ?_
      have I6' := I6.pinned (stat fr6) (T.obj _ _ st6)
      refine thn (hg cl _ s H fp pins _ s6 _ H6 x u _ I6' r6 (step x H6 y6)) fun _ s7 ⟨σ7, H7, I7, wk7, q7⟩ => ?_
      refine thn (he cl _ s H fp pins _ s7 σ7 H7 _ I7 q7) fun yv s8 ⟨y, H8, I8, r8, ha8, hsz8, w8⟩ => ?_
      refine thn (mt_append (X := blk X N' scope cl P2.objs.size s H fp pins) _ s8 σ7 H8 (.ref s.heap.objs.size) [y] (.ref s.heap.objs.size) [yv] (fun _ H9 => H9 = upd H8 s.heap.objs.size (.lst (ys ++ [y]))) I8 rfl (.cons r8 .nil) ⟨_, ys, y, rfl, rfl, ha8, hsz8, rfl⟩) fun _ s9 ⟨_, H9, I9, _, e9⟩ => ?_
      subst e9
      obtain ⟨m', hm', w8⟩ := hN _ _ w8
      refine ⟨m', hm', i + 1, ys ++ [y], _, I9.unpinned.weak wk7.1 wk7.2, T.keep _ _ _ st6 fun b hb o e => (I9.pin (b, o) (List.mem_append_right _ (List.mem_append_right _ (mem_pinsAt hb e)))).1, fun b hb => ?_, w8⟩
      obtain ⟨o, e, d⟩ := T.obj _ _ st6 b hb
      exact (I9.pin (b, o) (List.mem_append_right _ (List.mem_append_right _ (mem_pinsAt hb e)))).2.1
  exact codeAny_compStart_list (loop _ rfl) (T.self _ 0 _ _ _ (T.keep 0 _ _ st (fun b _ o e => old b o e)) (loop _ rfl))

theorem clos_of {pins : List (Addr × Obj)} {s : Shared} {σ : St} {H : Hp} (I : Inv X pins σ H s) (S : BlkScope X.N X.env.scope scope N' caps) :
    ∃ cl, closureFor scope X.env = pure cl ∧ (∀ x c, cl.lookup x = some c → X.env.cells.lookup x = some c) ∧ ∀ x ∈ scope.names, x.2 = .free → ∃ c, cl.lookup x.1 = some c :=
  closure_ok fun x hx hf => I.ok.has x.1 (S.frees x hx hf)

theorem pe_comp {N : List Str} {sc0 : Scope} (S : BlkScope N sc0 scope N' caps) (hc : X.calm = true) (hi : PI X tg iter wi)
    (hg : ∀ cl C s H ex pins, PG (blk X N' scope cl C s H ex pins) tg g) (he : ∀ cl C s H ex pins, PE (blk X N' scope cl C s H ex pins) elt te)
    (hs : ∀ x, foldedSetIterable iter X.env x = pure x := by intro _; rfl) (hN0 : X.N = N := by rfl) (h00 : X.env.scope = sc0 := by rfl) : PE X (.ListComp elt [⟨tg, iter, [], 0⟩] scope pos) (tComp wi g te caps) := by
  subst hN0 h00
  intro pins s σ H Q I h
  obtain ⟨cl, hclos, hcl1, hcl2⟩ := clos_of I S
  rw [eval_ListComp]
  refine wpAny_comprehension_free (use := none) rfl hs hclos S.kind S.names (thn (hi pins s σ H _ I h) fun xv s1 h1 => thn h1 fun itv s2 h2 => ?_)
  obtain ⟨it, fp, tn, J, H2, e, I2, T, st2, f2, R⟩ := h2
  subst e
  refine comp_core (RR := fun acc C => compPost (model X.prog X.w) X.A X.xe none (EP X pins σ Q) acc C) hc S hg he hcl1 hcl2 I2 T st2 f2 R ?_
  intro acc C H' s' m hC hm J' hn q
  exact ⟨m, hm, fun h' hs' => ⟨.ref _, H', I2.letC hC J' hn hs', rfl, q⟩⟩

end

/-! ### what a comprehension's reading wants -/
theorem comp_list {K : PySem.W.Frag} {a : Addr} {xs : List V} {g : TG} {te : TE} {caps : List (Option Nat)} {σ : St} {H : Hp} {Q : VK} (Pv : Addr → Nat → List V → Hp → Prop) (h0 : ∀ acc, H acc = none → Pv acc 0 [] (upd H acc (.lst [])))
    (hl : ∀ acc i ys H', H acc = none → i ≤ xs.length → Pv acc i ys H' → SqL K H' a xs)
    (hs : ∀ acc i x ys H', H acc = none → xs[i]? = some x → Pv acc i ys H' → g x (capσ caps σ) H' fun σ2 H2 => Wk (capσ caps σ) σ2 ∧ te σ2 H2 fun y H3 => H3 acc = some (.lst ys) ∧ ys.length < sizeLine ∧ Pv acc (i + 1) (ys ++ [y]) (upd H3 acc (.lst (ys ++ [y]))))
    (hd : ∀ acc ys H', H acc = none → Pv acc xs.length ys H' → Q (.ref acc) H') : CompR caps g te σ Q (Itl K a) H := by
  intro acc hacc
  refine ⟨fun i m ys H => m = xs.length - i ∧ i ≤ xs.length ∧ Pv acc i ys H, ⟨xs.length, by simp, Nat.zero_le _, h0 acc hacc⟩, ?_⟩
  rintro i m ys H' ⟨rfl, hi, p⟩
  have q := hl acc i ys H' hacc hi p
  by_cases hlt : i < xs.length
  · refine .inr ⟨⟨xs, xs[i], q, by simp [hlt]⟩, Pv acc (i + 1), fun ys' H' p' => ⟨xs.length - (i + 1), by omega, rfl, hlt, p'⟩, fun x H'' y => ?_⟩
    obtain ⟨e, y⟩ := y
    subst e
    exact hs acc i x ys _ hacc (y xs q) p
  · have e : i = xs.length := by omega
    subst e
    exact .inl ⟨⟨xs, q, Nat.le_refl _⟩, hd acc ys H' hacc p⟩
theorem comp_range {lo : Int} {n : Nat} {g : TG} {te : TE} {caps : List (Option Nat)} {σ : St} {H : Hp} {Q : VK} (Pv : Addr → Nat → List V → Hp → Prop) (h0 : ∀ acc, H acc = none → Pv acc 0 [] (upd H acc (.lst [])))
    (hs : ∀ acc i ys H', H acc = none → i < n → Pv acc i ys H' → g (.int (lo + i)) (capσ caps σ) H' fun σ2 H2 => Wk (capσ caps σ) σ2 ∧ te σ2 H2 fun y H3 => H3 acc = some (.lst ys) ∧ ys.length < sizeLine ∧ Pv acc (i + 1) (ys ++ [y]) (upd H3 acc (.lst (ys ++ [y]))))
    (hd : ∀ acc ys H', H acc = none → Pv acc n ys H' → Q (.ref acc) H') : CompR caps g te σ Q (Itr lo n) H := by
  intro acc hacc
  refine ⟨fun i m ys H => m = n - i ∧ i ≤ n ∧ Pv acc i ys H, ⟨n, by simp, Nat.zero_le _, h0 acc hacc⟩, ?_⟩
  rintro i m ys H' ⟨rfl, hi, p⟩
  by_cases hlt : i < n
  · refine .inr ⟨hlt, Pv acc (i + 1), fun ys' H' p' => ⟨n - (i + 1), by omega, rfl, hlt, p'⟩, fun x H'' y => ?_⟩
    obtain ⟨e, y⟩ := y
    subst e y
    exact hs acc i ys _ hacc hlt p
  · have e : i = n := by omega
    subst e
    exact .inl ⟨Nat.le_refl _, hd acc ys H' hacc p⟩

/-! ### isinstance, == of lists -/
def cvV : V → Option Value
  | .ty n => some (.type n)
  | .ref a => some (.ref a)
  | _ => none
section
variable {X : Cx}
theorem call_isinst : CallR X (.builtin "isinstance") (fun xs H Q => ∃ x c t cv b, xs = [x, c] ∧ TyOf X.K H x t ∧ cvV c = some cv ∧ PySem.W.kitOne X.K t cv = some b ∧ Q (.bl b) H) := by
  intro pins s σ H xs us Q I r h
  obtain ⟨x, c, t, cv, b, rfl, ty, hc, hk, q⟩ := h
  obtain ⟨u, w', rfl, r1, r2⟩ := vals2 r
  have e : w' = cv := by
    cases c with
    | ty n => have h1 : w' = Value.type n := r2; have h2 : some (Value.type n) = some cv := hc; cases h2; exact h1
    | ref a => have h1 : w' = Value.ref a := r2; have h2 : some (Value.ref a) = some cv := hc; cases h2; exact h1
    | non => cases hc
    | bl _ => cases hc
    | int _ => cases hc
    | str _ => cases hc
    | byt _ => cases hc
    | flt _ => cases hc
  subst e
  exact isinst_ok I r1 ty hk fun tk => ⟨.bl b, H, I.tok tk, rfl, q⟩
/-- lists of ints -/
theorem op_eqI (hu : X.A.units + 64 < cLine) : OpR X (compareOp .Eq) (fun x y H Q => ∃ (a b : Addr) (ns ms : List Int), x = .ref a ∧ y = .ref b ∧ SqL X.K H a (ns.map V.int) ∧ SqL X.K H b (ms.map V.int) ∧ Q (.bl (decide (ns = ms))) H) := by
  intro pins s σ H x y v u Q I rx ry h
  obtain ⟨a, b, ns, ms, rfl, rfl, ha, hb, q⟩ := h
  cases rx; cases ry
  obtain ⟨its, rv, p, _⟩ := I.list ha
  obtain ⟨its', rv', p', _⟩ := I.list hb
  exact PySem.W.ke_eq_ints p.isList p'.isList (intsAre_of rv) (intsAre_of rv') hu ⟨.bl _, H, I, rfl, q⟩
end
/-! a value's data, as == reads it -/
mutual
inductive Dt (K : PySem.W.Frag) (H : Hp) : V → PyData → Prop where
  | non : Dt K H .non .none
  | bl (b : Bool) : Dt K H (.bl b) (.bool b)
  | int (i : Int) : Dt K H (.int i) (.int i)
  | str (x : Str) : Dt K H (.str x) (.str x)
  | lst {a : Addr} {xs : List V} {ds : List PyData} : SqL K H a xs → Dts K H xs ds → Dt K H (.ref a) (.list ds)
  | tup {a : Addr} {xs : List V} {ds : List PyData} : SqT K H a xs → Dts K H xs ds → Dt K H (.ref a) (.tuple ds)
inductive Dts (K : PySem.W.Frag) (H : Hp) : List V → List PyData → Prop where
  | nil : Dts K H [] []
  | cons {x : V} {xs : List V} {d : PyData} {ds : List PyData} : Dt K H x d → Dts K H xs ds → Dts K H (x :: xs) (d :: ds)
end
section
variable {X : Cx} {pins : List (Addr × Obj)} {σ : St} {H : Hp} {s : Shared}
mutual
theorem Dt.reads (I : Inv X pins σ H s) : ∀ {x : V} {d : PyData} {u : Value}, Dt X.K H x d → RelV x u → ∃ as, Reads s.heap u d as
  | _, _, _, .non, r => by cases r; exact ⟨_, .none⟩
  | _, _, _, .bl b, r => by cases r; exact ⟨_, .bool b⟩
  | _, _, _, .int i, r => by obtain ⟨t, rfl⟩ := r; exact ⟨_, .int i t⟩
  | _, _, _, .str x, r => by obtain ⟨t, rfl⟩ := r; exact ⟨_, .str x t⟩
  | _, _, _, .lst h hs, r => by
    cases r
    obtain ⟨its, rv, p, _⟩ := I.list h
    obtain ⟨as, q⟩ := Dts.reads I hs rv
    obtain ⟨o, ho, hc, n, hd⟩ := p.isList
    exact ⟨_, .list ho hc hd (by simpa using q)⟩
  | _, _, _, .tup h hs, r => by
    cases r
    obtain ⟨its, rv, p, _⟩ := I.tuple h
    obtain ⟨as, q⟩ := Dts.reads I hs rv
    obtain ⟨o, ho, hc, n, hd⟩ := p
    exact ⟨_, .tuple ho hc hd (by simpa using q)⟩
theorem Dts.reads (I : Inv X pins σ H s) : ∀ {xs : List V} {ds : List PyData} {us : List Value}, Dts X.K H xs ds → Vals xs us → ∃ as, ReadsAll s.heap us ds as
  | _, _, _, .nil, r => by cases r; exact ⟨_, .nil⟩
  | _, _, _, .cons h hs, r => by
    cases r with
    | cons r rr =>
      obtain ⟨as, q⟩ := Dt.reads I h r
      obtain ⟨bs, q'⟩ := Dts.reads I hs rr
      exact ⟨_, .cons q q'⟩
end
end
section
variable {X : Cx}
theorem op_eqD (hu : X.A.units + 64 < cLine) : OpR X (compareOp .Eq) (fun x y H Q => ∃ d e, Dt X.K H x d ∧ Dt X.K H y e ∧ SeqAt.shaped d = true ∧ SeqAt.shaped e = true ∧ Q (.bl (PyData.eqv d e)) H) := by
  intro pins s σ H x y v u Q I rx ry h
  obtain ⟨d, e, hd, he, sd, se, q⟩ := h
  obtain ⟨as, r1⟩ := hd.reads I rx
  obtain ⟨bs, r2⟩ := he.reads I ry
  exact eq_dataH r1 r2 sd se hu ⟨.bl _, H, I, rfl, q⟩
end
end L2
/-! ## Reading the terms, step by step -/
namespace L2
open PySem PySem.Spec PyProof.Rows
section
variable {t u : TS} {te ta tb tc : TE} {tt uu : TT} {tar : TA} {g : TG} {D : Ends} {σ : St} {H : Hp} {Q : VK} {QB : Bool → Hp → Prop} {QL : List V → Hp → Prop} {QS : St → Hp → Prop} {v x y : V} {i j : Int} {n : Nat} {K : PySem.W.Frag}
theorem r_seq (h : t { D with nx := u D } σ H) : tSeq t u D σ H := h
theorem r_next (h : D.nx σ H) : tNext D σ H := h
theorem r_nx {f b c : St → Hp → Prop} {r : VK} (h : f σ H) : Ends.nx ⟨f, r, b, c⟩ σ H := h
theorem r_rt {f b c : St → Hp → Prop} {r : VK} (h : r v H) : Ends.rt ⟨f, r, b, c⟩ v H := h
theorem r_asg (h : te σ H fun x H1 => g x σ H1 D.nx) : tAsg te g D σ H := h
theorem r_gname (h : QS (σ.set n (some v)) H) : gName n v σ H QS := h
theorem r_gsub {to ti : TE} {ts : TSet} (h : to σ H fun o H1 => ti σ H1 fun i H2 => ts o i v H2 fun H3 => QS σ H3) : gSub to ti ts v σ H QS := h
theorem r_drop (h : te σ H fun _ H1 => D.nx σ H1) : tDrop te D σ H := h
theorem r_ret (h : te σ H D.rt) : tRet te D σ H := h
theorem r_ifs (h : tt σ H fun b H1 => if b = true then t D σ H1 else u D σ H1) : tIfS tt t u D σ H := h
theorem r_var (e : σ[n]? = some (some v)) (h : Q v H) : tVar n σ H Q := ⟨v, e, h⟩
theorem r_C (h : Q v H) : tC v σ H Q := h
theorem r_op {r : R2} (h : ta σ H fun x H1 => tb σ H1 fun y H2 => r x y H2 Q) : tOp r ta tb σ H Q := h
theorem r_test (h : te σ H fun x H' => ∃ k, x = .bl k ∧ QB k H') : tTest te σ H QB := h
theorem r_tB (h : te σ H fun x H' => ∃ k, x = .bl k ∧ QB k H') : tB te σ H QB := h
theorem r_bl {k : Bool} {Q : Bool → Prop} (h : Q k) : ∃ k', V.bl k = .bl k' ∧ Q k' := ⟨k, rfl, h⟩
theorem r_or (h : tt σ H fun c H1 => if c = true then QB true H1 else uu σ H1 QB) : tOr tt uu σ H QB := h
theorem r_not (h : tt σ H fun c H1 => QB (!c) H1) : tNot tt σ H QB := h
theorem r_andV (h : ta σ H fun x H1 => ∃ c, x = .bl c ∧ if c = true then tb σ H1 Q else Q (.bl false) H1) : tAndV ta tb σ H Q := h
theorem r_notV (h : ta σ H fun x H1 => ∃ c, x = .bl c ∧ Q (.bl (!c)) H1) : tNotV ta σ H Q := h
theorem r_chain {r r' : R2} (h : ta σ H fun x H1 => tb σ H1 fun y H2 => r x y H2 fun z H3 => ∃ k, z = .bl k ∧ (if k = true then tc σ H3 fun w' H4 => r' y w' H4 Q else Q (.bl false) H3)) : tChain r r' ta tb tc σ H Q := h
theorem r_call {sp : Sp} {dvs : List V} {E : XK} (h : tar σ H fun vs H1 => sp (vs ++ dvs) H1 Q E) : tCall sp dvs E tar σ H Q := h
theorem r_cb {r : List V → Hp → VK → Prop} (h : tar σ H fun vs H1 => r vs H1 Q) : tCB r tar σ H Q := h
theorem r_cons (h : ta σ H fun x H1 => tar σ H1 fun xs H2 => QL (x :: xs) H2) : tCons ta tar σ H QL := h
theorem r_nil (h : QL [] H) : tNil σ H QL := h
theorem r_lst (h : tar σ H fun xs H1 => xs.length ≤ sizeLine ∧ ∀ p, H1 p = none → Q (.ref p) (upd H1 p (.lst xs))) : tLst tar σ H Q := h
theorem r_tup (h : tar σ H fun xs H1 => xs.length ≤ sizeLine ∧ ∀ p, H1 p = none → Q (.ref p) (upd H1 p (.tup xs))) : tTup tar σ H Q := h
theorem r_I0 {f : Int → Int → V} (h : Q (f i j) H) : rI0 f (.int i) (.int j) H Q := ⟨i, j, rfl, rfl, h⟩
theorem r_I {C : Int → Int → Prop} {f : Int → Int → V} (hc : C i j) (h : Q (f i j) H) : rI C f (.int i) (.int j) H Q := ⟨i, j, rfl, rfl, hc, h⟩
theorem r_eq (hs : scal x y = true) (h : Q (.bl (decide (x = y))) H) : rEq x y H Q := ⟨hs, h⟩
theorem r_ne (hs : scal x y = true) (h : Q (.bl (!decide (x = y))) H) : rNe x y H Q := ⟨hs, h⟩
theorem r_ixL {p : Addr} {xs : List V} (hs : SqL K H p xs) (ha : atI xs i = some v) (h : Q v H) : rIxL K (.ref p) (.int i) H Q := ⟨p, xs, i, v, rfl, rfl, hs, ha, h⟩
theorem r_bm {T : String} {r : V → List V → Hp → VK → Prop} {to : TE} (h : to σ H fun x H1 => tyV K T x H1 ∧ tar σ H1 fun xs H2 => r x xs H2 Q) : tBM K T r to tar σ H Q := h
theorem r_ite {A B : Prop} {c : Bool} (h1 : c = true → A) (h2 : c = false → B) : if c = true then A else B := by
  cases c with
  | true => exact h1 rfl
  | false => exact h2 rfl
theorem r_iteP {A B : Prop} {c : Bool} (hc : c = true) (h1 : A) : if c = true then A else B := by rw [if_pos hc]; exact h1
theorem r_iteN {A B : Prop} {c : Bool} (hc : c = false) (h1 : B) : if c = true then A else B := by rw [if_neg (by rw [hc]; decide)]; exact h1
theorem Same.upd_new {H : Hp} {p : Addr} {o : HO} (h : H p = none) : Same H (upd H p o) := fun b u e => by rw [upd_ne (ne_of_none e h)]; exact e
theorem sqL_same {K : PySem.W.Frag} {H H' : Hp} {a : Addr} {xs : List V} (e : Same H H') (h : SqL K H a xs) : SqL K H' a xs := e.seq h
theorem atI_get' {α : Type} {xs : List α} {i : Int} {v : α} (h0 : 0 ≤ i) (h : xs[i.toNat]? = some v) : atI xs i = some v := by
  have := atI_nat (xs := xs) (j := i.toNat) h
  rwa [Int.toNat_of_nonneg h0] at this
end
end L2
namespace L2
open PySem PySem.Spec PyProof.Rows
section
variable {wi : TI} {g : TG} {tb : TS} {te tl : TE} {ta : TA} {D : Ends} {σ : St} {H : Hp} {Q : VK} {R : It → Hp → Prop} {caps : List (Option Nat)} {K : PySem.W.Frag}
theorem r_for (h : wi σ H fun J H1 => ∃ W : Nat → Nat → St → Hp → Prop, (∃ m, W 0 m σ H1) ∧ ∀ i m σ H, W i m σ H →
    (J.stop i H ∧ D.nx σ H) ∨ (J.go i H ∧ ∃ N : St → Hp → Prop, (∀ σ' H', N σ' H' → ∃ m', m' < m ∧ W (i + 1) m' σ' H') ∧ ∀ x H', J.yld i H x H' → g x σ H' fun σ2 H2 => tb { D with nx := N, ct := N, bk := D.nx } σ2 H2)) : tFor wi g tb D σ H := h
theorem r_rng1 (h : ta σ H fun vs H1 => ∃ j : Int, vs = [.int j] ∧ -(2 ^ 62) ≤ j ∧ j < 2 ^ 62 ∧ R (Itr 0 j.toNat) H1) : iRng1 ta σ H R := h
theorem r_ilist (h : tl σ H fun x H1 => ∃ a, x = .ref a ∧ (∃ xs, SqL K H1 a xs) ∧ R (Itl K a) H1) : iList K tl σ H R := h
theorem r_ienum (h : ta σ H fun vs H1 => ∃ a, vs = [.ref a] ∧ (∃ xs, SqL K H1 a xs) ∧ R (Ite K a) H1) : iEnum K ta σ H R := h
theorem r_comp (h : wi σ H fun J H1 => CompR caps g te σ Q J H1) : tComp wi g te caps σ H Q := h
theorem r_make {C : Addr} {sp : Sp} {dvs : List V} {E : XK} (h : ta σ H fun vs H1 => ∀ x dx, H1 x = none → H1 dx = none → dx ≠ x →
  sp (.ref x :: (vs ++ dvs)) (upd (upd H1 dx (.own x)) x (.ins C dx [])) (fun v H2 => v = .non ∧ Q (.ref x) H2) E) : tMake C sp dvs E ta σ H Q := h
theorem r_sfld {tv to : TE} {f : Str} (h : tv σ H fun y H1 => to σ H1 fun x H2 => ∃ a C dx fs, x = .ref a ∧ H2 a = some (.ins C dx fs) ∧ Cls K C ∧ NoAttr K C f ∧ fs.length < 1000 ∧
  D.nx σ (upd H2 a (.ins C dx (putF f y fs)))) : sFld K to tv f D σ H := h
end
end L2
/-! ### the same rules, the written part K named (a comprehension's block has its own context) -/
namespace L2
open PySem PySem.Spec PyProof.Rows
section
variable {X : Cx} (K : PySem.W.Frag)
theorem call_len_seqK (hK : X.K = K := by rfl) : CallR X (.builtin "len") (fun xs H Q => ∃ p ys, xs = [.ref p] ∧ (SqL K H p ys ∨ SqT K H p ys) ∧ Q (.int ys.length) H) := by subst hK; exact call_len_seq
theorem call_list_ofK (hK : X.K = K := by rfl) : CallR X (.type "list") (fun xs H Q => ∃ p ys, xs = [.ref p] ∧ (SqL K H p ys ∨ SqT K H p ys) ∧ ∀ l, H l = none → Q (.ref l) (upd H l (.lst ys))) := by subst hK; exact call_list_of
theorem call_isinstK (hK : X.K = K := by rfl) : CallR X (.builtin "isinstance") (fun xs H Q => ∃ x c t cv b, xs = [x, c] ∧ TyOf K H x t ∧ cvV c = some cv ∧ PySem.W.kitOne K t cv = some b ∧ Q (.bl b) H) := by subst hK; exact call_isinst
theorem ix_listK (hK : X.K = K := by rfl) : IxR X (rIxL K) := by subst hK; exact ix_list
theorem pe_fldK {e : Expr} {f : Str} {pos : Pos} {ta : TE} (he : PE X e ta) (hb : attributeBase e f X.env (eval e X.env) = eval e X.env) (hK : X.K = K := by rfl) : PE X (.Attribute e f pos) (tFld K ta f) := by subst hK; exact pe_fld he hb
theorem ps_fldK {o value : Expr} {f : Str} {pos pos' : Pos} {ta tv : TE} (ha : PE X o ta) (hv : PE X value tv) (hs : swapsWith value (some (.Attribute o f pos')) pos.line X.env = pure false) (hK : X.K = K := by rfl) : PS X (.Assign [.Attribute o f pos'] value pos) (sFld K ta tv f) := by subst hK; exact ps_fld ha hv hs
theorem pe_bmK {o e : Expr} {es : List Expr} {to : TE} {t : TA} {name : Str} {apos cpos : Pos} {T id : String} {r : V → List V → Hp → VK → Prop} (pa : PlainAttrs T) (slot : Slot T name id) (hty : typeOf (.builtin id) = pure (.type "method_descriptor")) (hm : MtR X id r) (ho : PE X o to) (ha : PA X (e :: es) t)
    (hbase : attributeBase o name X.env (eval o X.env) = eval o X.env := by rfl) (hfew : ((backTo cpos (starEach (e :: es) X.env)).all (fun x => !x.1) && (backToKw cpos (keywordEach [] X.env)).all (fun x => x.1.isSome)
      && decide ((e :: es).length + ([] : List Keyword).length + (if ([] : List Keyword).isEmpty then 0 else 1) < 30)) = true := by rfl)
    (hline : (apos.endLine == cpos.line) = true := by rfl) (hs : starEach (e :: es) X.env = (false, eval e X.env) :: starEach es X.env := by rfl) (hplain : (backTo cpos (starEach es X.env)).any (·.1) = false := by rfl) (hK : X.K = K := by rfl) :
    PE X (.Call (.Attribute o name apos) (e :: es) [] cpos) (tBM K T r to t) := by subst hK; exact pe_bm pa slot hty hm ho ha hbase hfew hline hs hplain
theorem pi_listK {tg l : Expr} {tl : TE} (hl : PE X l tl) (hK : X.K = K := by rfl) : PI X tg l (iList K tl) := by subst hK; exact pi_list hl
theorem pi_enumK {es : List Expr} {kk : Nat} {p0 : Pos} {l : Expr} {ta : TA} {p pos : Pos} (hg : Gl X "enumerate") (hm : X.mg "enumerate" = none) (ha : PA X [l] ta) (hs : starEach [l] X.env = [(false, eval l X.env)] := by rfl) (hK : X.K = K := by rfl) : PI X (.Tuple es kk p0) (.Call (.Name "enumerate" p) [l] [] pos) (iEnum K ta) := by subst hK; exact pi_enum hg hm ha hs
theorem pg_tupK {pos : Pos} {es : List Expr} {k : Nat} {t : TGs} {n : Nat} (hc : X.calm = true) (h : PGs X es t) (hn : (assignEach es X.env).length = n := by rfl) (hst : (assignEach es X.env).findIdx? (·.1) = none := by rfl) (hK : X.K = K := by rfl) : PG X (.Tuple es k pos) (gTup K n t) := by subst hK; exact pg_tup hc h hn hst
theorem op_eqIK (hu : X.A.units + 64 < cLine) (hK : X.K = K := by rfl) : OpR X (compareOp .Eq) (fun x y H Q => ∃ (a b : Addr) (ns ms : List Int), x = .ref a ∧ y = .ref b ∧ SqL K H a (ns.map V.int) ∧ SqL K H b (ms.map V.int) ∧ Q (.bl (decide (ns = ms))) H) := by subst hK; exact op_eqI hu
theorem op_eqDK (hu : X.A.units + 64 < cLine) (hK : X.K = K := by rfl) : OpR X (compareOp .Eq) (fun x y H Q => ∃ d e, Dt K H x d ∧ Dt K H y e ∧ SeqAt.shaped d = true ∧ SeqAt.shaped e = true ∧ Q (.bl (PyData.eqv d e)) H) := by subst hK; exact op_eqD hu
end
end L2
namespace L2
open PySem PySem.Spec PyProof.Rows
/-- two ways meet: what holds of both -/
def tJoin (t : TS) : TS := fun D σ H => ∃ P : St → Hp → Prop, t { D with nx := P } σ H ∧ ∀ σ' H', P σ' H' → D.nx σ' H'
theorem ps_join {X : Cx} {st : Stmt} {t : TS} (h : PS X st t) : PS X st (tJoin t) := by
  intro pins s σ H D I hw
  obtain ⟨P, h1, h2⟩ := hw
  refine thn (h pins s σ H _ I h1) fun f s' q => ?_
  cases f with
  | next => obtain ⟨σ', H', I', q⟩ := q; exact ⟨σ', H', I', h2 σ' H' q⟩
  | brk => exact q
  | cont => exact q
  | ret v => exact q
theorem r_join {t : TS} {D : Ends} {σ : St} {H : Hp} (P : St → Hp → Prop) (h1 : t { D with nx := P } σ H) (h2 : ∀ σ' H', P σ' H' → D.nx σ' H') : tJoin t D σ H := ⟨P, h1, h2⟩
end L2
/-! ## The mirror: houses as plain data -/
namespace My
open PySem L2
def cellv (ns : List Int) (k : Int) : Int := if k < ns.length then ns.getD k.toNat 0 else 0
def stir1 (c k : Int) : Int := (c % 2147483647 + 977 * k + 1) * 48271 % 2147483647
def stir2 (s k : Int) : Int := (s + 40692 * (k + 3)) * 69621 % 2147483629
def draw (c k b : Int) : Int := stir2 (stir1 c k) k / 8 % b
theorem draw_nn (c k : Int) {b : Int} (h : 0 < b) : 0 ≤ draw c k b := Int.emod_nonneg _ (by omega)
theorem draw_lt (c k : Int) {b : Int} (h : 0 < b) : draw c k b < b := Int.emod_lt_of_pos _ h
def rowBy (c : Int) (d r : Int) (k : Nat) : List Int := (List.range d.toNat).map fun (j : Nat) => draw c (7 * (k : Int) + (j : Int)) r
def waysBy (c d r : Int) : List (List Int) := (List.range r.toNat).map (rowBy c d r)
def lampsBy (c r : Int) : List Bool := (List.range r.toNat).map fun (k : Nat) => decide (draw c (k : Int) 2 = 1)
structure Ways (d : Int) (rss : List (List Int)) : Prop where
  row : ∀ row ∈ rss, (row.length : Int) = d ∧ ∀ x ∈ row, 0 ≤ x ∧ x < rss.length
structure Valid (d : Int) (rss : List (List Int)) (ls : List Bool) : Prop extends Ways d rss where
  d1 : 1 ≤ d
  d6 : d ≤ 6
  r1 : 1 ≤ rss.length
  r400 : rss.length ≤ 400
  ll : ls.length = rss.length
theorem waysBy_len (c d r : Int) : (waysBy c d r).length = r.toNat := by simp [waysBy]
theorem waysBy_ok (c : Int) {d r : Int} (hd : 0 ≤ d) (hr : 0 < r) : Ways d (waysBy c d r) := by
  refine ⟨fun row hrow => ?_⟩
  unfold waysBy at hrow
  obtain ⟨k, hk, rfl⟩ := List.mem_map.mp hrow
  refine ⟨?_, fun x hx => ?_⟩
  · simp [rowBy]; omega
  · unfold rowBy at hx
    obtain ⟨j, hj, rfl⟩ := List.mem_map.mp hx
    have h1 := draw_nn c (7 * (k : Int) + (j : Int)) hr
    have h2 := draw_lt c (7 * (k : Int) + (j : Int)) hr
    rw [waysBy_len]
    exact ⟨h1, by omega⟩
theorem lampsBy_len (c r : Int) : (lampsBy c r).length = r.toNat := by simp [lampsBy]
theorem map_range_snoc {α : Type} (f : Nat → α) (i : Nat) : (List.range (i + 1)).map f = (List.range i).map f ++ [f i] := by
  rw [List.range_succ, List.map_append]; rfl
end My
/-! ## Exceptions of the text's own classes: raised, passed on, caught -/
namespace L2
open PySem PySem.Spec PyProof.Rows

theorem ObjOk.ex {P : Program} {w : World} {H : Hp} {h : Heap} {a : Addr} {o : HO} (x : ObjOk P w H h a o) : ∃ ob, h.get? a = some ob := by
  cases o with
  | lst xs => obtain ⟨_, _, _, _, e⟩ := x; exact ⟨_, e⟩
  | tup xs => obtain ⟨_, _, _, ob, e, _⟩ := x; exact ⟨_, e⟩
  | dK kvs => obtain ⟨_, _, _, _, o, _, _, e, _⟩ := x; exact ⟨_, e⟩
  | dT kvs => obtain ⟨_, _, _, _, o, _, _, e, _⟩ := x; exact ⟨_, e⟩
  | set S n => obtain ⟨o, _, _, _, e, _⟩ := x; exact ⟨_, e⟩
  | ins C dx fs => obtain ⟨_, _, _, e, _⟩ := x; exact ⟨_, e⟩
  | own y => exact x
  | xd fs => obtain ⟨_, ⟨_, _, _, e, _⟩, _⟩ := x; exact ⟨_, e⟩
  | rng lo hi => obtain ⟨_, _, _, e⟩ := x; exact ⟨_, e⟩
  | frz ob u => obtain ⟨e, _⟩ := x; exact ⟨_, e⟩
  | tbl ps => exact ⟨_, x⟩
  | met f y => exact ⟨_, x⟩
  | ext φ => exact x.2.1

/-- an exception that has left a def: it flies over B, which holds all that stood at the raise but the frames -/
def CXr (P : Program) (w : World) : CXT := fun outer H s E e s' => ∃ (ea : Addr) (cls a0 : Value) (B : Heap) (H' : Hp), e = .ref ea ∧ s'.os = s.os ∧ AllBare s'.gens ∧ Un (frs outer) [] H H' s.heap s'.heap ∧ HOk P w H' s'.heap ∧
  Heap.FlyingW B outer ea cls a0 s'.heap ∧ (∀ b o, s.heap.get? b = some o → b ∉ frs outer → ∃ o', B.get? b = some o') ∧ (∀ b u, H' b = some u → ∃ o', B.get? b = some o') ∧ E cls none H'
structure Xp (X : Cx) (E : XK) : Prop where
  pass : Passes (CXr X.prog X.w) X E
  own : PassesOwn (model X.prog X.w) X.A X.env X.xe
def Xm (X : Cx) (E : XK) : Prop := ∀ (pins : List (Addr × Obj)) (σ : St) (H : Hp) (s : Shared) (h' : Heap) (e : Addr) (cls : Value) (args : List Value), Inv X pins σ H s → Heap.MadeExcOf s.heap h' e cls args → E cls none H → X.xe (.ref e) { s with heap := h' }

theorem leave_un {X : Cx} {pins : List (Addr × Obj)} {σ : St} {H : Hp} {s1 : Shared} (I : Inv X pins σ H s1) (he : X.ex = []) {B h' : Heap} (b1 : B.StaysIn s1.heap) (b2 : B.StaysIn h')
    (sm : ∀ b o, s1.heap.get? b = some o → b ∈ X.fs → ∃ sl, h'.get? b = some { o with slots := sl }) (d1 : ∀ b o, X.s₀.heap.get? b = some o → b ∉ X.fs → ∃ o', B.get? b = some o') (d2 : ∀ b u, H b = some u → ∃ o', B.get? b = some o') :
    Un X.fs [] X.H₀ H X.s₀.heap h' ∧ HOk X.prog X.w H h' := by
  have same : ∀ b o, s1.heap.get? b = some o → (∃ o', B.get? b = some o') → h'.get? b = some o := fun b o e ⟨o', e'⟩ => by
    have z := b1 b o' e'
    rw [e] at z; cases z
    exact b2 b o e'
  have nx : ∀ b, b ∉ X.ex := fun b z => by rw [he] at z; cases z
  refine ⟨⟨fun b o q n hb _ => same b o (I.base.keep b o q n hb (nx b)) (d1 b o q hb), fun b o q n hb _ => ?_, fun b o q n _ => I.base.free b o q n (nx b), fun b o q _ => ?_, I.base.tups, I.base.frzs, I.base.tbls⟩, fun b u e => ?_⟩
  · obtain ⟨sl, e1⟩ := I.base.slot b o q n hb (nx b)
    obtain ⟨sl', e2⟩ := sm b _ e1 hb
    exact ⟨sl', e2⟩
  · obtain ⟨o1, e1⟩ := I.base.there b o q (nx b)
    by_cases hb : b ∈ X.fs
    · obtain ⟨sl, e2⟩ := sm b o1 e1 hb
      exact ⟨_, e2⟩
    · exact ⟨_, same b o1 e1 (d1 b o q hb)⟩
  · refine (I.hok b u e).stay (fun c v hc q => same c v q ?_) (fun _ q => q) fun _ _ q => q
    rcases hc with z | z
    · rw [z]; exact d2 b u e
    · exact d2 c _ z

theorem Inv.offStack {X : Cx} {pins : List (Addr × Obj)} {σ : St} {H : Hp} {s : Shared} (I : Inv X pins σ H s) {b : Addr} {o : Obj} (q : X.s₀.heap.get? b = some o) (hb : b ∉ X.fs) : b ∉ frs X.stack := fun z => by
  rcases List.mem_cons.mp (I.stkSub b z) with z | z
  · rw [z] at q
    exact absurd (Nat.lt_of_lt_of_le (Heap.lt_size q) I.ok.above) (Nat.lt_irrefl _)
  · exact hb z
theorem Inv.nonrec {X : Cx} {pins : List (Addr × Obj)} {σ : St} {H : Hp} {s : Shared} (I : Inv X pins σ H s) {b : Addr} {o : Obj} (q : s.heap.get? b = some o) (hb : b ∈ X.fs) : ∀ vs, o.data ≠ .fields vs := by
  obtain ⟨_, o', e, hd⟩ := I.funs.mem hb
  rw [q] at e; cases e; exact hd

section
variable {P : Program} {w : World} {K : PySem.W.Frag} {mg : Str → Option Value} {base : Heap} {N : List Str} {qual : Str} {scope : Scope} {f : Addr} {cd : Value} {A : Around} {outer : List Env} {s : Shared} {H : Hp} {E : XK}
theorem xp_def : Xp (cxOf (CXr P w) P w K mg base N qual scope f cd A outer s H E) E where
  own := PassesOwn.leaving
  pass := by
    intro pins σ H1 s1 e s' I h
    obtain ⟨ea, cls, a0, B, H', rfl, ho, hg, u, hok, fl, dm, tr, hE⟩ := h
    have I' := I.call' ho u hok hg (fun b hb => by cases hb)
    refine wpAny_leaves_onW I.ok.frames rfl fl fun h' fl' sm => ?_
    obtain ⟨un, hk⟩ := leave_un I' rfl fl.1 fl'.1 (fun b o q hb => sm b o q (I'.nonrec q hb)) (fun b o q hb => by
      obtain ⟨o1, e1⟩ := I.base.there b o q (fun z => by cases z)
      exact dm b o1 e1 (I.offStack q hb)) tr
    exact ⟨ea, cls, a0, B, H', rfl, I'.os, hg, un, hk, fl', fun b o q hb => by
      obtain ⟨o1, e1⟩ := I.base.there b o q (fun z => by cases z)
      exact dm b o1 e1 (I.offStack q hb), tr, hE⟩
theorem xm_def : Xm (cxOf (CXr P w) P w K mg base N qual scope f cd A outer s H E) E := by
  intro pins σ H1 s1 h' e cls args I mx hE
  have hkb : (PySem.W.hideAll s1.heap (frs (cxOf (CXr P w) P w K mg base N qual scope f cd A outer s H E).stack)).StaysIn s1.heap := fun b o q => PySem.W.of_hideAll _ q
  have dm : ∀ b o, (cxOf (CXr P w) P w K mg base N qual scope f cd A outer s H E).s₀.heap.get? b = some o → b ∉ (cxOf (CXr P w) P w K mg base N qual scope f cd A outer s H E).fs → ∃ o', (PySem.W.hideAll s1.heap (frs (cxOf (CXr P w) P w K mg base N qual scope f cd A outer s H E).stack)).get? b = some o' := fun b o q hb => by
    obtain ⟨o1, e1⟩ := I.base.there b o q (fun z => by cases z)
    exact ⟨o1, PySem.W.hideAll_get _ e1 (I.offStack q hb)⟩
  have tr : ∀ b u, H1 b = some u → ∃ o', (PySem.W.hideAll s1.heap (frs (cxOf (CXr P w) P w K mg base N qual scope f cd A outer s H E).stack)).get? b = some o' := fun b u q => by
    obtain ⟨o1, e1⟩ := (I.hok b u q).ex
    exact ⟨o1, PySem.W.hideAll_get _ e1 (fun z => by rw [I.stkFree b z] at q; cases q)⟩
  refine wpAny_leaves_madeW I.ok.frames rfl hkb (PySem.W.funFrames_hide I.stack fun env he a ha => List.mem_filterMap.mpr ⟨env, he, ha⟩) mx fun h2 t fl tup hn sm => ?_
  obtain ⟨un, hk⟩ := leave_un I rfl hkb fl.1 (fun b o q hb => sm b o (mx.keeps b o q) (I.nonrec q hb)) dm tr
  exact ⟨e, cls, .ref t, _, H1, rfl, I.os, I.bare, un, hk, fl, dm, tr, hE⟩
end

/-- THE RULE for a def that may raise -/
theorem Fun.okX {P : Program} {w : World} {K : PySem.W.Frag} {mg : Str → Option Value} {base : Heap} {x qual : Str} {st : Stmt} {f : Addr} {fd : FuncData} {N ps : List Str} {k : Nat} {sp : Sp} (F : Fun K x qual st f fd) (S : FnScope N ps (defScope st)) (len : ∀ vs H Q E, sp vs H Q E → vs.length = ps.length)
    (hbody : ∀ (cdv : Value) (A : Around) (outer : List Env) (s : Shared) (H : Hp) (vs : List V) (Q : VK) (E : XK), Room k (A.deeper (envOfC qual (defScope st) s.heap.objs.size f cdv)) → sp vs H Q E →
      ∃ t, PSs (cxOf (CXr P w) P w K mg base N qual (defScope st) f cdv A outer s H E) (defBody st) t ∧ t { nx := fun _ H' => Q .non H', rt := Q } (start N vs) H) :
    FnOk P w K mg base (CXr P w) (k + 1) f fd ps sp := by
  obtain ⟨oc, od, kV, doc, pm, an, cdv, ct, osl, rfl, lk, hcd⟩ := F.ex
  exact fn_of lk hcd S len fun A outer s H vs Q E hr h => hbody cdv A outer s H vs Q E hr h

/-! ### raise -/
abbrev bmV : List Value := [.type "ValueError", .type "Exception", .type "BaseException", .type "object"]
structure ExcCls (K : PySem.W.Frag) (x : Str) (C : Addr) : Prop where
  at_ : PySem.W.nsIn K mainGlobals x = some (some (.ref C))
  exc : PySem.W.excIn K C bmV "ValueError.__new__" = true
def keyStr (e : DictEntry) : Option Str := match e.key with
  | .str n _ => some n
  | _ => none
theorem nsFind_none {es : Array DictEntry} (hk : StrKeys es) {x : Str} (h : x ∉ es.toList.filterMap keyStr) : nsFind es x = none := by
  cases e : nsFind es x with
  | none => rfl
  | some v =>
    exfalso
    unfold nsFind findBy at e
    rw [Option.map_eq_some_iff] at e
    obtain ⟨d, hd, _⟩ := e
    have hm := Array.mem_of_find?_eq_some hd
    have hp := Array.find?_some hd
    obtain ⟨n, t, hn⟩ := hk d hm
    refine h (List.mem_filterMap.mpr ⟨d, by simpa using hm, ?_⟩)
    unfold keyStr
    rw [hn] at hp ⊢
    have hp : (Value.str n t).isStr x = true := hp
    simp [Value.isStr] at hp
    simp [hp]
theorem own_mod {K : PySem.W.Frag} {mg : Str → Option Value} {base : Heap} {x : Str} {C : Addr} (M : Mod K mg base) (O : ExcCls K x C) : OwnCls x C bmV "ValueError.__new__" mg base := by
  obtain ⟨mb, hb, hbb⟩ := M.blt
  obtain ⟨o, es, ep, ho, hd, hk, hf⟩ := id M.glob
  exact PySem.W.own_of_in (p := default) (loose := es.toList.filterMap keyStr) M.kin ⟨M.glob, hb, M.nolimit, hbb, fun y _ hl _ _ _ => by rw [← hf y]; exact nsFind_none hk hl⟩ O.at_ O.exc

def tRaise (E : XK) (C : Addr) (ta : TA) : TS := fun _ σ H => ta σ H fun vs H1 => vs.length ≤ sizeLine ∧ E (.ref C) none H1
theorem ps_raise {X : Cx} {E : XK} {x : Str} {C : Addr} {e : Expr} {es : List Expr} {ta : TA} {np cpos pos : Pos} (xm : Xm X E) (hc : X.calm = true) (hg : Gl X x) (hm : X.mg x = some (.ref C)) (O : ExcCls X.K x C) (ha : PA X (e :: es) ta)
    (hd : (x == ("__debug__" : Str)) = false := by decide) (he : starEach (e :: es) X.env = (false, eval e X.env) :: starEach es X.env := by rfl) (hpl : (backTo cpos (starEach es X.env)).any (·.1) = false := by rfl) :
    PS X (.Raise (some (.Call (.Name x np) (e :: es) [] cpos)) none pos) (tRaise E C ta) := by
  intro pins s σ H D I h
  obtain ⟨tl, Nn, nm, q, bs, hdct, sn, sub, ab, col, dd, k0, k1, k2, k3, k5, mN, hC, hN, hni, T⟩ := (own_mod I.mod O).obj
  refine wpAny_Raise_call_subT (C := C) (nm := nm) (q := q) (N := Nn) (bs := bs) (bm := tl) (hdct := hdct) (sn := sn) (sub := sub) (ab := ab) (col := col) (dd := dd) (k0 := k0) (k1 := k1) (k2 := k2) (k3 := k3) (k5 := k5)
    PySem.F.excBase_ValueError (mN := mN) (T.hasType PySem.F.excBase_ValueError.hasBase) (I.ok.hd hc) (by rw [he]; show (false || (backTo cpos (starEach es X.env)).any (·.1)) = false; rw [hpl]; rfl) hni (ld_glob I hg hm ⟨rfl, ?_⟩ hd)
  have hA := ha cpos pins s σ H _ I h
  rw [he] at hA ⊢
  refine Calls.evalArgs_plain (thn hA fun us s2 hh => ?_)
  obtain ⟨vs, H2, I2, rv, hl, hE⟩ := hh
  exact ⟨rfl, by rw [← rv.length]; exact hl, I2.bk _ _ hC, hN.keeps I2.bk, T.keeps I2.bk, fun h' ea mx => xm pins σ H2 s2 h' ea _ _ I2 mx hE⟩

/-! ### f-strings of written texts and small ints: some text -/
def PJ (X : Cx) (es : List Expr) (t : St → Hp → (Hp → Prop) → Prop) : Prop :=
  ∀ (out : Str) (pins : List (Addr × Obj)) (s : Shared) (σ : St) (H : Hp) (Q : VK), out.length + 1000 * es.length + 1 ≤ sizeLine → Inv X pins σ H s → t σ H (fun H' => ∀ x, Q (.str x) H') → wpAny (model X.prog X.w) X.A (joinParts out (evalEach es X.env)) (EP X pins σ Q) X.xe s
def jNil : St → Hp → (Hp → Prop) → Prop := fun _ H Q => Q H
def jStr (t : St → Hp → (Hp → Prop) → Prop) : St → Hp → (Hp → Prop) → Prop := t
def jInt (te : TE) (t : St → Hp → (Hp → Prop) → Prop) : St → Hp → (Hp → Prop) → Prop := fun σ H Q => te σ H fun x H1 => ∃ i : Int, x = .int i ∧ i.natAbs.log2 < 64 ∧ t σ H1 Q
def tJoined (t : St → Hp → (Hp → Prop) → Prop) : TE := fun σ H Q => t σ H fun H' => ∀ x, Q (.str x) H'
section
variable {X : Cx} {e : Expr} {es : List Expr} {te : TE} {t : St → Hp → (Hp → Prop) → Prop} {pos p1 p2 : Pos} {c : Str} {k : Nat}
theorem pj_nil : PJ X [] jNil := fun out pins s σ H Q hz I h => joinParts_nil ⟨.str out, H, I.tok _, ⟨_, rfl⟩, h out⟩ (by omega)
theorem pj_str (hr : PJ X es t) (hc : c.length ≤ 1000 := by decide) : PJ X (.Constant (.str c) k pos :: es) (jStr t) := by
  intro out pins s σ H Q hz I h
  refine joinParts_cons (Calls.Constant_str ?_)
  rw [List.length_cons] at hz
  have hl : (out ++ c).length = out.length + c.length := strLen_append ..
  exact ⟨by rw [hl]; omega, hr (out ++ c) pins _ σ H Q (by rw [hl]; omega) (I.tok _) h⟩
theorem pj_int (he : PE X e te) (hr : PJ X es t) : PJ X (.FormattedValue e (-1) none pos :: es) (jInt te t) := by
  intro out pins s σ H Q hz I h
  refine joinParts_cons (FormattedValue_plain (thn (he pins s σ H _ I h) fun v s1 hh => ?_))
  obtain ⟨x, H1, I1, r, i, rfl, hi, h1⟩ := hh
  obtain ⟨tk, rfl⟩ := r
  rw [List.length_cons] at hz
  refine formatField_int_small (Nat.lt_trans hi (by decide)) ?_
  have hl : (out ++ (Str.ofString (toString i))).length = out.length + (Str.ofString (toString i)).length := strLen_append ..
  have h2 := int_text_length_le (a := i) (k := 64) (by decide) hi
  have h3 : (Str.ofString (toString i)).length = (toString i).length := PySem.ofString_length _
  exact ⟨by rw [show (out ++ (toString i : Str)).length = _ from hl, h3]; omega, hr _ pins _ σ H1 Q (by rw [show (out ++ (toString i : Str)).length = _ from hl, h3]; omega) (I1.tok _) h1⟩
theorem pe_joined {v₁ v₂ : Expr} (h : PJ X (v₁ :: v₂ :: es) t) (hz : 1000 * (es.length + 2) + 1 ≤ sizeLine := by decide) : PE X (.JoinedStr (v₁ :: v₂ :: es) pos) (tJoined t) := by
  intro pins s σ H Q I hw
  exact JoinedStr_many (h Str.empty pins s σ H Q (by show 0 + 1000 * (es.length + 1 + 1) + 1 ≤ sizeLine; omega) I hw)
end
end L2
namespace L2
open PySem PySem.W PySem.Spec PyProof.Rows PySem.Calls
section
variable {prog : Program} {w : World} {A : Around} {E : Value → Shared → Prop} {h : Heap} {g : Array GenState} {d : Drawn} {t : Nat} {os : OsState} {a C : Addr} {o : Obj} {K : Frag}
  {nm q : Str} {N : Addr} {bs bm : List Value} {hdct : Bool} {sn : List Str} {sub : List Value} {ab : Bool} {col : Option Bool} {dd : Option Addr} {k0 k1 k2 k3 k5 : Option Value} {newId : String}
theorem xc_get {R : Result → Shared → Prop} {tp : Value} (hC : h.get? C = some (excClassObj nm q C N bs bm hdct sn sub ab col dd k0 k1 k2 k3 k5 newId)) (T : OwnTail h bmV bm) (hx : h.get? a = some o) (hc : o.cls = .ref C) (hq : R (.ok (.ret (.ref C))) ⟨h, g, d, t, os⟩) :
    codeAny (model prog w) A (.call (.builtin "getset_descriptor.__get__") ⟨[.builtin "object.__class__", .ref a, tp], []⟩) R ⟨h, g, d, t, os⟩ := by
  have ofObj : (Value.ref C :: bm).contains (.type (".".intercalate ("object.__class__".cutAt '.').dropLast)) = true := by
    rw [F.owner_object_class, List.contains_cons, T.hasType (b := true) (by decide +kernel)]; rfl
  have hT5 : (⟨h, g, d, t, os⟩ : Shared).TypeIs (.builtin "object.__class__") "getset_descriptor" := F.typeOf_object_class
  refine codeAny_call_builtin F.slot_gs_get.plain
    F.entry_gs_get (F.slot_gs_get.check _ _ _ _ _ _ _ _ hT5
      (F.args_gs_get _ _ _) ?_)
  repeat (any_goals (first | assumption | (with_reducible refine wpAny_loadPart_at hx ?_; rw [hc]) | (with_reducible refine wpAny_isSubtype_exc hC ?_; rw [ofObj]) | wp_step))
  refine ⟨Code.quiet_builtin _ (by decide +kernel), codeAny_builtin
    F.entry_object_class ?_⟩
  repeat (any_goals (first | assumption | (with_reducible refine wpAny_loadPart_at hx ?_; rw [hc]) | wp_step))
theorem xc_entry {tk : Tok} {Q : Fin → Shared → Prop} (X : K.In h) (e3 : findIn K (.ref C) "__class__" = some (some (.builtin "object.__class__"))) (hC : h.get? C = some (excClassObj nm q C N bs bm hdct sn sub ab col dd k0 k1 k2 k3 k5 newId)) (T : OwnTail h bmV bm) (hx : h.get? a = some o) (hc : o.cls = .ref C)
    (hq : Q (.done (.ret (.ref C))) ⟨h, g, d, t, os⟩) :
    wpAny (model prog w) A (Builtin.«object.__getattribute__» ⟨[.ref a, .str "__class__" tk], []⟩) Q E ⟨h, g, d, t, os⟩ := by
  have hT5 : (⟨h, g, d, t, os⟩ : Shared).TypeIs (.builtin "object.__class__") "getset_descriptor" := F.typeOf_object_class
  have f5 := F.typeOf_object_class
  have f6 := F.slot_gs_get.lookup
  have f7 := F.slot_gs_set.lookup
  have LC := looks_findIn (M := model prog w) X e3
  repeat (any_goals (first | assumption | (with_reducible refine wpAny_loadPart_at hx ?_; rw [hc]) | with_reducible refine Looks.at LC ?_ | wp_step))
  refine xc_get hC T hx hc ?_
  repeat (any_goals (first | assumption | wp_step))
theorem xc_check {M : Model} {nv : Value} {Q : Unit → Shared → Prop} (hC : h.get? C = some (excClassObj nm q C N bs bm hdct sn sub ab col dd k0 k1 k2 k3 k5 newId)) (T : OwnTail h bmV bm) (hx : h.get? a = some o) (hc : o.cls = .ref C)
    (hq : Q () ⟨h, g, d, t, os⟩) : wpAny M A (checkBuiltinCall "BaseException.__getattribute__" ⟨[.ref a, nv], []⟩) Q E ⟨h, g, d, t, os⟩ := by
  have kd : builtinKind "BaseException.__getattribute__" = some .slot := by decide +kernel
  have sp : splitId "BaseException.__getattribute__" = some ("BaseException", "__getattribute__") := by decide +kernel
  have isB : (Value.ref C :: bm).contains (.type "BaseException") = true := by
    rw [List.contains_cons, T.hasType (b := true) (by decide +kernel)]; rfl
  have ok := F.args_bexc_ga (.ref a) nv
  simp only [checkBuiltinCall, kd, sp]
  refine wpAny_bind ?_
  unfold isInstance
  repeat (first | (with_reducible refine wpAny_loadPart_at hx ?_; rw [hc]) | (with_reducible refine wpAny_isSubtype_exc hC ?_; rw [isB]) | wp_step)
  exact hq
theorem xc_by {tk : Tok} {Q : Value → Shared → Prop} (X : K.In h) (e1 : findIn K (.ref C) "__getattribute__" = some (some (.builtin "BaseException.__getattribute__"))) (e2 : findIn K (.ref C) "__getattr__" = some none)
    (e3 : findIn K (.ref C) "__class__" = some (some (.builtin "object.__class__"))) (hC : h.get? C = some (excClassObj nm q C N bs bm hdct sn sub ab col dd k0 k1 k2 k3 k5 newId)) (T : OwnTail h bmV bm) (hx : h.get? a = some o) (hc : o.cls = .ref C)
    (hq : Q (.ref C) ⟨h, g, d, t, os⟩) : wpAny (model prog w) A (getAttrBy (.ref a) (.str "__class__" tk) false) Q E ⟨h, g, d, t, os⟩ := by
  have LG := looks_findIn (M := model prog w) X e1
  have LN := looks_findIn (M := model prog w) X e2
  have f3 := PySem.F.attr_ValueError.ga.bind (.ref a)
  have nh : (onTheHeap (Value.ref C) && Value.builtin "BaseException.__getattribute__" == Value.builtin "object.__getattribute__") = false := by
    rw [show (Value.builtin "BaseException.__getattribute__" == Value.builtin "object.__getattribute__") = false from by decide +kernel, Bool.and_false]
  repeat (any_goals (first | assumption | (with_reducible refine wpAny_loadPart_at hx ?_; rw [hc]) | with_reducible refine Looks.at LG ?_ | with_reducible refine Looks.at LN ?_ | wp_step))
  refine codeAny_call_builtin PySem.F.attr_ValueError.ga.plain F.entry_bexc_ga (xc_check hC T hx hc (xc_entry X e3 hC T hx hc ?_))
  repeat (any_goals (first | assumption | wp_step))
theorem xc_attr {Q : Option Value → Shared → Prop} (X : K.In h) (e1 : findIn K (.ref C) "__getattribute__" = some (some (.builtin "BaseException.__getattribute__"))) (e2 : findIn K (.ref C) "__getattr__" = some none)
    (e3 : findIn K (.ref C) "__class__" = some (some (.builtin "object.__class__"))) (hC : h.get? C = some (excClassObj nm q C N bs bm hdct sn sub ab col dd k0 k1 k2 k3 k5 newId)) (T : OwnTail h bmV bm) (hx : h.get? a = some o) (hc : o.cls = .ref C)
    (hq : Q (some (.ref C)) ⟨h, g, d, t + 1, os⟩) : wpAny (model prog w) A (getAttr? (.ref a) "__class__") Q E ⟨h, g, d, t, os⟩ := by
  unfold getAttr? getAttrBy?
  repeat (any_goals (first | assumption | with_reducible apply xc_by X e1 e2 e3 hC T hx hc | wp_step))
end
/-- what the written part tells of an error class of the text's own -/
structure ExcK (K : Frag) (x : Str) (C : Addr) : Prop extends ExcCls K x C where
  e1 : findIn K (.ref C) "__getattribute__" = some (some (.builtin "BaseException.__getattribute__"))
  e2 : findIn K (.ref C) "__getattr__" = some none
  e3 : findIn K (.ref C) "__class__" = some (some (.builtin "object.__class__"))
  e4 : (clsIn K C).isSome = true
def ExcAt (ea C : Addr) : Heap → Prop := fun h => ∃ o vs, h.get? ea = some o ∧ o.cls = .ref C ∧ o.data = .fields vs
theorem kitx_exc {K : Frag} {mg : Str → Option Value} {base : Heap} {x : Str} {C ea : Addr} (M : Mod K mg base) (O : ExcK K x C) :
    KitX K (.ref ea) (.ref C) (fun h => ExcAt ea C h ∧ ∀ b o, base.get? b = some o → h.get? b = some o) where
  ty := fun _ h _ p => by
    obtain ⟨⟨o, vs, hx, hc, _⟩, _⟩ := p
    exact hc ▸ (Looks.ld hx).andThen .now
  it := fun _ h X _ => by
    have e := O.e4
    unfold clsIn at e
    split at e
    · rename_i c' d' cd' sl' ho
      intro A' Q' E' s' k q
      unfold isType loadHead
      exact wpAny_bind (wpAny_loadPart (k _ _ (X _ _ ho)) (wpAny_pure q))
    · cases e
  ne := fun h tp dd its n sl X htp => by
    refine Bool.eq_false_iff.mpr fun q => ?_
    have e := O.e4
    have z : C = tp := Value.ref.inj (beq_iff_eq.mp q)
    subst z
    unfold clsIn at e
    split at e
    · rename_i c' d' cd' sl' ho
      have z := (X _ _ ho).symm.trans htp
      cases z
    · cases e
  ca := fun {prog w A E Q s} X p k => by
    obtain ⟨hp, g, d, t, os⟩ := s
    obtain ⟨⟨o, vs, hx, hc, _⟩, kp⟩ := p
    obtain ⟨tl, Nn, nm, q, bs, hdct, sn, sub, ab, col, dd, k0, k1, k2, k3, k5, mN, hC, hN, hni, T⟩ := ((own_mod M O.toExcCls).keeps kp).obj
    exact xc_attr X O.e1 O.e2 O.e3 hC T hx hc k
end L2
namespace L2
open PySem PySem.Spec PyProof.Rows
structure RoomH (k : Nat) (A : Around) : Prop where
  dp : A.depth + 3 * k + 5 < recursionLimit
  un : A.units + 16 * k + 200 < cLine
theorem RoomH.deeper {k : Nat} {A : Around} (r : RoomH (k + 1) A) (env : Env) : RoomH k (A.deeper env) :=
  ⟨by have := r.dp; show A.depth + 1 + 3 * k + 5 < _; omega, by have := r.un; show A.units + 3 + 16 * k + 200 < _; omega⟩
theorem RoomH.depth {k : Nat} {A : Around} (r : RoomH k A) : A.depth < recursionLimit := by have := r.dp; omega
structure FnOkH (P : Program) (w : World) (K : PySem.W.Frag) (mg : Str → Option Value) (base : Heap) (CX : CXT) (k : Nat) (f : Addr) (fd : FuncData) (ps : List Str) (sp : Sp) : Prop where
  len : ∀ vs H Q E, sp vs H Q E → vs.length = ps.length
  run : ∀ (A : Around) (outer : List Env) (s : Shared) (H : Hp) (args : Args) (us : List Value) (vs : List V) (Q : VK) (E : XK), RoomH k A → Env0 P w K mg base A outer s H → BindsTo s fd args (ps.zip us) → Vals vs us → sp vs H Q E →
    codeAny (model P w) A (.call (.ref f) args) (CR CX outer P w H s Q E) s
section
variable {X : Cx} {CX : CXT} {k : Nat} {f C : Addr} {fd : FuncData} {ps : List Str} {sp : Sp} {dvs : List V} {ds : List Value} {E : XK} {x m : Str} {p pos apos : Pos} {e o : Expr} {es : List Expr} {ta : TE} {t : TA}
theorem run_fnH {pins : List (Addr × Obj)} {σ : St} {H : Hp} {s : Shared} {Q : VK} {us : List Value} {vs : List V} (F : FnOkH X.prog X.w X.K X.mg X.base CX k f fd ps sp) (hr : RoomH k X.A) (hb : Binds X.K fd ps ds) (hd : Vals dvs ds) (hx : Passes CX X E)
    (I : Inv X pins σ H s) (r : Vals vs us) (h : sp (vs ++ dvs) H Q E) : wpAny (model X.prog X.w) X.A (call (.ref f) us) (EP X pins σ Q) X.xe s := by
  have r2 : Vals (vs ++ dvs) (us ++ ds) := r.append hd
  have hl : (us ++ ds).length = ps.length := by rw [← r2.length]; exact F.len _ _ _ _ h
  refine wpAny_call (codeAny_mono (F.run X.A X.stack s H ⟨us, []⟩ (us ++ ds) (vs ++ dvs) Q E hr I.env0 (hb s us I.kIn hl) r2 h) fun r s' hq => ?_)
  cases r with
  | error e => exact hx pins σ H s e s' I hq
  | ok fl =>
    cases fl with
    | ret u => exact I.after hq
    | next => exact False.elim hq
    | brk => exact False.elim hq
    | cont => exact False.elim hq
theorem pe_callH (F : FnOkH X.prog X.w X.K X.mg X.base CX k f fd ps sp) (hr : RoomH k X.A) (hg : Gl X x) (hm : X.mg x = some (.ref f)) (hk : PySem.W.keepIn X.K (.ref f) = true) (hb : Binds X.K fd ps ds) (hd : Vals dvs ds) (hx : Passes CX X E)
    (ha : PA X (e :: es) t) (hdb : (x == ("__debug__" : Str)) = false := by decide) (he : starEach (e :: es) X.env = (false, eval e X.env) :: starEach es X.env := by rfl) (hpl : (backTo pos (starEach es X.env)).any (·.1) = false := by rfl) :
    PE X (.Call (.Name x p) (e :: es) [] pos) (tCall sp dvs E t) := by
  intro pins s σ H Q I h
  refine wpAny_Call_Name_kw (ld_glob I hg hm ?_ hdb)
  refine PySem.W.callWith_K (h₀ := X.base) I.ok.mod.kin hk (thn (ha pos pins s σ H _ I h) fun us s1 ⟨vs, H1, I1, r, q⟩ => ⟨I1.kIn, ?_⟩) he hpl
  exact run_fnH F hr hb hd hx I1 r q
end
def cxOfH (CX : CXT) (P : Program) (w : World) (K : PySem.W.Frag) (mg : Str → Option Value) (base : Heap) (N : List Str) (qual : Str) (scope : Scope) (f : Addr) (cd : Value) (A : Around) (outer : List Env) (s : Shared) (H : Hp) (E : XK) : Cx where
  prog := P
  w := w
  K := K
  mg := mg
  base := base
  A := A.deeper (envOfC qual scope s.heap.objs.size f cd)
  N := N
  s₀ := s
  H₀ := H
  env := envOfC qual scope s.heap.objs.size f cd
  outer := outer
  stack := envOfC qual scope s.heap.objs.size f cd :: outer
  ex := []
  calm := false
  fn := fun _ => true
  pn := []
  xe := fun e s' => wpAny (model P w) (A.deeper (envOfC qual scope s.heap.objs.size f cd)) (leaving (envOfC qual scope s.heap.objs.size f cd) e) (fun _ s'' => CX outer H s E e s'') (fun e' s'' => CX outer H s E e' s'') s'
theorem inv_startH {CX : CXT} {P : Program} {w : World} {K : PySem.W.Frag} {mg : Str → Option Value} {base : Heap} {N ps : List Str} {qual : Str} {scope : Scope} {f : Addr} {cd : Value} {A : Around} {outer : List Env} {s s1 : Shared} {H : Hp} {E : XK} {us : List Value} {vs : List V}
    (S : FnScope N ps scope) (e0 : Env0 P w K mg base A outer s H) (hl : vs.length = ps.length) (r : Vals vs us)
    (x : InCallC s s.heap.objs.size (bindL (envOfC qual scope s.heap.objs.size f cd).kindOf (ps.zip us) fun _ => none) (cellsFrom (s.heap.objs.size + 1) scope.names []) (bindC (envOfC qual scope s.heap.objs.size f cd).kindOf (ps.zip us) fun _ => none) s1) :
    Inv (cxOfH CX P w K mg base N qual scope f cd A outer s H E) [] (start N vs) H s1 := by
  have hpl : ps.length ≤ N.length := by have := congrArg List.length S.pre; rw [List.length_take] at this; omega
  obtain ⟨h1, tk, rfl, hk⟩ := x.done
  have noA : ∀ b : Addr, b ∉ (cxOfH CX P w K mg base N qual scope f cd A outer s H E).ex := fun b z => absurd (show b ∈ ([] : List Addr) from z) (by simp)
  refine ⟨⟨e0.mod, S.kind, rfl, rfl, Nat.le_refl _, fun y z c h1 h2 => ?_, fun y hy => ?_, fun y c _ h => ?_, fun z => (by cases z), Around.frames_deeper e0.frames, .inr ⟨rfl, rfl⟩, fun b z => absurd z (noA b), e0.bs, e0.bsz, fun b _ _ => noA b, fun b z => absurd z (noA b), e0.funs, e0.frf⟩,
    rfl, e0.bare, Un.kept hk, ⟨_, x.toInCall.ns, fun i y v h1 h2 h3 => ?_⟩, fun y c h => ⟨_, x.cell y c h⟩, e0.hok.fresh (Nat.le_refl _), fun y c h => ?_, fun p hp => absurd (show p ∈ ([] : List (Addr × Obj)) from hp) (by simp), e0.hok.kept hk, ?_⟩
  · exact name_of_addr x.apart (PySem.mem_of_lookup h1) (PySem.mem_of_lookup h2)
  · have hy : scope.names.lookup y = some .cell ∨ scope.names.lookup y = some .free := hy
    rcases hy with hy | hy
    · exact cell_has hy
    · exact absurd rfl (S.nofree _ (PySem.mem_of_lookup hy))
  · exact Nat.le_of_lt (x.above y c (PySem.mem_of_lookup h))
  · have hi : i < vs.length := by
      unfold start at h2
      by_cases hi : i < vs.length
      · exact hi
      · rw [List.getElem?_append_right (by simpa using hi)] at h2
        rw [List.getElem?_replicate] at h2
        split at h2 <;> cases h2
    have ha : vs[i]? = some v := by
      unfold start at h2
      rw [List.getElem?_append_left (by simpa using hi), List.getElem?_map] at h2
      cases e : vs[i]? with
      | none => rw [e] at h2; cases h2
      | some a => rw [e] at h2; cases h2; rfl
    obtain ⟨u, hu, rv⟩ := r.get ha
    have hp : ps[i]? = some y := by
      rw [← S.pre, List.getElem?_take_of_lt (by omega)]; exact h1
    have ndP : ps.Nodup := by rw [← S.pre]; exact S.nd.sublist (List.take_sublist _ _)
    refine ⟨u, rv, ?_⟩
    rcases S.par y (List.mem_of_getElem? hp) with k | k
    · exact .inl ⟨k, bindL_get ndP hp hu k⟩
    · obtain ⟨c, e⟩ := cell_has (n := s.heap.objs.size + 1) k
      refine .inr ⟨.inl k, c, e, ?_⟩
      have q := x.cell y c e
      rw [bindC_get ndP hp hu (by show scope.names.lookup y ≠ _; rw [k]; decide)] at q
      exact q
  · exact e0.hok.fresh (Nat.le_of_lt (x.above y c (PySem.mem_of_lookup h)))
  · unfold start
    show _ = N.length
    rw [List.length_append, List.length_map, List.length_replicate]
    omega
theorem fn_ofH {CX : CXT} {P : Program} {w : World} {K : PySem.W.Frag} {mg : Str → Option Value} {base : Heap} {k : Nat} {f : Addr} {name qual : Str} {params : Arguments} {body : List Stmt} {scope : Scope} {dV kV doc pm cdv ct oc : Value} {an od : Option Addr}
    {osl : Array (Option Value)} {N ps : List Str} {sp : Sp} (lk : K.lookup f = some ⟨oc, od, .func (PySem.W.fnOf name qual params body scope dV kV doc pm an cdv ct), osl⟩) (hcd : PySem.W.codeIn K cdv qual = true) (S : FnScope N ps scope)
    (len : ∀ vs H Q E, sp vs H Q E → vs.length = ps.length)
    (hbody : ∀ (A : Around) (outer : List Env) (s : Shared) (H : Hp) (vs : List V) (Q : VK) (E : XK), RoomH k (A.deeper (envOfC qual scope s.heap.objs.size f cdv)) → sp vs H Q E →
      ∃ t, PSs (cxOfH CX P w K mg base N qual scope f cdv A outer s H E) body t ∧ t { nx := fun _ H' => Q .non H', rt := Q } (start N vs) H) :
    FnOkH P w K mg base CX (k + 1) f (PySem.W.fnOf name qual params body scope dV kV doc pm an cdv ct) ps sp := by
  refine ⟨len, fun A outer s H args us vs Q E hr e0 hb r hsp => ?_⟩
  have hl := len _ _ _ _ hsp
  have KX : K.In s.heap := e0.mod.kin.keeps fun b o e => (e0.bs b o e).1
  have lim : s.heap.NoLimit := e0.mod.nolimit.keeps fun b o e => (e0.bs b o e).1
  have hkind : ∀ y ∈ ps.zip us, scope.names.lookup y.1 = some .local ∨ (scope.names.lookup y.1 = some .cell ∧ ((cellsFrom (s.heap.objs.size + 1) scope.names []).lookup y.1).isSome = true) := fun ⟨n, v⟩ hy => by
    rcases S.par n (List.of_mem_zip hy).1 with q | q
    · exact .inl q
    · exact .inr ⟨q, PySem.W.cellsFrom_some _ _ _ (.inl q)⟩
  refine codeAny_call_function hr.depth (KX _ _ lk) rfl S.co S.gen rfl (PySem.W.codeRec_of KX hcd) (hb _ _ _ _ ?_)
  refine wpAny_newFunctionEnv_cells S.kind hkind fun env he s1 x => ?_
  subst he
  refine ⟨lim.keeps x.toInCall.keep, codeAny_func ?_⟩
  obtain ⟨t, ht, hq⟩ := hbody A outer s H vs Q E (hr.deeper _) hsp
  have I : Inv (cxOfH CX P w K mg base N qual scope f cdv A outer s H E) [] (start N vs) H s1 := inv_startH S e0 hl r x
  refine wpAny_mono (ht [] s1 (start N vs) H _ I hq) (fun fl s' hs => ?_) fun e s' hs => hs
  have fin : ∀ {σ' : St} {H' : Hp} {v : V} {u : Value}, Inv (cxOfH CX P w K mg base N qual scope f cdv A outer s H E) [] σ' H' s' → RelV v u → Q v H' → CE outer P w H s Q u s' :=
    fun {σ' H' v u} J rv q => ⟨v, H', J.os, J.bare, J.base, J.hok, rv, q⟩
  cases fl with
  | ret u =>
    obtain ⟨v, σ', H', J, rv, q⟩ := hs
    exact fin J rv q
  | next =>
    obtain ⟨σ', H', J, q⟩ := hs
    exact fin (v := V.non) (u := Value.none) J rfl q
  | brk =>
    obtain ⟨_, _, _, q⟩ := hs
    exact False.elim q
  | cont =>
    obtain ⟨_, _, _, q⟩ := hs
    exact False.elim q
section
variable {P : Program} {w : World} {K : PySem.W.Frag} {mg : Str → Option Value} {base : Heap}
theorem Fun.okH {x qual : Str} {st : Stmt} {f : Addr} {fd : FuncData} {N ps : List Str} {k : Nat} {sp : Sp} (F : Fun K x qual st f fd) (S : FnScope N ps (defScope st)) (len : ∀ vs H Q E, sp vs H Q E → vs.length = ps.length)
    (hbody : ∀ (cdv : Value) (A : Around) (outer : List Env) (s : Shared) (H : Hp) (vs : List V) (Q : VK) (E : XK), RoomH k (A.deeper (envOfC qual (defScope st) s.heap.objs.size f cdv)) → sp vs H Q E →
      ∃ t, PSs (cxOfH CX0 P w K mg base N qual (defScope st) f cdv A outer s H E).nox (defBody st) t ∧ t { nx := fun _ H' => Q .non H', rt := Q } (start N vs) H) : FnOkH P w K mg base CX0 (k + 1) f fd ps sp := by
  obtain ⟨oc, od, kV, doc, pm, an, cdv, ct, osl, rfl, lk, hcd⟩ := F.ex
  refine fn_ofH lk hcd S len fun A outer s H vs Q E hr hsp => ?_
  obtain ⟨t, h, q⟩ := hbody cdv A outer s H vs Q E hr hsp
  exact ⟨t, h.nox, q⟩
end
end L2

/-! ### isinstance of a caught exception; try -/
namespace L2
open PySem PySem.Spec PyProof.Rows
theorem vals_refs : ∀ {cs : List Addr} {us : List Value}, Vals (cs.map V.ref) us → us = cs.map Value.ref
  | [], _, r => by cases r; rfl
  | c :: cs, _, r => by
    cases r with
    | cons r rr => cases r; rw [vals_refs rr]; rfl
section
variable {X : Cx} (K : PySem.W.Frag)
theorem call_isinstX (hK : X.K = K := by rfl) : CallR X (.builtin "isinstance") (fun xs H Q => ∃ (ea C : Addr) (x : Str) (c : V) (cv : Value) (b : Bool), xs = [.ref ea, c] ∧ H ea = some (.ext (ExcAt ea C)) ∧ ExcK K x C ∧ cvV c = some cv ∧ PySem.W.kitOne K (.ref C) cv = some b ∧ Q (.bl b) H) := by
  subst hK
  intro pins s σ H xs us Q I r h
  obtain ⟨ea, C, x, c, cv, b, rfl, he, O, hc, hk, q⟩ := h
  obtain ⟨u, w', rfl, r1, r2⟩ := vals2 r
  have e : w' = cv := by
    cases c with
    | ty n => have h1 : w' = Value.type n := r2; have h2 : some (Value.type n) = some cv := hc; cases h2; exact h1
    | ref a => have h1 : w' = Value.ref a := r2; have h2 : some (Value.ref a) = some cv := hc; cases h2; exact h1
    | non => cases hc
    | bl _ => cases hc
    | int _ => cases hc
    | str _ => cases hc
    | byt _ => cases hc
    | flt _ => cases hc
  subst e
  cases r1
  have φ : ExcAt ea C s.heap := (show ObjOk X.prog X.w H s.heap ea (.ext (ExcAt ea C)) from I.hok ea _ he).1
  exact PySem.W.kia_one (kitx_exc I.mod O) I.kIn ⟨φ, I.bk⟩ hk (fun z => nomatch z) fun tk => ⟨.bl b, H, I.tok tk, rfl, q⟩
theorem call_isinstXT (hK : X.K = K := by rfl) : CallR X (.builtin "isinstance") (fun xs H Q => ∃ (ea C : Addr) (x : Str) (tp : Addr) (cs : List Addr) (b : Bool), xs = [.ref ea, .ref tp] ∧ H ea = some (.ext (ExcAt ea C)) ∧ ExcK K x C ∧ H tp = some (.tup (cs.map V.ref)) ∧ PySem.W.kitAny K (.ref C) (cs.map Value.ref) = some b ∧ Q (.bl b) H) := by
  subst hK
  intro pins s σ H xs us Q I r h
  obtain ⟨ea, C, x, tp, cs, b, rfl, he, O, ht, hk, q⟩ := h
  obtain ⟨u, w', rfl, r1, r2⟩ := vals2 r
  cases r1
  cases r2
  have φ : ExcAt ea C s.heap := (show ObjOk X.prog X.w H s.heap ea (.ext (ExcAt ea C)) from I.hok ea _ he).1
  obtain ⟨_, its, rv, o, h1, h2, n, h3⟩ := (show ObjOk X.prog X.w H s.heap tp (.tup (cs.map V.ref)) from I.hok tp _ ht)
  have ei := vals_refs rv
  subst ei
  obtain ⟨cl, dd, dt, sl⟩ := o
  have h2 : cl = .type "tuple" := h2
  have h3 : dt = .seq (cs.map Value.ref).toArray n := h3
  subst h2 h3
  exact PySem.W.kia_tup (kitx_exc I.mod O) I.kIn ⟨φ, I.bk⟩ h1 hk (fun z => nomatch z) fun tk => ⟨.bl b, H, I.tok tk, rfl, q⟩
end

def wish2 (X : Cx) (xe : Value → Shared → Prop) (pn : List (Addr × Obj)) : Cx := { X with xe := xe, pn := pn }
def suiteX (X : Cx) (ea : Addr) (pn : List (Addr × Obj)) : Cx := { X with A := X.A.mark (some (.ref ea)), calm := false, xe := fun _ _ => False, pn := pn }
section
variable {X : Cx} {pins pins1 : List (Addr × Obj)} {σ : St} {H : Hp} {s : Shared} {xe : Value → Shared → Prop} {ea : Addr}
theorem Inv.toW (I : Inv X pins σ H s) : Inv (wish2 X xe (X.pn ++ pins)) [] σ H s :=
  ⟨⟨I.ok.mod, I.ok.kind, I.ok.glob, I.ok.blt, I.ok.above, I.ok.inj, I.ok.has, I.ok.cab, I.ok.hd, I.ok.frames, I.ok.stk, I.ok.exf, I.ok.bs, I.ok.bsz, I.ok.noex, I.ok.exfs, I.ok.funs, I.ok.frf⟩, I.os, I.bare, I.base, I.loc, I.cell, I.free, I.freeC,
    fun p hp => I.pin p (by have z : p ∈ (X.pn ++ pins) ++ [] := hp; simpa using z), I.hok, I.len⟩
theorem Inv.ofW (I : Inv (wish2 X xe (X.pn ++ pins)) pins1 σ H s) : Inv X pins σ H s :=
  ⟨⟨I.ok.mod, I.ok.kind, I.ok.glob, I.ok.blt, I.ok.above, I.ok.inj, I.ok.has, I.ok.cab, I.ok.hd, I.ok.frames, I.ok.stk, I.ok.exf, I.ok.bs, I.ok.bsz, I.ok.noex, I.ok.exfs, I.ok.funs, I.ok.frf⟩, I.os, I.bare, I.base, I.loc, I.cell, I.free, I.freeC,
    fun p hp => I.pin p (List.mem_append_left _ hp), I.hok, I.len⟩
theorem Inv.toS (I : Inv X pins σ H s) : Inv (suiteX X ea (X.pn ++ pins)) [] σ H s :=
  ⟨⟨I.ok.mod, I.ok.kind, I.ok.glob, I.ok.blt, I.ok.above, I.ok.inj, I.ok.has, I.ok.cab, fun z => (by cases z), I.ok.frames, I.ok.stk, I.ok.exf, I.ok.bs, I.ok.bsz, I.ok.noex, I.ok.exfs, I.ok.funs, I.ok.frf⟩, I.os, I.bare, I.base, I.loc, I.cell, I.free, I.freeC,
    fun p hp => I.pin p (by have z : p ∈ (X.pn ++ pins) ++ [] := hp; simpa using z), I.hok, I.len⟩
theorem Inv.ofS (hd : X.calm = true → X.A.handled = none) (fr : X.A.frames = some X.stack) (I : Inv (suiteX X ea (X.pn ++ pins)) pins1 σ H s) : Inv X pins σ H s :=
  ⟨⟨I.ok.mod, I.ok.kind, I.ok.glob, I.ok.blt, I.ok.above, I.ok.inj, I.ok.has, I.ok.cab, hd, fr, I.ok.stk, I.ok.exf, I.ok.bs, I.ok.bsz, I.ok.noex, I.ok.exfs, I.ok.funs, I.ok.frf⟩, I.os, I.bare, I.base, I.loc, I.cell, I.free, I.freeC,
    fun p hp => I.pin p (List.mem_append_left _ hp), I.hok, I.len⟩

/-- over a call that ended in an exception, and what the machine did to the frames since -/
theorem fly_un {H' : Hp} {s' : Shared} {B h5 : Heap} (I : Inv X pins σ H s) (u : Un (frs X.stack) [] H H' s.heap s'.heap) (hok : HOk X.prog X.w H' s'.heap) (b1 : B.StaysIn s'.heap) (b2 : B.StaysIn h5) (sm : s'.heap.UpToSlots h5)
    (dm : ∀ b o, s.heap.get? b = some o → b ∉ frs X.stack → ∃ o', B.get? b = some o') (tr : ∀ b u, H' b = some u → ∃ o', B.get? b = some o') : Un (frs X.stack) [] H H' s.heap h5 ∧ HOk X.prog X.w H' h5 := by
  have same : ∀ b o, s'.heap.get? b = some o → (∃ o', B.get? b = some o') → h5.get? b = some o := fun b o e ⟨o', e'⟩ => by
    have z := b1 b o' e'
    rw [e] at z; cases z
    exact b2 b o e'
  have fr : ∀ b o, s.heap.get? b = some o → b ∈ frs X.stack → ∃ sl, h5.get? b = some { o with slots := sl } := fun b o q hb => by
    obtain ⟨sl, e1⟩ := u.slot b o q (I.stkFree b hb) hb (by simp)
    obtain ⟨_, o', e', hd⟩ := I.stack.mem hb
    rw [q] at e'; cases e'
    obtain ⟨sl', e2⟩ := sm b _ e1 hd
    exact ⟨sl', e2⟩
  refine ⟨⟨fun b o q n hb hx => same b o (u.keep b o q n hb hx) (dm b o q hb), fun b o q n hb _ => fr b o q hb, fun b o q n hx => u.free b o q n hx, fun b o q hx => ?_, u.tups, u.frzs, u.tbls⟩, fun b v e => ?_⟩
  · by_cases hb : b ∈ frs X.stack
    · obtain ⟨sl, e2⟩ := fr b o q hb
      exact ⟨_, e2⟩
    · obtain ⟨o1, e1⟩ := u.there b o q hx
      exact ⟨_, same b o1 e1 (dm b o q hb)⟩
  · refine (hok b v e).stay (fun c v hc q => same c v q ?_) (fun _ q => q) fun _ _ q => q
    rcases hc with z | z
    · rw [z]; exact tr b _ e
    · exact tr c _ z

/-- a local name is let go -/
theorem Inv.goes {i : Nat} {n : Str} {m : Str → Option Value} {h' : Heap} {v : Option Value} {t' : Nat} (I : Inv X pins σ H s) (hN : X.N.Nodup) (hi : X.N[i]? = some n)
    (hm : ∀ (j : Nat) (x : Str) (v : V), X.N[j]? = some x → σ[j]? = some (some v) → Vis X.env.scope x → ∃ u, RelV v u ∧ Look X.env s.heap m x u)
    (hn' : h'.Ns X.env.locals (fun x => if x = n then v else m x)) (hs : Heap.SameBut X.env.locals s.heap h') : Inv X pins (σ.set i none) H { s with heap := h', toks := t' } := by
  have keep : ∀ b o, b ≠ X.env.locals → s.heap.get? b = some o → h'.get? b = some o := fun b o hb e => (hs.2 b hb).trans e
  have neL : ∀ b o, X.s₀.heap.get? b = some o → b ≠ X.env.locals := fun b o e => Nat.ne_of_lt (Nat.lt_of_lt_of_le (Heap.lt_size e) I.ok.above)
  refine ⟨I.ok, I.os, I.bare, ⟨fun b o e q hb hx => keep b o (neL b o e) (I.base.keep b o e q hb hx), fun b o e q hb hx => ?_, I.base.free, fun b o e hx => ?_, I.base.tups, I.base.frzs, I.base.tbls⟩, ⟨_, hn', fun j y w' e1 e2 e3 => ?_⟩, fun y c e => ?_, I.free, I.freeC, fun p hp => ?_, fun b ob e => ?_, by simpa using I.len⟩
  · obtain ⟨sl, e1⟩ := I.base.slot b o e q hb hx
    exact ⟨sl, keep b _ (neL b o e) e1⟩
  · obtain ⟨o', e1⟩ := I.base.there b o e hx
    exact ⟨o', keep b _ (neL b o e) e1⟩
  · by_cases hj : i = j
    · subst hj
      rw [List.getElem?_set] at e2
      simp only [if_true] at e2
      split at e2 <;> cases e2
    · rw [List.getElem?_set_ne hj] at e2
      have hy : y ≠ n := fun z => hj (nodup_ix hN hi (z ▸ e1))
      obtain ⟨u, r, l⟩ := hm j y w' e1 e2 e3
      refine ⟨u, r, ?_⟩
      rcases l with ⟨k, q⟩ | ⟨k, c, q, z⟩
      · exact .inl ⟨k, by dsimp only; rw [if_neg hy]; exact q⟩
      · obtain ⟨oc, hoc, hcd⟩ := z
        exact .inr ⟨k, c, q, oc, keep c oc (I.cne y c q) hoc, hcd⟩
  · obtain ⟨v', oc, hoc, hcd⟩ := I.cell y c e
    exact ⟨v', oc, keep c oc (I.cne y c e) hoc, hcd⟩
  · obtain ⟨e, q, ne, nf, d⟩ := I.pin p hp
    exact ⟨keep p.1 p.2 ne e, q, ne, nf, d⟩
  · refine (I.hok b ob e).stay (fun c w' hc q => keep c w' (fun z => ?_) q) (fun _ q => q) fun _ _ q => q
    have hf := I.free
    rcases hc with z' | z'
    · rw [← z', z] at e; rw [hf] at e; cases e
    · rw [z, hf] at z'; cases z'
end

def suiteEnds (i : Nat) (D : Ends) : Ends := ⟨fun σ' H2 => D.nx (σ'.set i none) H2, D.rt, fun σ' H2 => D.bk (σ'.set i none) H2, fun σ' H2 => D.ct (σ'.set i none) H2⟩
def tTry (n : Nat) (tb : XK → TS) (C : Addr) (i : Nat) (ts : TS) : TS := fun D σ H =>
  tb (fun cls _ H' => cls = .ref C ∧ ∀ ea, H' ea = none → ts (suiteEnds i D) ((List.replicate n none).set i (some (.ref ea))) (upd H' ea (.ext (ExcAt ea C)))) D σ H

theorem ps_try {X : Cx} {body : List Stmt} {b₀ : Stmt} {suite : List Stmt} {x n : Str} {i : Nat} {C : Addr} {np hpos pos : Pos} {tb : XK → TS} {ts : TS} (hstk : X.stack = X.env :: X.outer) (hfr : X.env.frame = some X.env.locals)
    (hg : Gl X x) (hm : X.mg x = some (.ref C)) (O : ExcK X.K x C) (hN : X.N.Nodup) (hi : X.N[i]? = some n) (hl : X.env.scope.names.lookup n = some .local)
    (hb : ∀ (E : XK) (xe : Value → Shared → Prop) (pn : List (Addr × Obj)), Xp (wish2 X xe pn) E → PSs (wish2 X xe pn) body (tb E))
    (hs : ∀ (ea : Addr) (pn : List (Addr × Obj)), PSs (suiteX X ea pn) (b₀ :: suite) ts) (hd : (x == ("__debug__" : Str)) = false := by decide) :
    PS X (.Try body [.ExceptHandler (some (.Name x np)) (some n) (b₀ :: suite) hpos] [] [] pos) (tTry X.N.length tb C i ts) := by
  intro pins s σ H D I h
  refine wpAny_Try_except (wpAny_mono (hb _ (fun e s₁ => wpAny (model X.prog X.w) X.A (noteFrame e X.env) (fun _ s₂ => wpAny (model X.prog X.w) X.A (setFlight e none) (fun _ s₃ =>
      wpAny (model X.prog X.w) X.A (handleBy e X.env [.ExceptHandler (some (.Name x np)) (some n) (b₀ :: suite) hpos]) (SP X pins D) X.xe s₃) X.xe s₂) X.xe s₁) (X.pn ++ pins) ⟨?pass, PassesOwn.looking⟩ [] s σ H D I.toW h) (fun f s1 q => ?_) fun e s1 q => q)
  case pass =>
    intro pins1 σ1 H1 s1 e s' I1 hx
    obtain ⟨ea, cls, a0, B, H', rfl, ho, hgn, u, hok, fl, dm, tr, hcls, hts⟩ := hx
    subst hcls
    have IX : Inv X pins σ1 H1 s1 := I1.ofW
    have u : Un (frs X.stack) [] H1 H' s1.heap s'.heap := u
    have fl : Heap.FlyingW B X.stack ea (.ref C) a0 s'.heap := fl
    have dm : ∀ b o, s1.heap.get? b = some o → b ∉ frs X.stack → ∃ o', B.get? b = some o' := dm
    have heaH : H' ea = none := by
      cases e : H' ea with
      | none => rfl
      | some w' => obtain ⟨o', z⟩ := tr ea w' e; rw [fl.2.1] at z; cases z
    have hea1 : s1.heap.get? ea = none := by
      cases e : s1.heap.get? ea with
      | none => rfl
      | some w' =>
        exfalso
        by_cases hb : ea ∈ frs X.stack
        · obtain ⟨sl, e1⟩ := u.slot ea w' e (IX.stkFree ea hb) hb (by simp)
          obtain ⟨_, o', e', hdn⟩ := IX.stack.mem hb
          rw [e] at e'; cases e'
          obtain ⟨_, _, _, oe, vs, _, _, _, he, _, hdt, _⟩ := fl
          rw [e1] at he; cases he
          exact hdn vs hdt
        · obtain ⟨o', z⟩ := dm ea w' e hb; rw [fl.2.1] at z; cases z
    have fl0 := fl
    rw [hstk] at fl
    refine wpAny_looks_onW (by rw [← hstk]; exact I.ok.frames) hfr fl fun h4 held sm4 => ?_
    refine wpAny_landsW held fun h5 fl5 sm5 => ?_
    obtain ⟨u5, ok5⟩ := fly_un IX u hok fl0.1 fl5.1 (sm4.trans sm5) dm tr
    have I5 : Inv X pins σ1 H' { s' with heap := h5 } := IX.call' (s' := { s' with heap := h5 }) ho u5 ok5 hgn (fun b hb => by cases hb)
    have J5 : Inv (suiteX X ea (X.pn ++ pins)) [] σ1 H' { s' with heap := h5 } := I5.toS
    refine wpAny_handleBy_cons (codeAny_handlers_test (ld_glob J5 hg hm ?_ hd)) (by intro q; cases q)
    obtain ⟨tl, Nn, nm, q, bs, hdct, sn, sub, ab, col, dd, k0, k1, k2, k3, k5, mN, hC, hNn, hni, T⟩ := ((own_mod I5.mod O.toExcCls).keeps I5.bk).obj
    obtain ⟨ob, hob, hobc⟩ := fl5.there
    obtain ⟨hp', g', d', t', os'⟩ := s'
    refine wpAny_excMatches_sub_self hC hob hobc (T.hasType (b := true) (by decide +kernel)) (codeAny_handlers_suite_as ?_)
    refine lands_againW fl5 fun h6 fl6 sm6 => ?_
    obtain ⟨u6, ok6⟩ := fly_un IX u hok fl0.1 fl6.1 ((sm4.trans sm5).trans sm6) dm tr
    have φ : ExcAt ea C h6 := by
      obtain ⟨_, _, _, oe, vs, _, _, _, he, hcl, hdt, _⟩ := fl6
      exact ⟨oe, vs, he, hcl.1, hdt⟩
    have nea : ∀ b o, s1.heap.get? b = some o → b ≠ ea := fun b o e z => by rw [z, hea1] at e; cases e
    have u7 : Un (frs X.stack) [] H1 (upd H' ea (.ext (ExcAt ea C))) s1.heap h6 :=
      ⟨u6.keep, u6.slot, fun b o e n hx => by rw [upd_ne (nea b o e)]; exact u6.free b o e n hx, u6.there, fun b xs e => by rw [upd_ne (ne_of_none (u6.tups b xs e) heaH)]; exact u6.tups b xs e,
        fun b o xs e => by rw [upd_ne (ne_of_none (u6.frzs b o xs e) heaH)]; exact u6.frzs b o xs e, fun b ps e => by obtain ⟨mr, z⟩ := u6.tbls b ps e; exact ⟨mr, by rw [upd_ne (ne_of_none z heaH)]; exact z⟩⟩
    have ok7 : HOk X.prog X.w (upd H' ea (.ext (ExcAt ea C))) h6 := fun b v e => by
      by_cases hb : b = ea
      · subst hb; rw [upd_same] at e; cases e
        obtain ⟨o, vs, z1, z2, z3⟩ := id φ
        exact ⟨φ, ⟨o, z1⟩, fun h1 h2 ⟨o', vs', y1, y2, y3⟩ k => ⟨o', vs', k o' y1, y2, y3⟩⟩
      · rw [upd_ne hb] at e
        exact (ok6 b v e).stay (fun _ _ _ q => q) (fun c q => by rw [upd_ne (ne_of_none q heaH)]; exact q) fun c xs q => by rw [upd_ne (ne_of_none q heaH)]; exact q
    have I7 : Inv X pins σ1 (upd H' ea (.ext (ExcAt ea C))) ⟨h6, g', d', t', os'⟩ := IX.call' (s' := ⟨h6, g', d', t', os'⟩) ho u7 ok7 hgn (fun b hb => by cases hb)
    have I8 : Inv X pins (List.replicate X.N.length none) (upd H' ea (.ext (ExcAt ea C))) ⟨h6, g', d', t', os'⟩ := I7.weak (by rw [List.length_replicate, I7.len]) fun j v e => by
      rw [List.getElem?_replicate] at e
      split at e <;> cases e
    have J8 : Inv (suiteX X ea (X.pn ++ pins)) [] (List.replicate X.N.length none) (upd H' ea (.ext (ExcAt ea C))) ⟨h6, g', d', t', os'⟩ := I8.toS
    refine store_ok (X := suiteX X ea (X.pn ++ pins)) (v := .ref ea) J8 hN hi (.inl hl) rfl (fun s9 J9 => ?_) (.inr hl)
    refine wpAny_mono (hs ea (X.pn ++ pins) [] s9 _ _ _ J9 (hts ea heaH)) (fun f s10 q10 => ?_) (fun _ _ z => z.elim)
    have done : ∀ {σ' : St} {Hn : Hp}, Inv (suiteX X ea (X.pn ++ pins)) [] σ' Hn s10 → (∀ s11, Inv X pins (σ'.set i none) Hn s11 → SP X pins D f s11) → wpAny (model X.prog X.w) X.A (do bindName X.env n .none; unbindBehindTheSuite X.env n hpos) (fun _ s₃ => SP X pins D f s₃) X.xe s10 := fun {σ' Hn} J k => by
      have IJ : Inv X pins σ' Hn s10 := J.ofS I.ok.hd I.ok.frames
      obtain ⟨m, hnm, hlm⟩ := id IJ.loc
      exact wpAny_nameGoes_keeps hl hnm (by rw [I.ok.kind]; rfl) fun h' v hn' hs' => k _ (IJ.goes hN hi hlm hn' hs')
    cases f with
    | next => obtain ⟨σ', Hn, J, q⟩ := q10; exact done J fun s11 I11 => ⟨_, Hn, I11, q⟩
    | brk => obtain ⟨σ', Hn, J, q⟩ := q10; exact done J fun s11 I11 => ⟨_, Hn, I11, q⟩
    | cont => obtain ⟨σ', Hn, J, q⟩ := q10; exact done J fun s11 I11 => ⟨_, Hn, I11, q⟩
    | ret v => obtain ⟨y, σ', Hn, J, r, q⟩ := q10; exact done J fun s11 I11 => ⟨y, _, Hn, I11, r, q⟩
  · cases f with
    | next => obtain ⟨σ', Hn, J, q⟩ := q; exact wpAny_execs_nil ⟨σ', Hn, J.ofW, q⟩
    | brk => obtain ⟨σ', Hn, J, q⟩ := q; exact ⟨σ', Hn, J.ofW, q⟩
    | cont => obtain ⟨σ', Hn, J, q⟩ := q; exact ⟨σ', Hn, J.ofW, q⟩
    | ret v => obtain ⟨y, σ', Hn, J, r, q⟩ := q; exact ⟨y, σ', Hn, J.ofW, r, q⟩
end L2
/-! ### list.insert; facts of error classes; small helpers -/
namespace L2
open PySem PySem.Spec PyProof.Rows

theorem pass0X {P : Program} {w : World} {X : Cx} : Passes (CXr P w) X E0 := fun _ _ _ _ _ _ _ h => by
  obtain ⟨_, _, _, _, _, _, _, _, _, _, _, _, _, z⟩ := h
  exact z.elim
theorem roomH {k j : Nat} {A : Around} {h : Option Value} (r : Room k A) (hj : j ≤ k) : RoomH j (A.mark h) := ⟨by have := r.dp; show A.depth + 3 * j + 5 < _; omega, by have := r.un; show A.units + 16 * j + 200 < _; omega⟩
section
variable {K : PySem.W.Frag} {C C' : Addr} {b : Bool}
theorem kit_sub (hne : C ≠ C') (c1 : PySem.W.isClsIn K C' = true) (c2 : PySem.W.typeIn K (.ref C') = some (.type "type")) (m : PySem.W.mroIn K C (.ref C') = some b) : PySem.W.kitOne K (.ref C) (.ref C') = some b := by
  unfold PySem.W.kitOne PySem.W.kitCls
  rw [if_neg (fun z => hne (Value.ref.inj (beq_iff_eq.mp z)))]
  dsimp only
  have c1 : (PySem.W.clsIn K C').isSome = true := c1
  rw [c1, c2, if_pos (by decide +kernel)]
  exact m
theorem ne_mro (h1 : PySem.W.mroIn K C (.ref C) = some true) (h2 : PySem.W.mroIn K C (.ref C') = some false) : C ≠ C' := fun z => by rw [← z, h1] at h2; cases h2
theorem kit_val (m : PySem.W.mroIn K C (.type "ValueError") = some true) : PySem.W.kitOne K (.ref C) (.type "ValueError") = some true := by
  unfold PySem.W.kitOne PySem.W.kitCls
  rw [if_neg (by intro z; cases beq_iff_eq.mp z)]
  dsimp only
  rw [if_pos (by decide +kernel)]
  exact m
end
section
variable {E : XK} {C : Addr} {ta : TA} {D : Ends} {σ : St} {H : Hp} {Q : VK} {te : TE} {t : St → Hp → (Hp → Prop) → Prop} {R : Hp → Prop} {n i : Nat} {tb : XK → TS} {ts : TS}
theorem r_raise (h : ta σ H fun vs H1 => vs.length ≤ sizeLine ∧ E (.ref C) none H1) : tRaise E C ta D σ H := h
theorem r_joined (h : t σ H fun H' => ∀ x, Q (.str x) H') : tJoined t σ H Q := h
theorem r_jstr (h : t σ H R) : jStr t σ H R := h
theorem r_jnil (h : R H) : jNil σ H R := h
theorem r_jint (h : te σ H fun x H1 => ∃ i : Int, x = .int i ∧ i.natAbs.log2 < 64 ∧ t σ H1 R) : jInt te t σ H R := h
theorem r_try (h : tb (fun cls _ H' => cls = .ref C ∧ ∀ ea, H' ea = none → ts (suiteEnds i D) ((List.replicate n none).set i (some (.ref ea))) (upd H' ea (.ext (ExcAt ea C)))) D σ H) : tTry n tb C i ts D σ H := h
end
theorem r_snx {D : Ends} {i : Nat} {σ : St} {H : Hp} (h : D.nx (σ.set i none) H) : (suiteEnds i D).nx σ H := h
theorem small_log {i : Int} (h0 : -1000000 ≤ i) (h1 : i ≤ 1000000) : i.natAbs.log2 < 64 := by
  by_cases hz : i.natAbs = 0
  · rw [hz]; decide
  · rw [Nat.log2_lt hz]
    have : i.natAbs ≤ 1000000 := by omega
    omega
end L2
/-! ### > of two int lists; list(d), list(d.values()) -/
namespace L2
open PySem PySem.Spec PyProof.Rows
open PySem.AutoSeq1 (wpAny_loadPart')
open PySem.MeetsSeq PySem.MeetsSeq2 PySem.MeetsSeq3 PySem.SeqAt


theorem Same.upd_fresh {H H' : Hp} {b : Addr} {o : HO} (h : Same H H') (hb : H b = Option.none) : Same H (upd H' b o) := fun c u e => by
  rw [upd_ne (ne_of_none e hb)]; exact h c u e
theorem Room.units1 {k : Nat} {A : Around} (r : Room k A) : A.units + 1 < cLine := by have := r.units; omega

section
variable {X : Cx} (K : PySem.W.Frag)
theorem pe_bm0K {o : Expr} {to : TE} {name : Str} {apos cpos : Pos} {T id : String} {r : V → List V → Hp → VK → Prop} (pa : PlainAttrs T) (slot : Slot T name id) (hty : typeOf (.builtin id) = pure (.type "method_descriptor")) (hm : MtR X id r) (ho : PE X o to)
    (hbase : attributeBase o name X.env (eval o X.env) = eval o X.env := by rfl) (hline : (apos.endLine == cpos.line) = true := by rfl) (hK : X.K = K := by rfl) : PE X (.Call (.Attribute o name apos) [] [] cpos) (tBM0 K T r to) := by subst hK; exact pe_bm0 pa slot hty hm ho hbase hline
theorem sl_listK (hK : X.K = K := by rfl) : SlR X (rSlL K) := by subst hK; exact sl_list
end
section
variable {σ : St} {H : Hp} {Q : VK} {to td ty tv te : TE} {D : Ends} {trs : List (TE × TE)} {K : PySem.W.Frag} {T : String} {r : V → List V → Hp → VK → Prop}
theorem r_bm0 (h : to σ H fun x H1 => tyV K T x H1 ∧ r x [] H1 Q) : tBM0 K T r to σ H Q := h
theorem r_dget (h : td σ H fun x H1 => ty σ H1 fun y H2 => ∃ a v, x = .ref a ∧ DGet H2 a y (some v) ∧ Q v H2) : tDGet td ty σ H Q := h
theorem r_dnotin (h : ty σ H fun y H1 => td σ H1 fun x H2 => ∃ a o, x = .ref a ∧ DGet H2 a y o ∧ Q (.bl (!o.isSome)) H2) : tDNotIn ty td σ H Q := h
theorem r_dput (h : tv σ H fun v H1 => td σ H1 fun x H2 => ty σ H2 fun y H3 => ∃ a H4, x = .ref a ∧ DPut H3 a y v H4 ∧ D.nx σ H4) : sDPut td ty tv D σ H := h
theorem r_dnew (h : ∀ p, H p = none → Q (.ref p) (upd H p (.dK []))) : tDNewK σ H Q := h
theorem r_sl {r : V → Option Int → Option Int → Hp → VK → Prop} {tl th : TO} (h : te σ H fun x H1 => tl σ H1 fun l H2 => th σ H2 fun u H3 => r x l u H3 Q) : tSl r te tl th σ H Q := h
theorem r_nopart {Q : Option Int → Hp → Prop} (h : Q none H) : tNoPart σ H Q := h
theorem r_part {Q : Option Int → Hp → Prop} (h : te σ H fun x H1 => ∃ i, x = .int i ∧ Q (some i) H1) : tPart te σ H Q := h
end
end L2
/-! ### breadth first: the least words -/
namespace My
open PySem L2
end My
/-! ### list comprehensions whose block has cells of its own -/
namespace L2
open PySem PySem.Spec PyProof.Rows


end L2
/-! ### a body that begins with a dict display: boxed, so that nothing runs it while it is read -/
namespace L2
open PySem PySem.Spec PyProof.Rows
end L2
/-! ### breadth first over any kind of key -/
namespace My
open PySem L2

end My
/-! ### {(a, b): v}: one pair, the key a tuple -/
namespace L2
open PySem PySem.Spec PyProof.Rows

end L2
/-! ### a truth in an f-string; the pairs of a dict, walked while the dict is held fast -/
namespace L2
open PySem PySem.Spec PyProof.Rows
/-! the view -/

/-! its iterator, by the dict's bare entries -/

/-! held fast -/


/-! range(n) as a value, list of it -/

end L2
namespace My
end My
/-! ### list comprehensions with one test -/
namespace PySem
open PySem.Spec PyProof.Rows

end PySem
namespace L2
open PySem PySem.Spec PyProof.Rows

end L2
/-! ### try around one call whose value is stored: the names stand as before where it raises -/
namespace L2
open PySem PySem.Spec PyProof.Rows

end L2
/-! ### < of lists of ints; sum of one -/
namespace L2
open PySem PySem.Spec PyProof.Rows
open PySem.AutoSeq1 (wpAny_loadPart')
open PySem.MeetsSeq PySem.MeetsSeq2 PySem.MeetsSeq3 PySem.SeqAt

end L2
namespace My
open PySem L2
end My
namespace My
open PySem L2
end My
namespace My
open PySem L2
/-! two houses behind one another -/
/-! a house with its rooms numbered otherwise -/
end My
/-! ### try with some handlers, each by its class or one above it -/
namespace L2
open PySem PySem.Spec PyProof.Rows
end L2
/-! ### the pairs of a dict whose keys are ints and texts, walked; a loop over pairs -/
namespace L2
open PySem PySem.Spec PyProof.Rows


end L2
namespace My
open PySem L2
end My
namespace L2
open PySem PySem.Spec PyProof.Rows
end L2
/-! ### the least lit word -/
namespace My
open PySem L2
end My
/-! ### texts: join, split, startswith, cut; a loop over two lists at once -/
namespace L2
open PySem PySem.Spec PyProof.Rows
theorem strsAre_of : ∀ {ys : List Str} {us : List Value}, Vals (ys.map V.str) us → StrsAre us ys
  | [], us, h => by
    cases us with
    | nil => exact .nil
    | cons a r => have := h.length; simp at this
  | y :: ys, us, h => by
    cases h with
    | cons r rr =>
      obtain ⟨t, rfl⟩ := r
      exact .cons y t (strsAre_of rr)
def rJoin (K : PySem.W.Frag) : V → List V → Hp → VK → Prop := fun x vs H Q => ∃ sep a ys, x = .str sep ∧ vs = [.ref a] ∧ SqL K H a (ys.map V.str) ∧ sep.length ≤ 16 ∧ (ys.map (fun x => x.length)).sum + ys.length ≤ 1048576 ∧ Q (.str (Txt.join sep ys)) H
def rSplit : V → List V → Hp → VK → Prop := fun x vs H Q => ∃ z y, x = .str z ∧ vs = [.str y] ∧ (y.length == 0) = false ∧ z.length ≤ 100000 ∧ (Txt.split z y).length ≤ 100000 ∧ ∀ p, H p = none → Q (.ref p) (upd H p (.lst ((Txt.split z y).map V.str)))
def rStarts : V → List V → Hp → VK → Prop := fun x vs H Q => ∃ z y, x = .str z ∧ vs = [.str y] ∧ Q (.bl (Txt.startswith z y)) H
section
variable {X : Cx}
theorem mt_join (K : PySem.W.Frag) (hK : X.K = K := by rfl) : MtR X "str.join" (rJoin K) := by
  subst hK
  intro pins s σ H x vs v us Q I rx rv h
  obtain ⟨sep, a, ys, rfl, rfl, hq, h1, h2, q⟩ := h
  obtain ⟨t, rfl⟩ := rx
  obtain ⟨u, rfl, ru⟩ := vals1 rv
  cases ru
  obtain ⟨its, r, ht, hz⟩ := I.list hq
  exact join_listW ht.isList (by simpa using strsAre_of r) h1 h2 fun t' k => ⟨.str _, H, I.tok _, ⟨_, rfl⟩, q⟩
theorem mt_starts : MtR X "str.startswith" rStarts := by
  intro pins s σ H x vs v us Q I rx rv h
  obtain ⟨z, y, rfl, rfl, q⟩ := h
  obtain ⟨t, rfl⟩ := rx
  obtain ⟨u, rfl, ru⟩ := vals1 rv
  obtain ⟨t2, rfl⟩ := ru
  exact SC.startswith ⟨.bl _, H, I, rfl, q⟩
theorem vals_strs : ∀ (l : List Str) (n : Nat), Vals (l.map V.str) (strsFrom n l)
  | [], n => .nil
  | y :: l, n => .cons ⟨n, rfl⟩ (vals_strs l (n + 1))
theorem split_pb {x y : Str} (h1 : ¬ (decide (x.length < y.length) || decide (Builtin.Str.strKind x < Builtin.Str.strKind y)) = true) (h2 : ¬ (Builtin.Str.occurrences x y 0 x.length (x.length + 1)).isEmpty = true) :
    Txt.split x y = Builtin.Str.partsBetween x (Builtin.Str.occurrences x y 0 x.length (x.length + 1)) y.length := by
  unfold Txt.split
  rw [if_neg h1, if_neg h2]
theorem mt_split : MtR X "str.split" rSplit := by
  intro pins s σ H x vs v us Q I rx rv h
  obtain ⟨z, y, rfl, rfl, hy, hz, hl, q⟩ := h
  obtain ⟨t, rfl⟩ := rx
  obtain ⟨u, rfl, ru⟩ := vals1 rv
  obtain ⟨t2, rfl⟩ := ru
  have fin : ∀ (k : Nat) (its : List Value) (ys : List Str), Txt.split z y = ys → Vals (ys.map V.str) its → (EP X pins σ Q) (.ref s.heap.objs.size) { s with heap := s.heap.push { cls := .type "list", data := .seq its.toArray }, toks := k } := by
    intro k its ys e hv
    subst e
    refine ⟨.ref s.heap.objs.size, _, I.laid (t' := k) (o := .lst ((Txt.split z y).map V.str)) (fun b ob q => Heap.get?_push_of_some _ q) (Nat.le_refl _) ?_, rfl, q _ (I.hok.fresh (Nat.le_refl _))⟩
    exact ⟨by rw [List.length_map]; exact Nat.le_trans hl (by decide), _, 0, hv, Heap.get?_push_size _ rfl⟩
  by_cases h1 : (decide (z.length < y.length) || decide (Builtin.Str.strKind z < Builtin.Str.strKind y)) = true
  · refine call_meets PySem.F.slot_str_split (typeIs_str s z t) PySem.F.entry_str_split (PySem.F.args_str_split_2 ..) (meets_str_split_cannot_occur z y t t2 h1) ?_
    exact fin s.toks [.str z t] [z] (by unfold Txt.split; rw [if_pos h1]) (.cons ⟨_, rfl⟩ .nil)
  · by_cases h2 : (Builtin.Str.occurrences z y 0 z.length (z.length + 1)).isEmpty = true
    · refine call_meets PySem.F.slot_str_split (typeIs_str s z t) PySem.F.entry_str_split (PySem.F.args_str_split_2 ..) (meets_str_split_not_found z y t t2 (by simpa using h1) hy h2) ?_
      exact fin s.toks [.str z t] [z] (by unfold Txt.split; rw [if_neg h1, if_pos h2]) (.cons ⟨_, rfl⟩ .nil)
    · have e := split_pb h1 h2
      refine call_meets PySem.F.slot_str_split (typeIs_str s z t) PySem.F.entry_str_split (PySem.F.args_str_split_2 ..) (meets_str_split_sep z y t t2 (by simpa using h1) hy (by simpa using h2) (Nat.le_trans hz (by decide)) (by rw [← e]; exact Nat.le_trans hl (by decide))) ?_
      exact fin _ _ _ e (vals_strs _ _)
/-! a text from a place on -/
def rSlS : V → Option Int → Option Int → Hp → VK → Prop := fun x lo hi H Q => ∃ z, ∃ n : Nat, x = .str z ∧ lo = some (n : Int) ∧ hi = none ∧ 0 < n ∧ n ≤ z.length ∧ z.length ≤ 100000 ∧ Q (.str ⟨(z.cps.toList.drop n).toArray⟩) H
theorem fm_range' (l : List Nat) : ∀ (m n : Nat), n + m = l.length → (List.range' n m).filterMap (fun i => l[i]?) = l.drop n
  | 0, n, h => by rw [List.range'_zero, List.filterMap_nil, List.drop_eq_nil_of_le (by omega)]
  | m + 1, n, h => by
    rw [List.range'_succ, List.filterMap_cons, List.getElem?_eq_getElem (by omega)]
    rw [fm_range' l m (n + 1) (by omega), List.drop_eq_getElem_cons (by omega : n < l.length)]
theorem slice_from {n len : Nat} (h : n ≤ len) : Builtin.Str.strSliceIndices (some (n : Int)) none 1 len = List.range' n (len - n) := by
  have e : Builtin.Str.strSliceIndices (some (n : Int)) none 1 len = Builtin.Str.strSliceIndices (some (n : Int)) (some (len : Int)) 1 len := by
    unfold Builtin.Str.strSliceIndices
    have h1 : ¬ ((len : Int) < 0) := by omega
    have h2 : max 0 (min (len : Int) (len : Int)) = (len : Int) := by omega
    simp only [h1, if_false, h2]
    simp
  rw [e, StrLaws.strSliceIndices_plain h (Nat.le_refl _), ← List.range'_eq_map_range]
theorem sl_str : SlR X rSlS := by
  intro pins s σ H x v vl vu lo hi sl Q I rx hs pl pu h
  obtain ⟨z, n, rfl, rfl, rfl, h0, hn, h9, q⟩ := h
  obtain ⟨t, rfl⟩ := rx
  cases pl with
  | int i tl =>
    cases pu
    refine ⟨"str", _, PySem.F.slot_str_getitem.lookup, typeIs_str s z t, ?_⟩
    refine wpAny_getItem_str_slice (l := some ((n : Int), tl)) (u := none) (st := none) hs rfl ?_
    have e : slicePicked z (some ((n : Int), tl)) none none = List.range' n (z.length - n) := by
      show Builtin.Str.strSliceIndices (some (n : Int)) none 1 z.length = _
      exact slice_from hn
    have hzl : z.length = z.cps.toList.length := by rw [Array.length_toList]; rfl
    unfold sliceMade
    rw [e, if_neg (by simp; omega)]
    have e2 : (List.filterMap (fun i => z.cps[i]?) (List.range' n (z.length - n))) = z.cps.toList.drop n := by
      have := fm_range' z.cps.toList (z.length - n) n (by omega)
      rw [← this]
      congr 1
      funext i
      rw [Array.getElem?_toList]
    rw [e2]
    unfold Made.post
    refine ⟨Nat.le_trans ?_ (Nat.le_trans h9 (by decide)), .str _, H, I.tok _, ⟨_, rfl⟩, q⟩
    show (z.cps.toList.drop n).toArray.size ≤ _
    rw [List.size_toArray, List.length_drop]; omega
end


end L2
/-! ### the text of a house -/
namespace My
open PySem L2
def numS (n : Int) : Str := Str.ofString (toString n)
def valL (l : List Nat) : Nat := l.foldl (fun a c => 10 * a + (c - 48)) 0
theorem num_all : ∀ n : Nat, n < 400 → valL (numS (n : Int)).cps.toList = n ∧ (numS (n : Int)).cps.toList.all (fun c => decide (48 ≤ c) && decide (c ≤ 57)) = true ∧ (numS (n : Int)).length ≤ 3 := by decide +kernel
theorem num_of {n : Int} (h0 : 0 ≤ n) (h1 : n < 400) : valL (numS n).cps.toList = n.toNat ∧ (∀ c ∈ (numS n).cps.toList, 48 ≤ c ∧ c ≤ 57) ∧ (numS n).length ≤ 3 := by
  obtain ⟨a, b, c⟩ := num_all n.toNat (by omega)
  rw [show ((n.toNat : Nat) : Int) = n by omega] at a b c
  refine ⟨a, fun x hx => ?_, c⟩
  have := List.all_eq_true.mp b x hx
  simpa using this
theorem num_inj {m n : Int} (m0 : 0 ≤ m) (m1 : m < 400) (n0 : 0 ≤ n) (n1 : n < 400) (h : numS m = numS n) : m = n := by
  have a := (num_of m0 m1).1
  have b := (num_of n0 n1).1
  rw [h, b] at a
  omega
def litT : Str := ⟨#[108, 105, 116]⟩
def darkT : Str := ⟨#[100, 97, 114, 107]⟩
def blT : Str := ⟨#[32]⟩
def nlT : Str := ⟨#[10]⟩
def drT : Str := ⟨#[100, 111, 111, 114, 115, 32]⟩
theorem e_lit : ("lit" : Str) = litT := by decide +kernel
theorem e_dark : ("dark" : Str) = darkT := by decide +kernel
theorem e_bl : (" " : Str) = blT := by decide +kernel
theorem e_nl : ("\n" : Str) = nlT := by decide +kernel
theorem e_dr : ("doors " : Str) = drT := by decide +kernel
def lampS (b : Bool) : Str := if b = true then litT else darkT
def rowS (b : Bool) (ws : List Int) : Str := Txt.join blT (lampS b :: ws.map numS)
def headS (d : Int) : Str := drT ++ numS d
def rowsS (ls : List Bool) (rss : List (List Int)) : List Str := List.zipWith rowS ls rss
def textS (d : Int) (rss : List (List Int)) (ls : List Bool) : Str := Txt.join nlT (headS d :: rowsS ls rss)
theorem str_ext {a b : Str} (h : a.cps.toList = b.cps.toList) : a = b := by
  cases a; cases b; simp at h; rw [h]
theorem str_app (a b : Str) : (a ++ b).cps.toList = a.cps.toList ++ b.cps.toList := by
  show (a.cps ++ b.cps).toList = _
  simp
theorem str_len (a : Str) : a.length = a.cps.toList.length := by rw [Array.length_toList]; rfl
theorem str_lapp (a b : Str) : (a ++ b).length = a.length + b.length := by rw [str_len, str_app, List.length_append, ← str_len, ← str_len]
theorem glue_fold (g : Array Nat) : ∀ (ys : List Str) (acc : Array Nat), (ys.foldl (fun acc p => acc ++ g ++ p.cps) acc).toList = acc.toList ++ ys.flatMap fun z => g.toList ++ z.cps.toList
  | [], acc => by simp
  | y :: ys, acc => by rw [List.foldl_cons, glue_fold g ys]; simp
theorem join_cps (sep y : Str) (ys : List Str) : (Txt.join sep (y :: ys)).cps.toList = y.cps.toList ++ ys.flatMap fun z => sep.cps.toList ++ z.cps.toList := by
  show (((y :: ys).drop 1).foldl (fun acc p => acc ++ sep.cps ++ p.cps) ((y :: ys).headD Str.empty).cps).toList = _
  rw [List.drop_one, List.tail_cons, glue_fold]
  rfl
theorem join_cps2 (sep : Str) : ∀ (ys : List Str) (y : Str), (sep.join (y :: ys)).cps.toList = y.cps.toList ++ ys.flatMap fun z => sep.cps.toList ++ z.cps.toList
  | [], y => by show y.cps.toList = _; simp
  | z :: ys, y => by
    show (y ++ sep ++ sep.join (z :: ys)).cps.toList = _
    rw [str_app, str_app, join_cps2 sep ys z]; simp
theorem join_one (sep y : Str) : Txt.join sep [y] = y := str_ext (by rw [join_cps]; simp)
theorem mid_inj (c : Nat) : ∀ (a b x y : List Nat), c ∉ a → c ∉ b → a ++ c :: x = b ++ c :: y → a = b ∧ x = y
  | [], [], x, y, _, _, h => ⟨rfl, by simpa using h⟩
  | [], b :: bs, x, y, _, hb, h => by
    have : c = b := by simpa using (List.cons.inj h).1
    exact absurd (by rw [this]; exact List.mem_cons_self) hb
  | a :: as, [], x, y, ha, _, h => by
    have : a = c := by simpa using (List.cons.inj h).1
    exact absurd (by rw [← this]; exact List.mem_cons_self) ha
  | a :: as, b :: bs, x, y, ha, hb, h => by
    obtain ⟨e1, e2⟩ := List.cons.inj h
    obtain ⟨e3, e4⟩ := mid_inj c as bs x y (fun z => ha (List.mem_cons_of_mem _ z)) (fun z => hb (List.mem_cons_of_mem _ z)) e2
    exact ⟨by rw [e1, e3], e4⟩
theorem jl_inj (c : Nat) : ∀ (as bs : List (List Nat)) (a b : List Nat), c ∉ a → c ∉ b → (∀ x ∈ as, c ∉ x) → (∀ x ∈ bs, c ∉ x) → a ++ as.flatMap (fun z => [c] ++ z) = b ++ bs.flatMap (fun z => [c] ++ z) → a = b ∧ as = bs
  | [], [], a, b, _, _, _, _, h => ⟨by simpa using h, rfl⟩
  | [], y :: bs, a, b, ha, _, _, _, h => by
    have h : a = b ++ (c :: (y ++ bs.flatMap (fun z => [c] ++ z))) := by simpa using h
    exact absurd (by rw [h]; simp) ha
  | x :: as, [], a, b, _, hb, _, _, h => by
    have h : a ++ (c :: (x ++ as.flatMap (fun z => [c] ++ z))) = b := by simpa using h
    exact absurd (by rw [← h]; simp) hb
  | x :: as, y :: bs, a, b, ha, hb, has, hbs, h => by
    have h : a ++ c :: (x ++ as.flatMap (fun z => [c] ++ z)) = b ++ c :: (y ++ bs.flatMap (fun z => [c] ++ z)) := by simpa using h
    obtain ⟨e1, e2⟩ := mid_inj c _ _ _ _ ha hb h
    obtain ⟨e3, e4⟩ := jl_inj c as bs x y (has x List.mem_cons_self) (hbs y List.mem_cons_self) (fun z hz => has z (List.mem_cons_of_mem _ hz)) (fun z hz => hbs z (List.mem_cons_of_mem _ hz)) e2
    exact ⟨e1, by rw [e3, e4]⟩
theorem map_cps_inj : ∀ {as bs : List Str}, as.map (fun z => z.cps.toList) = bs.map (fun z => z.cps.toList) → as = bs
  | [], [], _ => rfl
  | [], _ :: _, h => by simp at h
  | _ :: _, [], h => by simp at h
  | x :: as, y :: bs, h => by
    simp only [List.map_cons, List.cons.injEq] at h
    rw [str_ext h.1, map_cps_inj h.2]
theorem split_join (c : Nat) (y : Str) (ys : List Str) (h : ∀ z ∈ y :: ys, c ∉ z.cps.toList) : Txt.split (Txt.join ⟨#[c]⟩ (y :: ys)) ⟨#[c]⟩ = y :: ys := by
  have h1 := StrLaws.join_split (Txt.join ⟨#[c]⟩ (y :: ys)) ⟨#[c]⟩
  have h2 := StrLaws.split_free (Txt.join ⟨#[c]⟩ (y :: ys)) c
  have h3 := PyProof.Rows.split_pos (Txt.join ⟨#[c]⟩ (y :: ys)) ⟨#[c]⟩
  generalize Txt.split (Txt.join ⟨#[c]⟩ (y :: ys)) ⟨#[c]⟩ = ps at h1 h2 h3
  cases ps with
  | nil => simp at h3
  | cons p ps =>
    have e := congrArg (fun z : Str => z.cps.toList) h1
    simp only [join_cps, join_cps2] at e
    have fm : ∀ l : List Str, (l.flatMap fun z => (#[c] : Array Nat).toList ++ z.cps.toList) = (l.map fun z => z.cps.toList).flatMap fun z => [c] ++ z := fun l => by rw [List.flatMap_map]
    rw [fm, fm] at e
    obtain ⟨e1, e2⟩ := jl_inj c _ _ _ _ (h2 p List.mem_cons_self) (h y List.mem_cons_self) (fun x hx => by
      obtain ⟨z, hz, rfl⟩ := List.mem_map.mp hx
      exact h2 z (List.mem_cons_of_mem _ hz)) (fun x hx => by
      obtain ⟨z, hz, rfl⟩ := List.mem_map.mp hx
      exact h z (List.mem_cons_of_mem _ hz)) e
    rw [str_ext e1, map_cps_inj e2]
theorem lamp_free (b : Bool) : ∀ c ∈ (lampS b).cps.toList, 33 ≤ c := by cases b <;> decide
theorem lamp_len (b : Bool) : (lampS b).length ≤ 4 := by cases b <;> decide
theorem lamp_inj {a b : Bool} (h : lampS a = lampS b) : a = b := by
  revert a b; decide +kernel
/-- what the rows of a house's text are made of -/
theorem split_row {b : Bool} {ws : List Int} (h : ∀ x ∈ ws, 0 ≤ x ∧ x < 400) : Txt.split (rowS b ws) blT = lampS b :: ws.map numS := by
  refine split_join 32 (lampS b) (ws.map numS) fun z hz => ?_
  rcases List.mem_cons.mp hz with rfl | hz
  · intro m; have := lamp_free b 32 m; omega
  · obtain ⟨n, hn, rfl⟩ := List.mem_map.mp hz
    intro m
    have := (num_of (h n hn).1 (h n hn).2).2.1 32 m
    omega
theorem row_free {b : Bool} {ws : List Int} (h : ∀ x ∈ ws, 0 ≤ x ∧ x < 400) : ∀ c ∈ (rowS b ws).cps.toList, 32 ≤ c := by
  intro c hc
  rw [rowS, join_cps] at hc
  rcases List.mem_append.mp hc with hc | hc
  · have := lamp_free b c hc; omega
  · obtain ⟨z, hz, hc⟩ := List.mem_flatMap.mp hc
    obtain ⟨n, hn, rfl⟩ := List.mem_map.mp hz
    rcases List.mem_append.mp hc with hc | hc
    · have : c = 32 := by simpa [blT] using hc
      omega
    · have := (num_of (h n hn).1 (h n hn).2).2.1 c hc
      omega
theorem head_free {d : Int} (h0 : 0 ≤ d) (h1 : d < 400) : ∀ c ∈ (headS d).cps.toList, 32 ≤ c := by
  intro c hc
  rw [headS, str_app] at hc
  rcases List.mem_append.mp hc with hc | hc
  · have h32 : ∀ c ∈ drT.cps.toList, 32 ≤ c := by decide
    exact h32 c hc
  · have := (num_of h0 h1).2.1 c hc
    omega
theorem mem_zipWith {ls : List Bool} {rss : List (List Int)} {z : Str} (h : z ∈ rowsS ls rss) : ∃ b ws, ws ∈ rss ∧ z = rowS b ws := by
  obtain ⟨i, hi⟩ := List.getElem?_of_mem h
  unfold rowsS at hi
  rw [List.getElem?_zipWith_eq_some] at hi
  obtain ⟨b, ws, _, h2, h3⟩ := hi
  exact ⟨b, ws, List.mem_of_getElem? h2, h3.symm⟩
theorem split_text {d : Int} {rss : List (List Int)} {ls : List Bool} (h0 : 0 ≤ d) (h1 : d < 400) (h : ∀ ws ∈ rss, ∀ x ∈ ws, 0 ≤ x ∧ x < 400) : Txt.split (textS d rss ls) nlT = headS d :: rowsS ls rss := by
  refine split_join 10 (headS d) (rowsS ls rss) fun z hz => ?_
  rcases List.mem_cons.mp hz with rfl | hz
  · intro m; have := head_free h0 h1 10 m; omega
  · obtain ⟨b, ws, hw, rfl⟩ := mem_zipWith hz
    intro m
    have := row_free (h ws hw) 10 m
    omega
theorem starts_head (d : Int) : Txt.startswith (headS d) drT = true := by
  unfold Txt.startswith headS Builtin.Str.subAt
  have hl : drT.length = 6 := rfl
  rw [Bool.and_eq_true]
  refine ⟨by rw [str_lapp, hl]; simp, ?_⟩
  have : (drT ++ numS d).cps.extract 0 (0 + drT.length) = drT.cps := by
    apply Array.toList_inj.mp
    rw [Array.toList_extract, str_app, hl]
    simp [List.extract]
    rfl
  rw [this]; simp
theorem num_len {n : Int} (h0 : 0 ≤ n) (h1 : n < 400) : (numS n).length ≤ 3 := (num_of h0 h1).2.2
theorem sum_le {l : List Nat} {k : Nat} (h : ∀ x ∈ l, x ≤ k) : l.sum ≤ l.length * k := by
  induction l with
  | nil => simp
  | cons a r ih =>
    have h1 := h a List.mem_cons_self
    have h2 := ih fun x hx => h x (List.mem_cons_of_mem _ hx)
    rw [List.sum_cons, List.length_cons, Nat.succ_mul]
    omega
theorem join_len (sep : Str) : ∀ (ys : List Str) (y : Str), (Txt.join sep (y :: ys)).length = y.length + (ys.map fun z => sep.length + z.length).sum := by
  intro ys y
  rw [str_len, join_cps, List.length_append, List.length_flatMap, ← str_len]
  congr 2
  refine List.map_congr_left fun z _ => ?_
  rw [List.length_append, ← str_len, ← str_len]
theorem row_len {b : Bool} {ws : List Int} (h : ∀ x ∈ ws, 0 ≤ x ∧ x < 400) : (rowS b ws).length ≤ 4 + ws.length * 4 := by
  rw [rowS, join_len]
  have h1 := lamp_len b
  have h2 : ((ws.map numS).map fun z => blT.length + z.length).sum ≤ ((ws.map numS).map fun z => blT.length + z.length).length * 4 := sum_le fun x hx => by
    obtain ⟨z, hz, rfl⟩ := List.mem_map.mp hx
    obtain ⟨n, hn, rfl⟩ := List.mem_map.mp hz
    have := num_len (h n hn).1 (h n hn).2
    have : blT.length = 1 := rfl
    omega
  rw [List.length_map, List.length_map] at h2
  omega
theorem head_len {d : Int} (h0 : 0 ≤ d) (h1 : d < 400) : (headS d).length ≤ 9 := by
  rw [headS, str_lapp]
  have := num_len h0 h1
  have : drT.length = 6 := rfl
  omega
theorem rows_len {ls : List Bool} {rss : List (List Int)} : (rowsS ls rss).length ≤ rss.length := by
  unfold rowsS; rw [List.length_zipWith]; omega
theorem text_len {d : Int} {rss : List (List Int)} {ls : List Bool} (h0 : 0 ≤ d) (h1 : d < 400) (h : ∀ ws ∈ rss, ws.length ≤ 6 ∧ ∀ x ∈ ws, 0 ≤ x ∧ x < 400) : (textS d rss ls).length ≤ 9 + rss.length * 29 := by
  rw [textS, join_len]
  have a := head_len h0 h1
  have b : ((rowsS ls rss).map fun z => nlT.length + z.length).sum ≤ ((rowsS ls rss).map fun z => nlT.length + z.length).length * 29 := sum_le fun x hx => by
    obtain ⟨z, hz, rfl⟩ := List.mem_map.mp hx
    obtain ⟨b, ws, hw, rfl⟩ := mem_zipWith hz
    have := row_len (b := b) (h ws hw).2
    have := (h ws hw).1
    have : nlT.length = 1 := rfl
    omega
  rw [List.length_map] at b
  have := rows_len (ls := ls) (rss := rss)
  have : (rowsS ls rss).length * 29 ≤ rss.length * 29 := Nat.mul_le_mul_right _ this
  omega
/-- the numbers by their figures -/
def numT (n : Nat) : List (Key × V) := (List.range n).map fun (k : Nat) => ((Sum.inr (numS (k : Int)) : Key), V.int (k : Int))
theorem numT_succ (n : Nat) : numT (n + 1) = numT n ++ [((Sum.inr (numS (n : Int)) : Key), V.int (n : Int))] := by
  unfold numT; rw [List.range_succ, List.map_append]; rfl
theorem numT_none {n : Nat} (h : n < 400) : ∀ m, m ≤ n → valV (numT m) (Sum.inr (numS (n : Int)) : Key) = none
  | 0, _ => rfl
  | m + 1, hm => by
    have ih := numT_none h m (by omega)
    have hne : ¬ (Sum.inr (numS (n : Int)) : Key) = Sum.inr (numS (m : Int)) := fun z => by
      have := num_inj (by omega) (by omega) (by omega) (by omega) (Sum.inr.inj z)
      omega
    rw [numT_succ, ← putK_new (V.int (m : Int)) (numT_none (by omega) m (Nat.le_refl m)), valV_put, if_neg hne, ih]
theorem numT_get {n : Int} (h0 : 0 ≤ n) : ∀ m : Nat, m ≤ 400 → n < (m : Int) → valV (numT m) (Sum.inr (numS n) : Key) = some (.int n)
  | 0, _, h => by omega
  | m + 1, hm, h => by
    rw [numT_succ, ← putK_new (V.int (m : Int)) (numT_none (by omega) m (Nat.le_refl m)), valV_put]
    by_cases e : n = (m : Int)
    · rw [if_pos (by rw [e]), e]
    · have hne : ¬ (Sum.inr (numS n) : Key) = Sum.inr (numS (m : Int)) := fun z => e (num_inj h0 (by omega) (by omega) (by omega) (Sum.inr.inj z))
      rw [if_neg hne, numT_get h0 m (by omega) (by omega)]
theorem take_snocT {α : Type} {l : List α} {i : Nat} {x : α} (h : l[i]? = some x) : l.take (i + 1) = l.take i ++ [x] := by
  rw [List.take_add_one, h]; rfl
end My
/-! ### parts of a list -/
namespace L2
open PySem PySem.Spec PyProof.Rows
theorem six_none (n d : Nat) : HT.sIx n d none = d := rfl
theorem six_some {n d : Nat} {x : Int} (h : 0 ≤ x) : HT.sIx n d (some x) = min x.toNat n := by
  show (if x < 0 then (x + (n : Int)).toNat else min x.toNat n) = _
  rw [if_neg (by omega)]
theorem cut_from {xs : List V} {n : Int} (h0 : 0 ≤ n) (h : n ≤ xs.length) : cutV xs (some n) none = xs.drop n.toNat := by
  unfold cutV
  rw [six_some h0, six_none, Nat.min_eq_left (by omega), List.take_of_length_le (by rw [List.length_drop]; exact Nat.le_refl _)]
end L2
/-! ### what a learner knows, without the heap -/
namespace My

end My
/-! ### the guess of a learner -/
namespace My


end My
/-! ### dicts whose keys are things of the heap, of any kind -/
namespace L2
open PySem PySem.Spec PyProof.Rows

/-! ### in, not in, index: lists of lists -/

/-- lists at their places -/
structure LsAt {α : Type} (f : α → V) (H : Hp) (as : List Addr) (ws : List (List α)) : Prop where
  len : as.length = ws.length
  row : ∀ (i : Nat) a w, as[i]? = some a → ws[i]? = some w → H a = some (.lst (w.map f))

/-! ### every n-th item of a list -/



end L2
/-! ### the slow way of a learner -/
namespace My
end My
/-! ### a learner and a house that answers; rooms alike -/
namespace My
/-! the length of a least parting word -/

end My
namespace L2
open PySem PySem.Spec PyProof.Rows
end L2
/-! ### the keys of a dict with tuple keys, walked while the dict stands still -/
namespace L2
open PySem PySem.Spec PyProof.Rows



end L2
/-! ### list(zip(a, b)) -/
namespace L2
open PySem PySem.Spec PyProof.Rows
theorem star_lst {xs : List Expr} {p : Pos} {es : List Expr} {env : PySem.Env} : starEach (.List xs p :: es) env = (false, eval (.List xs p) env) :: starEach es env := by rfl


end L2
/-! ### the pairs of rooms of two houses that are walked at once -/
namespace My
open PySem L2 PyProof.Rows
section
variable {rss sss : List (List Int)}
variable {d : Int} (W : Ways d rss) (W2 : Ways d sss) (h1 : 0 < rss.length) (h2 : 0 < sss.length)
include W W2 h1 h2
end
end My
/-! ### try around one call of a def of the module, some handlers, each by its class or one above it: the names stand as before where it raises -/
namespace L2
open PySem PySem.Spec PyProof.Rows

end L2
namespace My
/-! ### numbers by first coming -/

end My
namespace My
/-! ### kinds of rooms, parted further by each round -/

end My
namespace My
/-! ### one room for each kind -/

end My
namespace My
/-! ### rooms in the order of their least words -/
end My
namespace My
/-! ### only the rooms that are reached -/

/-! ### one house with the fewest rooms -/

end My
namespace My
/-! ### a house that another one is like, room by room -/
end My
/-! ### max of a list of ints, index of an int, one of two rules -/
namespace L2
open PySem PySem.Spec PyProof.Rows

end L2
/-! ### keys that are a number and a tuple of numbers; setdefault -/
namespace PySem
open Sem (wp)


end PySem
namespace L2
open PySem PySem.Spec PyProof.Rows

end L2
/-! ### comprehensions whose element may raise -/
namespace PySem
section
variable {prog : Program} {w : World} {A : Around} {R : Result → Shared → Prop} {s : Shared}
theorem codeAny_compLoop_genX {elt target iter : Expr} {scope : Scope} {pos : Pos} {it acc : Value} {env : Env} (I : Nat → Shared → Prop)
    (turn : ∀ n s, I n s → wpAny (model prog w) A (pyNext it) (fun r s₁ => match r with
      | none => R (.ok .next) s₁
      | some v => wpAny (model prog w) A (letOwnedTupleGo target it v) (fun _ s₂ => wpAny (model prog w) A (assign target env v) (fun _ s₃ => wpAny (model prog w) A (eval elt env) (fun x s₄ =>
          wpAny (model prog w) A (call (.builtin "list.append") [acc, x]) (fun _ s₅ => ∃ m, m < n ∧ I m s₅) (fun _ _ => False) s₄) (notedBy (model prog w) A env fun x s' => R (.error x) s') s₃) (fun _ _ => False) s₂) (fun _ _ => False) s₁) (fun _ _ => False) s)
    (n : Nat) (h : I n s) : codeAny (model prog w) A (.compLoop (.ListComp elt [⟨target, iter, [], 0⟩] scope pos) 0 it acc env) R s := by
  refine codeAny_loop rfl I (fun n s hI => ?_) n h
  show wpAny _ _ ((compTurn (.ListComp elt [⟨target, iter, [], 0⟩] scope pos) 0 it acc env).onRaise (fun x => do noteFrame x env; theTreesLotGoes x)) _ _ s
  refine wpAny_noted ?_
  rw [compTurn_list1]
  refine wpAny_bind (wpAny_standAt (wpAny_bind (wpAny_mono (turn n s hI) (fun r s₁ h₁ => ?_) fun _ _ h' => h'.elim)))
  cases r with
  | none => exact wpAny_pure h₁
  | some v =>
    exact wpAny_bind (wpAny_mono h₁ (fun _ s₂ h₂ => wpAny_bind (wpAny_mono h₂ (fun _ s₃ h₃ => wpAny_bind (wpAny_bind (wpAny_mono h₃ (fun x s₄ h₄ => wpAny_bind (wpAny_mono h₄
      (fun _ s₅ h₅ => wpAny_pure (wpAny_pure ⟨rfl, h₅⟩)) fun _ _ h' => h'.elim)) fun _ _ h' => h'))) fun _ _ h' => h'.elim)) fun _ _ h' => h'.elim)
end
section
variable {M : Model} {A : Around} {E : Value → Shared → Prop} {s : Shared}
/-- an exception in flight, whatever frame holds it -/
def Heap.AnyW (base : Heap) (l : List Env) (e : Addr) (cls a0 : Value) (h : Heap) : Prop := base.StaysIn h ∧ base.get? e = none ∧ h.FunFrames base l ∧ ∃ fl, h.TracedAtW base e cls a0 fl
theorem leaves_anyW {base : Heap} {env : Env} {outer : List Env} {L e : Addr} {cls a0 : Value} {Q : Unit → Shared → Prop} (hfr : A.frames = some (env :: outer)) (hf : env.frame = some L)
    (hh : Heap.AnyW base (env :: outer) e cls a0 s.heap) (hQ : ∀ h', Heap.FlyingW base outer e cls a0 h' → s.heap.UpToSlots h' → Q () { s with heap := h' }) : wpAny M A (leaving env (.ref e)) Q E s := by
  obtain ⟨f1, f2, f3, fl, ft⟩ := hh
  by_cases hfl : fl = rawInt L
  · subst hfl
    unfold leaving
    refine wpAny_bind (wpAny_noteFrame_againW hf ft ?_)
    refine wpAny_landsW (L := L) ⟨f1, f2, f3, ft⟩ fun h' g sm => ?_
    exact hQ h' ⟨g.1, g.2.1, g.2.2.1.2.2, g.2.2.2⟩ sm
  · obtain ⟨oe, vs, T, oT, ts, he, ⟨hcls, h0⟩, hd, h1, hnT, hTe, hT, hdT, h3⟩ := ft
    subst hcls
    unfold leaving noteFrame
    simp only [hf]
    refine wpAny_bind (wpAny_bind (wpAny_field he hd h1 ?_))
    rw [if_pos (show (Value.ref T != Value.none) = true from by simp)]
    refine wpAny_bind (wpAny_field hT hdT h3 ?_)
    rw [if_neg (show ¬ ((fl == rawInt L) = true) from fun z => hfl (eq_of_beq z))]
    refine wpAny_bind (wpAny_setField hT hdT (Array.getElem?_eq_some_iff.mp h3).1 ?_)
    have other : ∀ b, b ≠ T → (s.heap.update T (Obj.mapFields (·.setIfInBounds 3 Value.none))).get? b = s.heap.get? b := fun b hb => Heap.get?_update_other _ _ (Ne.symm hb)
    have norec : ∀ b o, s.heap.get? b = some o → (∀ vs, o.data ≠ .fields vs) → b ≠ T := fun b o hb hn q => by
      rw [q, hT] at hb; cases hb; exact hn ts hdT
    refine wpAny_newEntryW hfr (f3.of_keeps fun b o hb hn => ⟨o, (other b (norec b o hb hn)).trans hb, rfl⟩) hf ((other e (Ne.symm hTe)).trans he)
      (fun b o hbo => (other b fun q => by rw [q, hnT] at hbo; cases hbo).trans (f1 b o hbo)) f2 hd (Array.getElem?_eq_some_iff.mp h1).1 h0 fun h' x => ?_
    exact hQ h' ⟨x.1, f2, x.2.1.2.2, x.2.2.1⟩ fun b o hb hn => x.2.2.2 b o ((other b (norec b o hb hn)).trans hb) hn
theorem passOn_anyW {α : Type} {what : String} {cenv : Env} {base : Heap} {l : List Env} {e : Addr} {cls a0 : Value} {Q : α → Shared → Prop} (hh : Heap.AnyW base l e cls a0 s.heap)
    (hQ : ∀ h', Heap.AnyW base l e cls a0 h' → s.heap.UpToSlots h' → E (.ref e) { s with heap := h' }) : wpAny M A (passOn what (.ref e) cenv : Sem α) Q E s := by
  obtain ⟨f1, f2, f3, fl, oe, vs, T, oT, ts, he, hc, hd, h1, hnT, hTe, hT, hdT, h3⟩ := hh
  have other : ∀ (x : Value) b, b ≠ T → (s.heap.update T (Obj.mapFields (·.setIfInBounds 3 x))).get? b = s.heap.get? b := fun x b hb => Heap.get?_update_other _ _ (Ne.symm hb)
  have norec : ∀ b o, s.heap.get? b = some o → (∀ vs, o.data ≠ .fields vs) → b ≠ T := fun b o hb hn q => by
    rw [q, hT] at hb; cases hb; exact hn ts hdT
  have hsz := (Array.getElem?_eq_some_iff.mp h3).1
  unfold passOn
  refine wpAny_bind (wpAny_field he hd h1 ?_)
  rw [if_neg (show ¬ ((Value.ref T == Value.none) = true) from by simp)]
  unfold setFlight
  refine wpAny_bind (wpAny_bind (wpAny_field he hd h1 ?_))
  rw [if_pos (show (Value.ref T != Value.none) = true from by simp)]
  refine wpAny_setField hT hdT hsz (wpAny_throw (hQ _ ⟨fun b o hbo => (other _ b fun q => by rw [q, hnT] at hbo; cases hbo).trans (f1 b o hbo), f2, f3.of_keeps fun b o hb hn => ⟨o, (other _ b (norec b o hb hn)).trans hb, rfl⟩, ?_⟩ fun b o hb hn => ⟨o.slots, (other _ b (norec b o hb hn)).trans hb⟩))
  exact ⟨cenv.frame.elim Value.none fun f => rawInt f, oe, vs, T, _, _, (other _ e (Ne.symm hTe)).trans he, hc, hd, h1, hnT, hTe, Heap.get?_update_self _ hT (Obj.isFreed_of_fields (Obj.data_mapFields hdT _)), Obj.data_mapFields hdT _, by simp [hsz]⟩
theorem any_but {base : Heap} {l : List Env} {e C : Addr} {cls a0 : Value} {h h' : Heap} {m : Str → Option Value} (hh : Heap.AnyW base l e cls a0 h) (hs : Heap.SameBut C h h') (hn : h.Ns C m) (hC : C ∉ l.filterMap (·.frame)) : Heap.AnyW (PySem.W.hideAll base [C]) l e cls a0 h' := by
  obtain ⟨f1, f2, f3, fl, oe, vs, T, oT, ts, he, hc, hd, h1, hnT, hTe, hT, hdT, h3⟩ := hh
  obtain ⟨oc, es, ep, hoc, hdc, _⟩ := hn
  have nrec : ∀ {b o vs}, h.get? b = some o → o.data = .fields vs → b ≠ C := fun hb hd' q => by
    rw [q, hoc] at hb; cases hb; rw [hdc] at hd'; cases hd'
  have hid : ∀ {b}, base.get? b = none → (PySem.W.hideAll base [C]).get? b = none := fun {b} hb => by
    cases q : (PySem.W.hideAll base [C]).get? b with
    | none => rfl
    | some o => rw [PySem.W.of_hideAll _ q] at hb; cases hb
  have ff : ∀ {l : List Env}, h.FunFrames base l → C ∉ l.filterMap (·.frame) → h'.FunFrames (PySem.W.hideAll base [C]) l := fun {l} => by
    induction l with
    | nil => intro _ _; trivial
    | cons env r ih =>
      rintro ⟨hk, ⟨L, o, hf, hn, ho, hd⟩, hr⟩ hnot
      have hLC : L ≠ C := fun z => hnot (by rw [← z]; exact List.mem_filterMap.mpr ⟨env, List.mem_cons_self, hf⟩)
      exact ⟨hk, ⟨L, o, hf, hid hn, (hs.2 L hLC).trans ho, hd⟩, ih hr fun z => hnot (by obtain ⟨x, hx, hy⟩ := List.mem_filterMap.mp z; exact List.mem_filterMap.mpr ⟨x, List.mem_cons_of_mem _ hx, hy⟩)⟩
  refine ⟨fun b o hb => ?_, hid f2, ff f3 hC, fl, oe, vs, T, oT, ts, (hs.2 e (nrec he hd)).trans he, hc, hd, h1, hid hnT, hTe, (hs.2 T (nrec hT hdT)).trans hT, hdT, h3⟩
  have hbC : b ≠ C := fun z => by
    rw [z, PySem.W.hideAll_none [C] (by simp)] at hb; cases hb
  exact (hs.2 b hbC).trans (f1 b o (PySem.W.of_hideAll _ hb))
end
end PySem
namespace L2
open PySem PySem.Spec PyProof.Rows
def blkX (X : Cx) (N' : List Str) (scope : Scope) (cl : List (Str × Addr)) (C : Addr) (s : Shared) (H : Hp) (ex : List Addr) (pins : List (Addr × Obj)) (xe' : Value → Shared → Prop) : Cx := { blk X N' scope cl C s H ex pins with xe := xe' }
theorem Inv.toB {X : Cx} {N' : List Str} {scope : Scope} {cl : List (Str × Addr)} {C : Addr} {s : Shared} {H : Hp} {ex : List Addr} {pins pins' : List (Addr × Obj)} {xe' : Value → Shared → Prop} {σ' : St} {H' : Hp} {s' : Shared} (I : Inv (blk X N' scope cl C s H ex pins) pins' σ' H' s') : Inv (blkX X N' scope cl C s H ex pins xe') pins' σ' H' s' :=
  ⟨⟨I.ok.mod, I.ok.kind, I.ok.glob, I.ok.blt, I.ok.above, I.ok.inj, I.ok.has, I.ok.cab, I.ok.hd, I.ok.frames, I.ok.stk, I.ok.exf, I.ok.bs, I.ok.bsz, I.ok.noex, I.ok.exfs, I.ok.funs, I.ok.frf⟩, I.os, I.bare, I.base, I.loc, I.cell, I.free, I.freeC, I.pin, I.hok, I.len⟩
theorem Inv.ofB {X : Cx} {N' : List Str} {scope : Scope} {cl : List (Str × Addr)} {C : Addr} {s : Shared} {H : Hp} {ex : List Addr} {pins pins' : List (Addr × Obj)} {xe' : Value → Shared → Prop} {σ' : St} {H' : Hp} {s' : Shared} (I : Inv (blkX X N' scope cl C s H ex pins xe') pins' σ' H' s') : Inv (blk X N' scope cl C s H ex pins) pins' σ' H' s' :=
  ⟨⟨I.ok.mod, I.ok.kind, I.ok.glob, I.ok.blt, I.ok.above, I.ok.inj, I.ok.has, I.ok.cab, I.ok.hd, I.ok.frames, I.ok.stk, I.ok.exf, I.ok.bs, I.ok.bsz, I.ok.noex, I.ok.exfs, I.ok.funs, I.ok.frf⟩, I.os, I.bare, I.base, I.loc, I.cell, I.free, I.freeC, I.pin, I.hok, I.len⟩
/-- an exception that came through a block of this frame -/
def XpH (X : Cx) (E : XK) : Prop := ∀ (pins : List (Addr × Obj)) (σ : St) (H' : Hp) (s' s6 : Shared) (ea : Addr) (cls a0 : Value) (B : Heap), Inv X pins σ H' s' → s6.os = s'.os → AllBare s6.gens → B.StaysIn s'.heap → Heap.AnyW B X.stack ea cls a0 s6.heap →
  (∀ b o, s'.heap.get? b = some o → b ∈ X.fs → ∃ sl, s6.heap.get? b = some { o with slots := sl }) → (∀ b o, X.s₀.heap.get? b = some o → b ∉ X.fs → ∃ o', B.get? b = some o') → (∀ b u, H' b = some u → ∃ o', B.get? b = some o') → E cls none H' → X.xe (.ref ea) s6
section
variable {P : Program} {w : World} {K : PySem.W.Frag} {mg : Str → Option Value} {base : Heap} {N : List Str} {qual : Str} {scope : Scope} {f : Addr} {cd : Value} {A : Around} {outer : List Env} {s : Shared} {H : Hp} {E : XK}
theorem xh_def : XpH (cxOf (CXr P w) P w K mg base N qual scope f cd A outer s H E) E := by
  intro pins σ H' s' s6 ea cls a0 B I ho hg b1 hh sm d1 tr hE
  refine leaves_anyW I.ok.frames rfl hh fun h' fl' sm' => ?_
  obtain ⟨un, hk⟩ := leave_un I rfl b1 fl'.1 (fun b o q hb => by
    obtain ⟨sl, e⟩ := sm b o q hb
    obtain ⟨sl', e'⟩ := sm' b _ e (fun vs z => I.nonrec q hb vs z)
    exact ⟨sl', e'⟩) d1 tr
  exact ⟨ea, cls, a0, B, H', rfl, ho.trans I.os, hg, un, hk, fl', d1, tr, hE⟩
end
section
variable {X : Cx} {scope : Scope} {N' : List Str} {caps : List (Option Nat)} {elt iter tg : Expr} {pos : Pos} {wi : TI} {g : TG} {te : TE}
theorem comp_pass {pins pins' : List (Addr × Obj)} {s s1 s' : Shared} {σ σ' : St} {H H1 : Hp} {cl : List (Str × Addr)} {C : Addr} {fp : List Addr} {EK : XK} {e : Value} {acc : Value} {Q : Value → Shared → Prop} (hstk : X.stack = X.env :: X.outer) (hfr : X.env.frame = some X.env.locals) (hxh : XpH X EK) (hex : X.ex = [])
    (I : Inv X pins σ H s) (f2 : ∀ b ∈ fp, FpOk X pins H b) (hC : s.heap.objs.size ≤ C) (J : Inv (blk X N' scope cl C s H fp pins) pins' σ' H1 s1) (hx : CXr X.prog X.w X.stack H1 s1 EK e s') :
    notedBy (model X.prog X.w) X.A (compEnvC scope cl C X.env) (fun x s'' => compPost (model X.prog X.w) X.A X.xe none Q acc C (.error x) s'') e s' := by
  obtain ⟨ea, cls, a0, B, H', rfl, ho, hgn, u, hok, fl, dm, tr, hE⟩ := hx
  have IX : Inv X pins σ H1 s1 := blk_back I J f2
  have I' : Inv X pins σ H' s' := IX.call' ho u hok hgn (fun b hb => by cases hb)
  have J' : Inv (blk X N' scope cl C s H fp pins) pins' σ' H' s' := J.call' ho u hok hgn (fun b hb => by cases hb)
  obtain ⟨m, hm, _⟩ := id J'.loc
  have hCn : H' C = none := J'.free
  have hCf : C ∉ X.stack.filterMap (·.frame) := fun z => by
    have z : C ∈ frs X.stack := z
    rw [hstk] at z
    have hlt : X.env.locals < s.heap.objs.size := I.lt
    rcases List.mem_filterMap.mp z with ⟨env, hm, hf⟩
    have z2 := IX.stkSub C (by rw [hstk]; exact z)
    rcases List.mem_cons.mp z2 with z2 | z2
    · rw [z2] at hC; exact absurd (Nat.lt_of_lt_of_le hlt hC) (Nat.lt_irrefl _)
    · obtain ⟨_, o, q, _⟩ := I.funs.mem z2
      have := Heap.lt_size q
      exact absurd (Nat.lt_of_lt_of_le this hC) (Nat.lt_irrefl _)
  have fl0 := fl
  rw [hstk] at fl
  show wpAny _ _ (noteFrame (.ref ea) X.env) _ _ s'
  refine wpAny_looks_onW (by rw [← hstk]; exact I.ok.frames) hfr fl fun h4 held sm4 => ?_
  refine ⟨m, sm4.ns hm, fun h5 hs5 cenv _ => ?_⟩
  have any4 : Heap.AnyW B X.stack ea cls a0 h4 := by rw [hstk]; exact ⟨held.1, held.2.1, held.2.2.1, _, held.2.2.2⟩
  have any5 := any_but any4 hs5 (sm4.ns hm) hCf
  refine passOn_anyW any5 fun h6 any6 sm6 => ?_
  refine hxh pins σ H' s' _ ea cls a0 _ I' rfl hgn (fun b o hb => fl0.1 b o (PySem.W.of_hideAll _ hb)) any6 (fun b o q hb => ?_) (fun b o q hb => ?_) (fun b v q => ?_) hE
  · have hbC : b ≠ C := fun z => hCf (by
      have : b ∈ frs X.stack := by rw [hstk]; unfold frs; rw [List.filterMap_cons, hfr]; exact List.mem_cons_of_mem _ hb
      rw [← z]; exact this)
    obtain ⟨sl, e4⟩ := sm4 b o q (I'.nonrec q hb)
    have e5 : h5.get? b = some { o with slots := sl } := (hs5.2 b hbC).trans e4
    obtain ⟨sl', e6⟩ := sm6 b _ e5 (fun vs z => I'.nonrec q hb vs z)
    exact ⟨sl', e6⟩
  · obtain ⟨o1, e1⟩ := IX.base.there b o q (fun z => by rw [hex] at z; cases z)
    obtain ⟨o', e'⟩ := dm b o1 e1 (IX.offStack q hb)
    refine ⟨o', PySem.W.hideAll_get _ e' ?_⟩
    have h1 := Heap.lt_size q
    have h2 : X.s₀.heap.objs.size ≤ s.heap.objs.size := I.sz
    intro z
    rw [List.mem_singleton.mp z] at h1
    exact absurd (Nat.lt_of_lt_of_le h1 (Nat.le_trans h2 hC)) (Nat.lt_irrefl _)
  · obtain ⟨o', e'⟩ := tr b v q
    refine ⟨o', PySem.W.hideAll_get _ e' fun z => ?_⟩
    rw [List.mem_singleton.mp z, hCn] at q; cases q
theorem comp_coreX {pins : List (Addr × Obj)} {s : Shared} {σ : St} {H : Hp} {cl : List (Str × Addr)} {Q : VK} {E : Value → Shared → Prop} {RR : Value → Addr → Result → Shared → Prop} {EK : XK} {it : Addr} {fp : List Addr} {tn : Nat → Heap → Prop} {J : It} (hc : X.calm = true) (S : BlkScope X.N X.env.scope scope N' caps)
    (hg : ∀ cl C s H ex pins, PG (blk X N' scope cl C s H ex pins) tg g) (he : ∀ cl C s H ex pins xe', Passes (CXr X.prog X.w) (blkX X N' scope cl C s H ex pins xe') EK → PE (blkX X N' scope cl C s H ex pins xe') elt te)
    (hcl1 : ∀ x c, cl.lookup x = some c → X.env.cells.lookup x = some c) (hcl2 : ∀ x ∈ scope.names, x.2 = .free → ∃ c, cl.lookup x.1 = some c)
    (I : Inv X pins σ H s) (T : Turn X.prog X.w X.K tg J fp it tn) (st : tn 0 s.heap) (f2 : ∀ b ∈ fp, FpOk X pins H b) (R : CompR caps g te σ Q J H)
    (hRR : ∀ acc C H' s' m, s.heap.objs.size ≤ C → s'.heap.Ns C m → Inv X pins σ H' s' → H' C = none → Q (.ref acc) H' → RR (.ref acc) C (.ok .next) s')
    (hEE : ∀ acc C pins' σ' H1 s1 e s', s.heap.objs.size ≤ C → Inv (blk X N' scope cl C s H fp pins) pins' σ' H1 s1 → CXr X.prog X.w X.stack H1 s1 EK e s' → notedBy (model X.prog X.w) X.A (compEnvC scope cl C X.env) (fun x s'' => RR (.ref acc) C (.error x) s'') e s') :
    wpAny (model X.prog X.w) X.A (newList []) (fun acc s₃ => wpAny (model X.prog X.w) X.A (newFunctionEnv scope X.env.globals cl [] X.env.qual none .none (some X.env)) (fun cenv s₄ =>
      codeAny (model X.prog X.w) X.A (.compStart (.ListComp elt [⟨tg, iter, [], 0⟩] scope pos) 0 (.ref it) acc { cenv with scope := relabel scope X.env }) (RR acc cenv.locals) s₄) E s₃) E s := by
  refine wpAny_newObj_type (wpAny_newFunctionEnv S.nocell (by intro y hy; simp at hy) (fun h₁ hns₁ hsb₁ => ?_) S.kind)
  dsimp only at hns₁ hsb₁ ⊢
  generalize hP2 : s.heap.push { cls := .type "list", dict := none, data := .seq ([] : List Value).toArray } = P2 at hns₁ hsb₁ ⊢
  have hC : P2.objs.size = s.heap.objs.size + 1 := by rw [← hP2, Heap.size_push]
  have hDC : s.heap.objs.size ≠ P2.objs.size := by rw [hC]; exact Nat.ne_of_lt (Nat.lt_succ_self _)
  have hCle : s.heap.objs.size ≤ P2.objs.size := by rw [hC]; exact Nat.le_succ _
  have old : ∀ b o, s.heap.get? b = some o → h₁.get? b = some o := fun b o e => hsb₁.extBut b o (by rw [hC]; exact Nat.ne_of_lt (Nat.lt_succ_of_lt (Heap.lt_size e))) (Heap.get?_push_of_some _ (hP2 ▸ Heap.get?_push_of_some _ e))
  have hacc : h₁.get? s.heap.objs.size = some { cls := .type "list", data := .seq #[] } := hsb₁.extBut _ _ hDC (Heap.get?_push_of_some _ (hP2 ▸ Heap.get?_push_size _ rfl))
  have hex : ∀ b ∈ fp, b < s.heap.objs.size := fun b hb => by obtain ⟨o, e, _⟩ := T.obj 0 _ st b hb; exact Heap.lt_size e
  obtain ⟨W, ⟨m0, w0⟩, turn⟩ := R s.heap.objs.size (I.hok.fresh (Nat.le_refl _))
  have I3 : ∀ t', Inv (blk X N' scope cl P2.objs.size s H fp pins) [] (capσ caps σ) (upd H s.heap.objs.size (.lst [])) { s with heap := h₁, toks := t' } := fun t' => blk_inv (t' := t') I S hcl1 hcl2 hCle f2 hex hns₁ old hacc (Nat.le_refl _) hDC
  have stat : ∀ {H' : Hp}, (∀ b ∈ fp, H' b = none) → ∀ b ∈ fp, FpOk (blk X N' scope cl P2.objs.size s H fp pins) [] H' b := fun hn b hb => by
    obtain ⟨_, q1, q2, q3, q4, q5⟩ := f2 b hb
    refine ⟨hn b hb, Nat.ne_of_lt (Nat.lt_of_lt_of_le (hex b hb) hCle), fun z => ?_, .inl hb, fun x c e => q4 x c (hcl1 x c e), fun p hp => q5 p ?_⟩
    · rcases List.mem_cons.mp (I.stkSub b z) with z | z
      · exact q1 z
      · exact q2 z
    · have : p ∈ (X.pn ++ pins) ++ [] := hp
      simpa using this
  have loop : ∀ s₃ : Shared, s₃ = { s with heap := h₁, toks := s.toks + ([] : List (Str × Value)).length } →
      codeAny (model X.prog X.w) X.A (.compLoop (.ListComp elt [⟨tg, iter, [], 0⟩] scope pos) 0 (.ref it) (.ref s.heap.objs.size) (compEnvC scope cl P2.objs.size X.env)) (RR (.ref s.heap.objs.size) P2.objs.size) s₃ := by
    rintro s₃ rfl
    refine codeAny_compLoop_genX (fun n s' => ∃ i ys H', Inv (blk X N' scope cl P2.objs.size s H fp pins) [] (capσ caps σ) H' s' ∧ tn i s'.heap ∧ (∀ b ∈ fp, H' b = none) ∧ W i n ys H') ?_ m0
      ⟨0, [], _, I3 _, T.keep 0 _ _ st (fun b _ o e => old b o e), fun b hb => by rw [upd_ne (Nat.ne_of_lt (hex b hb))]; exact (f2 b hb).1, w0⟩
    rintro n s4 ⟨i, ys, H4, I4, st4, fr4, w4⟩
    rcases turn i n ys H4 w4 with ⟨stop, q⟩ | ⟨go, N, hN, step⟩
    · refine thn (T.done (blk X N' scope cl P2.objs.size s H fp pins) rfl rfl rfl hc i [] s4 _ H4 _ I4 (stat fr4) st4 stop) fun r s5 ⟨hr, I5⟩ => ?_
      subst hr
      obtain ⟨m, hm, _⟩ := id I5.loc
      exact hRR _ _ H4 s5 m hCle hm (blk_back I I5 f2) I5.free q
    · refine thn (T.item (blk X N' scope cl P2.objs.size s H fp pins) rfl rfl rfl hc i [] s4 _ H4 _ I4 (stat fr4) st4 go) fun r s5 ⟨u, hr, h5⟩ => ?_
      subst hr
      refine thn h5 fun _ s6 ⟨x, H6, I6, r6, y6, st6, fr6⟩ => ?_
      have I6' := I6.pinned (stat fr6) (T.obj _ _ st6)
      refine thn (hg cl _ s H fp pins _ s6 _ H6 x u _ I6' r6 (step x H6 y6)) fun _ s7 ⟨σ7, H7, I7, wk7, q7⟩ => ?_
      refine wpAny_mono (he cl _ s H fp pins (notedBy (model X.prog X.w) X.A (compEnvC scope cl P2.objs.size X.env) fun x s'' => RR (.ref s.heap.objs.size) P2.objs.size (.error x) s'') (fun pins' σ' H1 s1 e s' I1 hx => hEE _ _ pins' σ' H1 s1 e s' hCle I1.ofB hx) _ s7 σ7 H7 _ I7.toB q7) (fun yv s8 ⟨y, H8, I8, r8, ha8, hsz8, w8⟩ => ?_) fun _ _ z => z
      have I8 := I8.ofB
      refine thn (mt_append (X := blk X N' scope cl P2.objs.size s H fp pins) _ s8 σ7 H8 (.ref s.heap.objs.size) [y] (.ref s.heap.objs.size) [yv] (fun _ H9 => H9 = upd H8 s.heap.objs.size (.lst (ys ++ [y]))) I8 rfl (.cons r8 .nil) ⟨_, ys, y, rfl, rfl, ha8, hsz8, rfl⟩) fun _ s9 ⟨_, H9, I9, _, e9⟩ => ?_
      subst e9
      obtain ⟨m', hm', w8⟩ := hN _ _ w8
      refine ⟨m', hm', i + 1, ys ++ [y], _, I9.unpinned.weak wk7.1 wk7.2, T.keep _ _ _ st6 fun b hb o e => (I9.pin (b, o) (List.mem_append_right _ (List.mem_append_right _ (mem_pinsAt hb e)))).1, fun b hb => ?_, w8⟩
      obtain ⟨o, e, d⟩ := T.obj _ _ st6 b hb
      exact (I9.pin (b, o) (List.mem_append_right _ (List.mem_append_right _ (mem_pinsAt hb e)))).2.1
  exact codeAny_compStart_list (loop _ rfl) (T.self _ 0 _ _ _ (T.keep 0 _ _ st (fun b _ o e => old b o e)) (loop _ rfl))

theorem pe_compX {N : List Str} {sc0 : Scope} {EK : XK} (S : BlkScope N sc0 scope N' caps) (hc : X.calm = true) (hi : PI X tg iter wi)
    (hg : ∀ cl C s H ex pins, PG (blk X N' scope cl C s H ex pins) tg g) (he : ∀ cl C s H ex pins xe', Passes (CXr X.prog X.w) (blkX X N' scope cl C s H ex pins xe') EK → PE (blkX X N' scope cl C s H ex pins xe') elt te) (hstk : X.stack = X.env :: X.outer) (hfr : X.env.frame = some X.env.locals) (hxh : XpH X EK) (hex : X.ex = [])
    (hs : ∀ x, foldedSetIterable iter X.env x = pure x := by intro _; rfl) (hN0 : X.N = N := by rfl) (h00 : X.env.scope = sc0 := by rfl) : PE X (.ListComp elt [⟨tg, iter, [], 0⟩] scope pos) (tComp wi g te caps) := by
  subst hN0 h00
  intro pins s σ H Q I h
  obtain ⟨cl, hclos, hcl1, hcl2⟩ := clos_of I S
  rw [eval_ListComp]
  refine wpAny_comprehension_free (use := none) rfl hs hclos S.kind S.names (thn (hi pins s σ H _ I h) fun xv s1 h1 => thn h1 fun itv s2 h2 => ?_)
  obtain ⟨it, fp, tn, J, H2, e, I2, T, st2, f2, R⟩ := h2
  subst e
  refine comp_coreX (EK := EK) (RR := fun acc C => compPost (model X.prog X.w) X.A X.xe none (EP X pins σ Q) acc C) hc S hg he hcl1 hcl2 I2 T st2 f2 R ?_ (fun acc C pins' σ' H1 s1 e s' hC I1 hx => comp_pass hstk hfr hxh hex I2 f2 hC I1 hx)
  intro acc C H' s' m hC hm J' hn q
  exact ⟨m, hm, fun h' hs' => ⟨.ref _, H', I2.letC hC J' hn hs', rfl, q⟩⟩

end
end L2
/-! ### exceptions that were raised while none was handled: no context -/
namespace PySem
section
variable {M : Model} {A : Around} {E : Value → Shared → Prop} {s : Shared}
def NoCtx (h : Heap) (e : Addr) : Prop := ∃ oe vs, h.get? e = some oe ∧ oe.data = .fields vs ∧ vs[2]? = some .none
/-- a new entry of the trace: of the exception only its second field is put -/
theorem entryC {base : Heap} {env : Env} {outer : List Env} {L e : Addr} {oe : Obj} {vs : Array Value} {head : Value} {hadNext : Bool} {Q : Unit → Shared → Prop}
    (hfr : A.frames = some (env :: outer)) (hl : s.heap.FunFrames base (env :: outer)) (hf : env.frame = some L) (he : s.heap.get? e = some oe) (hkb : base.StaysIn s.heap) (hen : base.get? e = none) (hd : oe.data = .fields vs) (hsz : 1 < vs.size)
    (h : ∀ h' T oT ts, base.StaysIn h' → h'.FunFrames base (env :: outer) → h'.get? e = some (Obj.mapFields (·.setIfInBounds 1 (.ref T)) oe) → base.get? T = none → T ≠ e → h'.get? T = some oT → oT.data = .fields ts → ts[3]? = some (rawInt L) → s.heap.UpToSlots h' → Q () { s with heap := h' }) :
    wpAny M A (do let a ← frameOf env; let pl ← entryPlaceOf L hadNext; let b ← EntryCells.newEntry head a .none (rawInt L) .none pl; setField (.ref e) 1 b) Q E s := by
  have norec : ∀ b o, s.heap.get? b = some o → (∀ vs, o.data ≠ .fields vs) → b ≠ e := fun b o hb hn q => by
    rw [q, he] at hb; cases hb; exact hn vs hd
  have out : e ∉ (env :: outer).filterMap (·.frame) := fun hm => by
    obtain ⟨_, o, ho, hn⟩ := hl.mem hm
    exact norec e o ho hn rfl
  refine wpAny_bind (wpAny_frameOf_fun hfr hl hf fun h₁ hs₁ => wpAny_bind (wpAny_entryPlaceOf fun pl hpl => ?_))
  unfold EntryCells.newEntry newFields
  refine wpAny_bind (wpAny_newObj_type ?_ (hpl.sizeOk5 _ _ _ _ _))
  have e1 : h₁.get? e = some oe := (hs₁.2.1 e out).trans he
  have b1 : base.StaysIn h₁ := fun b o hb => (hs₁.2.1 b fun hm => by rw [(hl.mem hm).1] at hb; cases hb).trans (hkb b o hb)
  obtain ⟨N, hN⟩ : ∃ N : Obj, N = { cls := .type "traceback", dict := none, data := .fields ([head, .ref L, .none, rawInt L, .none] ++ (if pl.isEmpty then List.replicate 6 Value.none else pl)).toArray } := ⟨_, rfl⟩
  rw [← hN]
  have e2 : (h₁.push N).get? e = some oe := Heap.get?_push_of_some N e1
  have nT : h₁.objs.size ≠ e := Nat.ne_of_gt (Heap.lt_size e1)
  have e3 := Heap.get?_update_self (Obj.mapFields (·.setIfInBounds 1 (Value.ref h₁.objs.size))) e2 (Obj.isFreed_of_fields (Obj.data_mapFields hd _))
  have keep : ∀ b o, b ≠ e → h₁.get? b = some o → ((h₁.push N).update e (Obj.mapFields (·.setIfInBounds 1 (Value.ref h₁.objs.size)))).get? b = some o := fun b o hb q => by
    rw [Heap.get?_update_other _ _ (Ne.symm hb)]; exact Heap.get?_push_of_some N q
  have slot : ∀ b o, s.heap.get? b = some o → (∀ vs, o.data ≠ .fields vs) → ∃ sl, ((h₁.push N).update e (Obj.mapFields (·.setIfInBounds 1 (Value.ref h₁.objs.size)))).get? b = some { o with slots := sl } := fun b o hb hn => by
    obtain ⟨sl, q⟩ := hs₁.2.2 b o hb
    exact ⟨sl, keep b _ (norec b o hb hn) q⟩
  refine wpAny_setField e2 hd hsz (h _ h₁.objs.size N ([head, .ref L, .none, rawInt L, .none] ++ (if pl.isEmpty then List.replicate 6 Value.none else pl)).toArray (fun b o hb => keep b o (fun q => by rw [q, hen] at hb; cases hb) (b1 b o hb)) (hl.of_keeps fun b o hb hn => by
    obtain ⟨sl, q⟩ := slot b o hb hn
    exact ⟨_, q, rfl⟩) e3 b1.fresh nT ?_ (by rw [hN]) (by simp) slot)
  rw [Heap.get?_update_other _ _ (Ne.symm nT)]
  refine Heap.get?_push_size h₁ ?_
  rw [hN]; rfl
theorem leavesC {base : Heap} {env : Env} {outer : List Env} {L e : Addr} {oe : Obj} {vs : Array Value} {cls a0 : Value} {Q : Unit → Shared → Prop} (hfr : A.frames = some (env :: outer)) (hf : env.frame = some L) (f1 : base.StaysIn s.heap) (f2 : base.get? e = none) (f3 : s.heap.FunFrames base (env :: outer))
    (he : s.heap.get? e = some oe) (hc : oe.cls = cls) (hd : oe.data = .fields vs) (h0 : vs[0]? = some a0) (h2 : vs[2]? = some .none) (h1 : vs[1]? = some .none ∨ ∃ T oT ts, vs[1]? = some (.ref T) ∧ base.get? T = none ∧ T ≠ e ∧ s.heap.get? T = some oT ∧ oT.data = .fields ts ∧ ts[3]? = some .none)
    (hQ : ∀ h', Heap.FlyingW base outer e cls a0 h' → NoCtx h' e → s.heap.UpToSlots h' → Q () { s with heap := h' }) : wpAny M A (leaving env (.ref e)) Q E s := by
  have hs2 := (Array.getElem?_eq_some_iff.mp h2).1
  -- what the entry leaves, then the flight put out
  have fin : ∀ {s2 : Shared} {T : Addr} {oT : Obj} {ts : Array Value}, base.StaysIn s2.heap → s2.heap.FunFrames base (env :: outer) → s2.heap.get? e = some (Obj.mapFields (·.setIfInBounds 1 (.ref T)) oe) → base.get? T = none → T ≠ e → s2.heap.get? T = some oT → oT.data = .fields ts → 3 < ts.size →
      (∀ h', Heap.FlyingW base outer e cls a0 h' → NoCtx h' e → s2.heap.UpToSlots h' → Q () { s2 with heap := h' }) → wpAny M A (setFlight (.ref e) none) Q E s2 := fun {s2 T oT ts} k1 k2 k3 k4 k5 k6 k7 k8 hq => by
    have d3 := Obj.data_mapFields hd (·.setIfInBounds 1 (Value.ref T))
    have norec : ∀ b o, s2.heap.get? b = some o → (∀ vs, o.data ≠ .fields vs) → b ≠ T := fun b o hb hn q => by
      rw [q, k6] at hb; cases hb; exact hn ts k7
    have other : ∀ (x : Value) b, b ≠ T → (s2.heap.update T (Obj.mapFields (·.setIfInBounds 3 x))).get? b = s2.heap.get? b := fun x b hb => Heap.get?_update_other _ _ (Ne.symm hb)
    have hs1 : 1 < vs.size := by omega
    unfold setFlight
    refine wpAny_bind (wpAny_field k3 d3 (x := .ref T) (by simp [hs1]) ?_)
    rw [if_pos (show (Value.ref T != Value.none) = true from by simp)]
    refine wpAny_setField k6 k7 k8 (hq _ ⟨fun b o hb => (other _ b fun q => by rw [q, k4] at hb; cases hb).trans (k1 b o hb), f2, (k2.of_keeps (fun b o hb hn => ⟨o, (other (((none : Option Addr).elim Value.none fun f => rawInt f)) b (norec b o hb hn)).trans hb, rfl⟩)).2.2, ?_⟩ ?_ fun b o hb hn => ⟨o.slots, (other _ b (norec b o hb hn)).trans hb⟩)
    · exact ⟨_, _, T, _, _, (other _ e (Ne.symm k5)).trans k3, ⟨by rw [Obj.cls_mapFields]; exact hc, by rw [Array.getElem?_setIfInBounds_ne (by decide)]; exact h0⟩, d3, by simp [hs1], k4, k5, Heap.get?_update_self _ k6 (Obj.isFreed_of_fields (Obj.data_mapFields k7 _)), Obj.data_mapFields k7 _, by simp [k8]⟩
    · exact ⟨_, _, (other _ e (Ne.symm k5)).trans k3, d3, by rw [Array.getElem?_setIfInBounds_ne (by decide)]; exact h2⟩
  have hs1 : 1 < vs.size := by omega
  unfold leaving noteFrame
  simp only [hf]
  rcases h1 with h1 | ⟨T, oT, ts, h1, hnT, hTe, hT, hdT, h3⟩
  · refine wpAny_bind (wpAny_bind (wpAny_field he hd h1 ?_))
    rw [if_neg (by decide)]
    refine entryC hfr f3 hf he f1 f2 hd hs1 fun h' T oT ts k1 k2 k3 k4 k5 k6 k7 k8 k9 => ?_
    exact fin (s2 := { s with heap := h' }) k1 k2 k3 k4 k5 k6 k7 (Array.getElem?_eq_some_iff.mp k8).1 fun h'' q1 q2 q3 => hQ h'' q1 q2 (k9.trans q3)
  · refine wpAny_bind (wpAny_bind (wpAny_field he hd h1 ?_))
    rw [if_pos (show (Value.ref T != Value.none) = true from by simp)]
    refine wpAny_bind (wpAny_field hT hdT h3 ?_)
    rw [if_neg (show ¬ ((Value.none == rawInt L) = true) from by simp [rawInt])]
    refine wpAny_bind (wpAny_setField hT hdT (Array.getElem?_eq_some_iff.mp h3).1 ?_)
    have other : ∀ b, b ≠ T → (s.heap.update T (Obj.mapFields (·.setIfInBounds 3 Value.none))).get? b = s.heap.get? b := fun b hb => Heap.get?_update_other _ _ (Ne.symm hb)
    have norec : ∀ b o, s.heap.get? b = some o → (∀ vs, o.data ≠ .fields vs) → b ≠ T := fun b o hb hn q => by
      rw [q, hT] at hb; cases hb; exact hn ts hdT
    refine entryC hfr (f3.of_keeps fun b o hb hn => ⟨o, (other b (norec b o hb hn)).trans hb, rfl⟩) hf ((other e (Ne.symm hTe)).trans he) (fun b o hb => (other b fun q => by rw [q, hnT] at hb; cases hb).trans (f1 b o hb)) f2 hd hs1 fun h' T2 oT2 ts2 k1 k2 k3 k4 k5 k6 k7 k8 k9 => ?_
    exact fin (s2 := { s with heap := h' }) k1 k2 k3 k4 k5 k6 k7 (Array.getElem?_eq_some_iff.mp k8).1 fun h'' q1 q2 q3 => hQ h'' q1 q2 fun b o hb hn => (k9.trans q3) b o ((other b (norec b o hb hn)).trans hb) hn
end
end PySem
namespace L2
open PySem PySem.Spec PyProof.Rows
def CXn (P : Program) (w : World) : CXT := fun outer H s E e s' => CXr P w outer H s E e s' ∧ ∃ ea, e = .ref ea ∧ NoCtx s'.heap ea
section
variable {P : Program} {w : World} {K : PySem.W.Frag} {mg : Str → Option Value} {base : Heap} {N : List Str} {qual : Str} {scope : Scope} {f : Addr} {cd : Value} {A : Around} {outer : List Env} {s : Shared} {H : Hp} {E : XK}
theorem xp_defN_pass : Passes (CXn P w) (cxOf (CXn P w) P w K mg base N qual scope f cd A outer s H E) E := by
  intro pins σ H1 s1 e s' I h
  obtain ⟨⟨ea, cls, a0, B, H', rfl, ho, hg, u, hok, fl, dm, tr, hE⟩, ea', e', oe', vs', c1, c2, c3⟩ := h
  cases e'
  have I' := I.call' ho u hok hg (fun b hb => by cases hb)
  obtain ⟨f1, f2, f3, oe, vs, T, oT, ts, he, ⟨hcls, h0⟩, hd, h1, hnT, hTe, hT, hdT, h3⟩ := id fl
  rw [he] at c1
  cases c1
  rw [hd] at c2
  cases c2
  refine leavesC I.ok.frames rfl f1 f2 f3 he hcls hd h0 c3 (.inr ⟨T, oT, ts, h1, hnT, hTe, hT, hdT, h3⟩) fun h' fl' nc sm => ?_
  obtain ⟨un, hk⟩ := leave_un I' rfl fl.1 fl'.1 (fun b o q hb => sm b o q (I'.nonrec q hb)) (fun b o q hb => by
    obtain ⟨o1, e1⟩ := I.base.there b o q (fun z => by cases z)
    exact dm b o1 e1 (I.offStack q hb)) tr
  exact ⟨⟨ea, cls, a0, B, H', rfl, I'.os, hg, un, hk, fl', fun b o q hb => by
    obtain ⟨o1, e1⟩ := I.base.there b o q (fun z => by cases z)
    exact dm b o1 e1 (I.offStack q hb), tr, hE⟩, ea, rfl, nc⟩
theorem xo_defN : PassesOwn (model P w) (cxOf (CXn P w) P w K mg base N qual scope f cd A outer s H E).A (cxOf (CXn P w) P w K mg base N qual scope f cd A outer s H E).env (cxOf (CXn P w) P w K mg base N qual scope f cd A outer s H E).xe := PassesOwn.leaving
theorem xm_defN : Xm (cxOf (CXn P w) P w K mg base N qual scope f cd A outer s H E) E := by
  intro pins σ H1 s1 h' e cls args I mx hE
  have hkb : (PySem.W.hideAll s1.heap (frs (cxOf (CXn P w) P w K mg base N qual scope f cd A outer s H E).stack)).StaysIn s1.heap := fun b o q => PySem.W.of_hideAll _ q
  have dm : ∀ b o, (cxOf (CXn P w) P w K mg base N qual scope f cd A outer s H E).s₀.heap.get? b = some o → b ∉ (cxOf (CXn P w) P w K mg base N qual scope f cd A outer s H E).fs → ∃ o', (PySem.W.hideAll s1.heap (frs (cxOf (CXn P w) P w K mg base N qual scope f cd A outer s H E).stack)).get? b = some o' := fun b o q hb => by
    obtain ⟨o1, e1⟩ := I.base.there b o q (fun z => by cases z)
    exact ⟨o1, PySem.W.hideAll_get _ e1 (I.offStack q hb)⟩
  have tr : ∀ b u, H1 b = some u → ∃ o', (PySem.W.hideAll s1.heap (frs (cxOf (CXn P w) P w K mg base N qual scope f cd A outer s H E).stack)).get? b = some o' := fun b u q => by
    obtain ⟨o1, e1⟩ := (I.hok b u q).ex
    exact ⟨o1, PySem.W.hideAll_get _ e1 (fun z => by rw [I.stkFree b z] at q; cases q)⟩
  obtain ⟨t, he, htn, ht⟩ := mx.there
  have fresh : ∀ b, s1.heap.get? b = none → (PySem.W.hideAll s1.heap (frs (cxOf (CXn P w) P w K mg base N qual scope f cd A outer s H E).stack)).get? b = none := fun b hb => by
    cases hq : (PySem.W.hideAll s1.heap (frs (cxOf (CXn P w) P w K mg base N qual scope f cd A outer s H E).stack)).get? b with
    | none => rfl
    | some o' => have := hkb b o' hq; rw [hb] at this; cases this
  have ff := PySem.W.funFrames_hide I.stack fun env he a ha => List.mem_filterMap.mpr ⟨env, he, ha⟩
  refine leavesC (s := { s1 with heap := h' }) I.ok.frames rfl (fun b o q => mx.keeps b o (hkb b o q)) (fresh e mx.new) (ff.of_keeps fun b o hb _ => ⟨o, mx.keeps b o hb, rfl⟩) he rfl rfl (a0 := .ref t) rfl rfl (.inl rfl) fun h2 fl nc sm => ?_
  obtain ⟨un, hk⟩ := leave_un I rfl hkb fl.1 (fun b o q hb => sm b o (mx.keeps b o q) (I.nonrec q hb)) dm tr
  exact ⟨⟨e, cls, .ref t, _, H1, rfl, I.os, I.bare, un, hk, fl, dm, tr, hE⟩, e, rfl, nc⟩
end
theorem Fun.okN {P : Program} {w : World} {K : PySem.W.Frag} {mg : Str → Option Value} {base : Heap} {x qual : Str} {st : Stmt} {f : Addr} {fd : FuncData} {N ps : List Str} {k : Nat} {sp : Sp} (F : Fun K x qual st f fd) (S : FnScope N ps (defScope st)) (len : ∀ vs H Q E, sp vs H Q E → vs.length = ps.length)
    (hbody : ∀ (cdv : Value) (A : Around) (outer : List Env) (s : Shared) (H : Hp) (vs : List V) (Q : VK) (E : XK), Room k (A.deeper (envOfC qual (defScope st) s.heap.objs.size f cdv)) → sp vs H Q E →
      ∃ t, PSs (cxOf (CXn P w) P w K mg base N qual (defScope st) f cdv A outer s H E) (defBody st) t ∧ t { nx := fun _ H' => Q .non H', rt := Q } (start N vs) H) :
    FnOk P w K mg base (CXn P w) (k + 1) f fd ps sp := by
  obtain ⟨oc, od, kV, doc, pm, an, cdv, ct, osl, rfl, lk, hcd⟩ := F.ex
  exact fn_of lk hcd S len fun A outer s H vs Q E hr h => hbody cdv A outer s H vs Q E hr h
end L2
/-! ### raise .. from .. in an except suite -/
namespace PySem
theorem entry_unchain : entryFor table "proto.unchain" = some Builtin.«proto.unchain» := entryFor_of_tree (by kernel_rfl)
section
variable {prog : Program} {w : World} {A : Around} {E : Value → Shared → Prop} {env : Env}
variable {nm q : Str} {C N : Addr} {bs bm : List Value} {hdct : Bool} {sn : List Str} {sub : List Value} {ab : Bool} {col : Option Bool} {dd : Option Addr} {k0 k1 k2 k3 k5 : Option Value} {newId : String}
variable {nm' q' : Str} {C' N' : Addr} {bs' bm' : List Value} {hdct' : Bool} {sn' : List Str} {sub' : List Value} {ab' : Bool} {col' : Option Bool} {dd' : Option Addr} {k0' k1' k2' k3' k5' : Option Value} {newId' : String}
theorem raise_from {s : Shared} {x c : Sem Value} {ea : Addr} {Q : Flow → Shared → Prop} (hbase : bm.contains (.type "BaseException") = true) (hbase' : bm'.contains (.type "BaseException") = true) (hh : A.handled = some (.ref ea))
    (h : wpAny (model prog w) A x (fun v s₁ => ∃ e, v = .ref e ∧ wpAny (model prog w) A c (fun cv s₂ => cv = .ref ea ∧ ∃ t oa va, s₂.heap.get? C = some (excClassObj nm q C N bs bm hdct sn sub ab col dd k0 k1 k2 k3 k5 newId) ∧ s₂.heap.get? C' = some (excClassObj nm' q' C' N' bs' bm' hdct' sn' sub' ab' col' dd' k0' k1' k2' k3' k5' newId') ∧
      s₂.heap.get? e = some { cls := .ref C, data := .fields #[.ref t, .none, .none, .none, .bool false, .none] } ∧ s₂.heap.get? ea = some oa ∧ oa.cls = .ref C' ∧ oa.data = .fields va ∧ va[2]? = some .none ∧ e ≠ ea ∧ e ≠ C ∧ e ≠ C' ∧
      ∀ h', (∀ b, b ≠ e → h'.get? b = s₂.heap.get? b) → h'.get? e = some { cls := .ref C, data := .fields #[.ref t, .none, .ref ea, .ref ea, .bool true, .none] } → E (.ref e) { s₂ with heap := h' }) E s₁) E s) :
    wpAny (model prog w) A (raiseStmt env (some x) (some c)) Q E s := by
  have hcB : (Value.ref C :: bm).contains (.type "BaseException") = true := by rw [List.contains_cons, hbase, Bool.or_true]
  have hcB' : (Value.ref C' :: bm').contains (.type "BaseException") = true := by rw [List.contains_cons, hbase', Bool.or_true]
  unfold raiseStmt
  refine wpAny_bind (wpAny_mono h (fun v s₁ h₁ => ?_) fun _ _ x => x)
  obtain ⟨e, rfl, h₁⟩ := h₁
  refine wpAny_bind (wpAny_holding (wpAny_mono h₁ (fun cv s₂ h₂ => wpAny_bind (wpAny_pure ?_)) fun _ _ x => x))
  obtain ⟨rfl, t, oa, va, hC, hC', he, hea, hac, had, h2, ne1, ne2, ne3, hE⟩ := h₂
  obtain ⟨hp, g, d, tk, os⟩ := s₂
  repeat (first | with_reducible refine wpAny_loadPart_at he ?_ | with_reducible refine wpAny_loadPart_at hC ?_ | (with_reducible refine wpAny_loadPart_at hea ?_; rw [hac]) | with_reducible refine wpAny_loadPart_at hC' ?_ | (with_reducible refine wpAny_isSubtype_exc hC ?_; rw [hcB]) | (with_reducible refine wpAny_isSubtype_exc hC' ?_; rw [hcB']) | wp_step)
  obtain ⟨h3, hh3⟩ : ∃ h3, h3 = (hp.update e (Obj.mapFields (·.setIfInBounds 3 (Value.ref ea)))).update e (Obj.mapFields (·.setIfInBounds 4 (Value.bool true))) := ⟨_, rfl⟩
  have ot : ∀ b, b ≠ e → h3.get? b = hp.get? b := fun b hb => by rw [hh3, Heap.get?_update_other _ _ (Ne.symm hb), Heap.get?_update_other _ _ (Ne.symm hb)]
  have e3 : h3.get? e = some { cls := .ref C, data := .fields #[.ref t, .none, .none, .ref ea, .bool true, .none] } := by
    rw [hh3, Heap.get?_update_self _ (Heap.get?_update_self _ he rfl) rfl]; rfl
  show wpAny _ _ (raiseNew (Value.ref e)) Q E ⟨(hp.update e (Obj.mapFields (·.setIfInBounds 3 (Value.ref ea)))).update e (Obj.mapFields (·.setIfInBounds 4 (Value.bool true))), g, d, tk, os⟩
  rw [← hh3]
  have a3 : h3.get? ea = some oa := (ot ea (Ne.symm ne1)).trans hea
  unfold raiseNew
  refine wpAny_bind (wpAny_handled ?_)
  rw [hh]
  show wpAny _ _ (if (Value.ref ea != Value.ref e) = true then _ else _) Q E _
  rw [if_pos (by simpa using Ne.symm ne1)]
  refine wpAny_bind (wpAny_holding (wpAny_runValue (codeAny_builtin entry_unchain ?_)))
  unfold Builtin.«proto.unchain»
  show wpAny _ _ (do let context ← field (.ref ea) 2; _) _ _ _
  refine wpAny_bind (wpAny_field a3 had h2 ?_)
  rw [if_pos (by decide)]
  refine wpAny_bind (wpAny_pure (wpAny_pure ?_))
  show wpAny _ _ (setField (.ref e) 2 (.ref ea) >>= fun _ => throw (Value.ref e)) Q E _
  refine wpAny_bind (wpAny_setField e3 rfl (show 2 < 6 by decide) (wpAny_throw (hE _ (fun b hb => ?_) ?_)))
  · show (h3.update e _).get? b = _
    rw [Heap.get?_update_other _ _ (Ne.symm hb)]; exact ot b hb
  · show (h3.update e _).get? e = _
    rw [Heap.get?_update_self _ e3 rfl]; rfl
end
section
variable {M : Model} {A : Around} {E : Value → Shared → Prop} {s : Shared}
theorem noteC {base : Heap} {env : Env} {outer : List Env} {L e : Addr} {cls a0 : Value} {Q : Unit → Shared → Prop} (hfr : A.frames = some (env :: outer)) (hf : env.frame = some L) (fl : Heap.FlyingW base (env :: outer) e cls a0 s.heap) (nc : NoCtx s.heap e)
    (hQ : ∀ h', Heap.HeldW base (env :: outer) e cls a0 L h' → NoCtx h' e → s.heap.UpToSlots h' → Q () { s with heap := h' }) : wpAny M A (noteFrame (.ref e) env) Q E s := by
  obtain ⟨f1, f2, f3, oe, vs, T, oT, ts, he, ⟨hc, h0⟩, hd, h1, hnT, hTe, hT, hdT, h3⟩ := fl
  obtain ⟨oe', vs', c1, c2, c3⟩ := nc
  rw [he] at c1; cases c1
  rw [hd] at c2; cases c2
  have hs1 : 1 < vs.size := (Array.getElem?_eq_some_iff.mp h1).1
  unfold noteFrame
  simp only [hf]
  refine wpAny_bind (wpAny_field he hd h1 ?_)
  rw [if_pos (show (Value.ref T != Value.none) = true from by simp)]
  refine wpAny_bind (wpAny_field hT hdT h3 ?_)
  rw [if_neg (show ¬ ((Value.none == rawInt L) = true) from by simp [rawInt])]
  refine wpAny_bind (wpAny_setField hT hdT (Array.getElem?_eq_some_iff.mp h3).1 ?_)
  have other : ∀ b, b ≠ T → (s.heap.update T (Obj.mapFields (·.setIfInBounds 3 Value.none))).get? b = s.heap.get? b := fun b hb => Heap.get?_update_other _ _ (Ne.symm hb)
  have norec : ∀ b o, s.heap.get? b = some o → (∀ vs, o.data ≠ .fields vs) → b ≠ T := fun b o hb hn q => by
    rw [q, hT] at hb; cases hb; exact hn ts hdT
  refine entryC hfr (f3.of_keeps fun b o hb hn => ⟨o, (other b (norec b o hb hn)).trans hb, rfl⟩) hf ((other e (Ne.symm hTe)).trans he) (fun b o hb => (other b fun q => by rw [q, hnT] at hb; cases hb).trans (f1 b o hb)) f2 hd hs1 fun h' T2 oT2 ts2 k1 k2 k3 k4 k5 k6 k7 k8 k9 => ?_
  have d3 := Obj.data_mapFields hd (·.setIfInBounds 1 (Value.ref T2))
  refine hQ h' ⟨k1, f2, k2, _, _, T2, oT2, ts2, k3, ⟨by rw [Obj.cls_mapFields]; exact hc, by rw [Array.getElem?_setIfInBounds_ne (by decide)]; exact h0⟩, d3, by simp [hs1], k4, k5, k6, k7, k8⟩ ⟨_, _, k3, d3, by rw [Array.getElem?_setIfInBounds_ne (by decide)]; exact c3⟩ fun b o hb hn => k9 b o ((other b (norec b o hb hn)).trans hb) hn
theorem landC {base : Heap} {l : List Env} {e : Addr} {cls a0 fl : Value} {Q : Unit → Shared → Prop} (f1 : base.StaysIn s.heap) (f2 : base.get? e = none) (f3 : s.heap.FunFrames base l) (ht : s.heap.TracedAtW base e cls a0 fl) (nc : NoCtx s.heap e)
    (hQ : ∀ h', Heap.FlyingW base l e cls a0 h' → NoCtx h' e → s.heap.UpToSlots h' → Q () { s with heap := h' }) : wpAny M A (setFlight (.ref e) none) Q E s := by
  obtain ⟨oe, vs, T, oT, ts, he, hc, hd, h1, hnT, hTe, hT, hdT, h3⟩ := ht
  obtain ⟨oe', vs', c1, c2, c3⟩ := nc
  rw [he] at c1; cases c1
  rw [hd] at c2; cases c2
  have hsz := (Array.getElem?_eq_some_iff.mp h3).1
  have other : ∀ (x : Value) b, b ≠ T → (s.heap.update T (Obj.mapFields (·.setIfInBounds 3 x))).get? b = s.heap.get? b := fun x b hb => Heap.get?_update_other _ _ (Ne.symm hb)
  have norec : ∀ b o, s.heap.get? b = some o → (∀ vs, o.data ≠ .fields vs) → b ≠ T := fun b o hb hn q => by
    rw [q, hT] at hb; cases hb; exact hn ts hdT
  unfold setFlight
  refine wpAny_bind (wpAny_field he hd h1 ?_)
  rw [if_pos (show (Value.ref T != Value.none) = true from by simp)]
  refine wpAny_setField hT hdT hsz (hQ _ ⟨fun b o hb => (other _ b fun q => by rw [q, hnT] at hb; cases hb).trans (f1 b o hb), f2, f3.of_keeps fun b o hb hn => ⟨o, (other _ b (norec b o hb hn)).trans hb, rfl⟩, ?_⟩ ⟨oe, vs, (other _ e (Ne.symm hTe)).trans he, hd, c3⟩ fun b o hb hn => ⟨o.slots, (other _ b (norec b o hb hn)).trans hb⟩)
  exact ⟨oe, vs, T, _, _, (other _ e (Ne.symm hTe)).trans he, hc, hd, h1, hnT, hTe, Heap.get?_update_self _ hT (Obj.isFreed_of_fields (Obj.data_mapFields hdT _)), Obj.data_mapFields hdT _, by simp [hsz]⟩
/-- the frame noted, whatever held the exception -/
theorem note_any {base : Heap} {env : Env} {outer : List Env} {L e : Addr} {cls a0 : Value} {Q : Unit → Shared → Prop} (hfr : A.frames = some (env :: outer)) (hf : env.frame = some L) (hh : Heap.AnyW base (env :: outer) e cls a0 s.heap)
    (hQ : ∀ h', Heap.AnyW base (env :: outer) e cls a0 h' → s.heap.UpToSlots h' → Q () { s with heap := h' }) : wpAny M A (noteFrame (.ref e) env) Q E s := by
  obtain ⟨f1, f2, f3, fl, ft⟩ := hh
  by_cases hfl : fl = rawInt L
  · subst hfl
    exact wpAny_noteFrame_againW hf ft (hQ _ ⟨f1, f2, f3, _, ft⟩ (Heap.UpToSlots.refl _))
  · obtain ⟨oe, vs, T, oT, ts, he, ⟨hcls, h0⟩, hd, h1, hnT, hTe, hT, hdT, h3⟩ := ft
    have hs1 : 1 < vs.size := (Array.getElem?_eq_some_iff.mp h1).1
    unfold noteFrame
    simp only [hf]
    refine wpAny_bind (wpAny_field he hd h1 ?_)
    rw [if_pos (show (Value.ref T != Value.none) = true from by simp)]
    refine wpAny_bind (wpAny_field hT hdT h3 ?_)
    rw [if_neg (show ¬ ((fl == rawInt L) = true) from fun z => hfl (eq_of_beq z))]
    refine wpAny_bind (wpAny_setField hT hdT (Array.getElem?_eq_some_iff.mp h3).1 ?_)
    have other : ∀ b, b ≠ T → (s.heap.update T (Obj.mapFields (·.setIfInBounds 3 Value.none))).get? b = s.heap.get? b := fun b hb => Heap.get?_update_other _ _ (Ne.symm hb)
    have norec : ∀ b o, s.heap.get? b = some o → (∀ vs, o.data ≠ .fields vs) → b ≠ T := fun b o hb hn q => by
      rw [q, hT] at hb; cases hb; exact hn ts hdT
    refine entryC hfr (f3.of_keeps fun b o hb hn => ⟨o, (other b (norec b o hb hn)).trans hb, rfl⟩) hf ((other e (Ne.symm hTe)).trans he) (fun b o hb => (other b fun q => by rw [q, hnT] at hb; cases hb).trans (f1 b o hb)) f2 hd hs1 fun h' T2 oT2 ts2 k1 k2 k3 k4 k5 k6 k7 k8 k9 => ?_
    exact hQ h' ⟨k1, f2, k2, _, _, _, T2, oT2, ts2, k3, ⟨by rw [Obj.cls_mapFields]; exact hcls, by rw [Array.getElem?_setIfInBounds_ne (by decide)]; exact h0⟩, Obj.data_mapFields hd _, by simp [hs1], k4, k5, k6, k7, k8⟩ fun b o hb hn => k9 b o ((other b (norec b o hb hn)).trans hb) hn
/-- the frame noted of an exception just raised -/
theorem note_raw {base : Heap} {env : Env} {outer : List Env} {L e : Addr} {oe : Obj} {vs : Array Value} {cls a0 : Value} {Q : Unit → Shared → Prop} (hfr : A.frames = some (env :: outer)) (hf : env.frame = some L) (f1 : base.StaysIn s.heap) (f2 : base.get? e = none) (f3 : s.heap.FunFrames base (env :: outer))
    (he : s.heap.get? e = some oe) (hc : oe.cls = cls) (hd : oe.data = .fields vs) (h0 : vs[0]? = some a0) (h1 : vs[1]? = some .none)
    (hQ : ∀ h', Heap.AnyW base (env :: outer) e cls a0 h' → s.heap.UpToSlots h' → Q () { s with heap := h' }) : wpAny M A (noteFrame (.ref e) env) Q E s := by
  have hs1 : 1 < vs.size := (Array.getElem?_eq_some_iff.mp h1).1
  unfold noteFrame
  simp only [hf]
  refine wpAny_bind (wpAny_field he hd h1 ?_)
  rw [if_neg (by decide)]
  refine entryC hfr f3 hf he f1 f2 hd hs1 fun h' T2 oT2 ts2 k1 k2 k3 k4 k5 k6 k7 k8 k9 => ?_
  exact hQ h' ⟨k1, f2, k2, _, _, _, T2, oT2, ts2, k3, ⟨by rw [Obj.cls_mapFields]; exact hc, by rw [Array.getElem?_setIfInBounds_ne (by decide)]; exact h0⟩, Obj.data_mapFields hd _, by simp [hs1], k4, k5, k6, k7, k8⟩ k9
theorem back_any {base : Heap} {l : List Env} {env : Env} {e : Addr} {cls a0 : Value} (hh : Heap.AnyW base l e cls a0 s.heap) (hQ : ∀ h', Heap.AnyW base l e cls a0 h' → s.heap.UpToSlots h' → E (.ref e) { s with heap := h' }) : cameBackBy M A env E (.ref e) s := by
  obtain ⟨f1, f2, f3, fl, oe, vs, T, oT, ts, he, hc, hd, h1, hnT, hTe, hT, hdT, h3⟩ := hh
  have other : ∀ (x : Value) b, b ≠ T → (s.heap.update T (Obj.mapFields (·.setIfInBounds 3 x))).get? b = s.heap.get? b := fun x b hb => Heap.get?_update_other _ _ (Ne.symm hb)
  have norec : ∀ b o, s.heap.get? b = some o → (∀ vs, o.data ≠ .fields vs) → b ≠ T := fun b o hb hn q => by
    rw [q, hT] at hb; cases hb; exact hn ts hdT
  have hsz := (Array.getElem?_eq_some_iff.mp h3).1
  unfold cameBackBy
  refine wpAny_bind (wpAny_field he hd h1 ?_)
  rw [if_neg (show ¬ ((Value.ref T == Value.none) = true) from by simp)]
  unfold setFlight
  refine wpAny_bind (wpAny_field he hd h1 ?_)
  rw [if_pos (show (Value.ref T != Value.none) = true from by simp)]
  refine wpAny_setField hT hdT hsz (hQ _ ⟨fun b o hbo => (other _ b fun q => by rw [q, hnT] at hbo; cases hbo).trans (f1 b o hbo), f2, f3.of_keeps fun b o hb hn => ⟨o, (other _ b (norec b o hb hn)).trans hb, rfl⟩, ?_⟩ fun b o hb hn => ⟨o.slots, (other _ b (norec b o hb hn)).trans hb⟩)
  exact ⟨env.frame.elim Value.none fun f => rawInt f, oe, vs, T, _, _, (other _ e (Ne.symm hTe)).trans he, hc, hd, h1, hnT, hTe, Heap.get?_update_self _ hT (Obj.isFreed_of_fields (Obj.data_mapFields hdT _)), Obj.data_mapFields hdT _, by simp [hsz]⟩
/-- the names of the frame at L put anew -/
theorem any_loc {base : Heap} {l : List Env} {e L : Addr} {cls a0 : Value} {h h' : Heap} {m m' : Str → Option Value} (hh : Heap.AnyW base l e cls a0 h) (hs : Heap.SameBut L h h') (hn : h.Ns L m) (hn' : h'.Ns L m') (hb : base.get? L = none) : Heap.AnyW base l e cls a0 h' := by
  obtain ⟨f1, f2, f3, fl, oe, vs, T, oT, ts, he, hc, hd, h1, hnT, hTe, hT, hdT, h3⟩ := hh
  obtain ⟨oc, es, ep, hoc, hdc, _⟩ := hn
  obtain ⟨oc', es', ep', hoc', hdc', _⟩ := hn'
  have nrec : ∀ {b o vs}, h.get? b = some o → o.data = .fields vs → b ≠ L := fun hb hd' q => by
    rw [q, hoc] at hb; cases hb; rw [hdc] at hd'; cases hd'
  have ff : ∀ {l : List Env}, h.FunFrames base l → h'.FunFrames base l := fun {l} => by
    induction l with
    | nil => intro _; trivial
    | cons env r ih =>
      rintro ⟨hk, ⟨L2, o, hf, hn, ho, hd⟩, hr⟩
      by_cases z : L2 = L
      · subst z
        exact ⟨hk, ⟨L2, oc', hf, hn, hoc', fun vs q => by rw [hdc'] at q; cases q⟩, ih hr⟩
      · exact ⟨hk, ⟨L2, o, hf, hn, (hs.2 L2 z).trans ho, hd⟩, ih hr⟩
  refine ⟨fun b o q => ?_, f2, ff f3, fl, oe, vs, T, oT, ts, (hs.2 e (nrec he hd)).trans he, hc, hd, h1, hnT, hTe, (hs.2 T (nrec hT hdT)).trans hT, hdT, h3⟩
  exact (hs.2 b fun z => by rw [z, hb] at q; cases q).trans (f1 b o q)
end
end PySem
namespace L2
open PySem PySem.Spec PyProof.Rows
def ExcN (ea C : Addr) : Heap → Prop := fun h => ∃ o vs, h.get? ea = some o ∧ o.cls = .ref C ∧ o.data = .fields vs ∧ vs[2]? = some .none
theorem pe_exc {X : Cx} {pins : List (Addr × Obj)} {σ : St} {H : Hp} {s : Shared} {y : Str} {C : Addr} {e : Expr} {es : List Expr} {ta : TA} {np cpos : Pos} {R : Value → Shared → Prop} {P : List V → Hp → Prop} (I : Inv X pins σ H s) (hg : Gl X y) (hm : X.mg y = some (.ref C)) (O : ExcCls X.K y C) (ha : PA X (e :: es) ta)
    (h : ta σ H fun vs H1 => vs.length ≤ sizeLine ∧ P vs H1) (hd : (y == ("__debug__" : Str)) = false) (he : starEach (e :: es) X.env = (false, eval e X.env) :: starEach es X.env) (hpl : (backTo cpos (starEach es X.env)).any (·.1) = false)
    (hR : ∀ vs H1 s2 h' e2 us, P vs H1 → Inv X pins σ H1 s2 → Heap.MadeExcOf s2.heap h' e2 (.ref C) us → R (.ref e2) { s2 with heap := h' }) :
    wpAny (model X.prog X.w) X.A (eval (.Call (.Name y np) (e :: es) [] cpos) X.env) R X.xe s := by
  obtain ⟨tl, Nn, nm, q, bs, hdct, sn, sub, ab, col, dd, k0, k1, k2, k3, k5, mN, hC, hN, hni, T⟩ := (own_mod I.mod O).obj
  have hplain : (backTo cpos (starEach (e :: es) X.env)).any (·.1) = false := by rw [he]; show (false || (backTo cpos (starEach es X.env)).any (·.1)) = false; rw [hpl]; rfl
  refine wpAny_Call_ofName (ld_glob I hg hm ?_ hd)
  have hA := ha cpos pins s σ H _ I h
  have hEv : wpAny (model X.prog X.w) X.A (evalArgs (.ref C) true (backTo cpos (starEach (e :: es) X.env)) []) (fun a s2 => a.kw = [] ∧ ∃ vs H2, Inv X pins σ H2 s2 ∧ Vals vs a.pos ∧ vs.length ≤ sizeLine ∧ P vs H2) X.xe s := by
    rw [he] at hA ⊢
    exact Calls.evalArgs_plain (thn hA fun us s2 hh => ⟨rfl, hh⟩)
  unfold callWith
  refine wpAny_bind (wpAny_holding (wpAny_mono hEv (fun a s2 hh => wpAny_bind (wpAny_standAt ?_)) fun _ _ z => z))
  obtain ⟨apos, akw⟩ := a
  obtain ⟨hkw, vs, H2, I2, rv, hl, hP⟩ := hh
  obtain rfl : akw = [] := hkw
  simp only [hplain]
  obtain ⟨hp, g, d, tk, os⟩ := s2
  refine wpAny_bind (wpAny_keeperOf_exc (I2.bk _ _ hC) ?_)
  refine wpAny_bind (wpAny_call_exc_subT (hrest := by show apos.length ≤ sizeLine; rw [show apos.length = vs.length from rv.length.symm]; exact hl) PySem.F.excBase_ValueError (T.keeps I2.bk) (I2.bk _ _ hC) (hN.keeps I2.bk) hni fun h' e2 mx => wpAny_bind (wpAny_holding (wpAny_point (wpAny_pure ?_))))
  exact hR vs H2 _ h' e2 _ hP I2 mx
def tTryF (k : Nat) (tb : XK → TS) (C C2 : Addr) (i : Nat) (ta : TA) (E : XK) : TS := fun D σ H =>
  tb (fun cls _ H' => cls = .ref C ∧ ∀ ea, H' ea = none → ta ((List.replicate k none).set i (some (.ref ea))) (upd H' ea (.ext (ExcN ea C))) fun vs H2 => vs.length ≤ sizeLine ∧ H2 ea = some (.ext (ExcN ea C)) ∧ E (.ref C2) none H2) D σ H
theorem ps_tryF {X : Cx} {body : List Stmt} {x y n : Str} {i : Nat} {C C2 : Addr} {np np2 np3 cpos rpos hpos pos : Pos} {a0 : Expr} {as : List Expr} {ta : TA} {tb : XK → TS} {E : XK} (hstk : X.stack = X.env :: X.outer) (hfr : X.env.frame = some X.env.locals) (hex : X.ex = [])
    (hg : Gl X x) (hm : X.mg x = some (.ref C)) (O : ExcK X.K x C) (hg2 : Gl X y) (hm2 : X.mg y = some (.ref C2)) (O2 : ExcCls X.K y C2) (hN : X.N.Nodup) (hi : X.N[i]? = some n) (hl : X.env.scope.names.lookup n = some .local) (hxh : XpH X E)
    (hb : ∀ (E' : XK) (xe : Value → Shared → Prop) (pn : List (Addr × Obj)), Passes (CXn X.prog X.w) (wish2 X xe pn) E' → PSs (wish2 X xe pn) body (tb E'))
    (ha : ∀ (ea : Addr) (pn : List (Addr × Obj)), PA (suiteX X ea pn) (a0 :: as) ta) (hv : ∀ (ea : Addr) (pn : List (Addr × Obj)), PE (suiteX X ea pn) (.Name n np3) (tVar i))
    (hd : (x == ("__debug__" : Str)) = false := by decide) (hd2 : (y == ("__debug__" : Str)) = false := by decide) (he : starEach (a0 :: as) X.env = (false, eval a0 X.env) :: starEach as X.env := by rfl) (hpl : (backTo cpos (starEach as X.env)).any (·.1) = false := by rfl) :
    PS X (.Try body [.ExceptHandler (some (.Name x np)) (some n) [.Raise (some (.Call (.Name y np2) (a0 :: as) [] cpos)) (some (.Name n np3)) rpos] hpos] [] [] pos) (tTryF X.N.length tb C C2 i ta E) := by
  intro pins s σ H D I h
  refine wpAny_Try_except (wpAny_mono (hb _ (fun e s₁ => wpAny (model X.prog X.w) X.A (noteFrame e X.env) (fun _ s₂ => wpAny (model X.prog X.w) X.A (setFlight e none) (fun _ s₃ =>
      wpAny (model X.prog X.w) X.A (handleBy e X.env [.ExceptHandler (some (.Name x np)) (some n) [.Raise (some (.Call (.Name y np2) (a0 :: as) [] cpos)) (some (.Name n np3)) rpos] hpos]) (SP X pins D) X.xe s₃) X.xe s₂) X.xe s₁) (X.pn ++ pins) ?pass [] s σ H D I.toW h) (fun f s1 q => ?_) fun e s1 q => q)
  case pass =>
    intro pins1 σ1 H1 s1 e s' I1 hx
    obtain ⟨⟨ea, cls, v0, B, H', rfl, ho, hgn, u, hok, fl, dm, tr, hcls, hts⟩, ea', e', nc⟩ := hx
    cases e'
    subst hcls
    have IX : Inv X pins σ1 H1 s1 := I1.ofW
    have u : Un (frs X.stack) [] H1 H' s1.heap s'.heap := u
    have fl : Heap.FlyingW B X.stack ea (.ref C) v0 s'.heap := fl
    have dm : ∀ b o, s1.heap.get? b = some o → b ∉ frs X.stack → ∃ o', B.get? b = some o' := dm
    have heaH : H' ea = none := by
      cases e : H' ea with
      | none => rfl
      | some w' => obtain ⟨o', z⟩ := tr ea w' e; rw [fl.2.1] at z; cases z
    have hea1 : s1.heap.get? ea = none := by
      cases e : s1.heap.get? ea with
      | none => rfl
      | some w' =>
        exfalso
        by_cases hb : ea ∈ frs X.stack
        · obtain ⟨sl, e1⟩ := u.slot ea w' e (IX.stkFree ea hb) hb (by simp)
          obtain ⟨_, o', e', hdn⟩ := IX.stack.mem hb
          rw [e] at e'; cases e'
          obtain ⟨_, _, _, oe, vs, _, _, _, he, _, hdt, _⟩ := fl
          rw [e1] at he; cases he
          exact hdn vs hdt
        · obtain ⟨o', z⟩ := dm ea w' e hb; rw [fl.2.1] at z; cases z
    have fl0 := fl
    rw [hstk] at fl
    refine noteC (by rw [← hstk]; exact I.ok.frames) hfr fl nc fun h4 held nc4 sm4 => ?_
    refine landC held.1 held.2.1 held.2.2.1 held.2.2.2 nc4 fun h5 fl5 nc5 sm5 => ?_
    obtain ⟨u5, ok5⟩ := fly_un IX u hok fl0.1 fl5.1 (sm4.trans sm5) dm tr
    have I5 : Inv X pins σ1 H' { s' with heap := h5 } := IX.call' (s' := { s' with heap := h5 }) ho u5 ok5 hgn (fun b hb => by cases hb)
    have J5 : Inv (suiteX X ea (X.pn ++ pins)) [] σ1 H' { s' with heap := h5 } := I5.toS
    refine wpAny_handleBy_cons (codeAny_handlers_test (ld_glob J5 hg hm ?_ hd)) (by intro q; cases q)
    obtain ⟨tl, Nn, nm, q, bs, hdct, sn, sub, ab, col, dd, k0, k1, k2, k3, k5, mN, hC, hNn, hni, T⟩ := ((own_mod I5.mod O.toExcCls).keeps I5.bk).obj
    obtain ⟨ob, hob, hobc⟩ := fl5.there
    obtain ⟨hp', g', d', t', os'⟩ := s'
    refine wpAny_excMatches_sub_self hC hob hobc (T.hasType (b := true) (by decide +kernel)) (codeAny_handlers_suite_as ?_)
    refine landC fl5.1 fl5.2.1 fl5.2.2.1 fl5.2.2.2 nc5 fun h6 fl6 nc6 sm6 => ?_
    obtain ⟨u6, ok6⟩ := fly_un IX u hok fl0.1 fl6.1 ((sm4.trans sm5).trans sm6) dm tr
    have φ : ExcN ea C h6 := by
      obtain ⟨_, _, _, oe, vs, _, _, _, he, hcl, hdt, _⟩ := fl6
      obtain ⟨oe', vs', c1, c2, c3⟩ := nc6
      rw [he] at c1; cases c1
      rw [hdt] at c2; cases c2
      exact ⟨oe, vs, he, hcl.1, hdt, c3⟩
    have nea : ∀ b o, s1.heap.get? b = some o → b ≠ ea := fun b o e z => by rw [z, hea1] at e; cases e
    have u7 : Un (frs X.stack) [] H1 (upd H' ea (.ext (ExcN ea C))) s1.heap h6 :=
      ⟨u6.keep, u6.slot, fun b o e n hx => by rw [upd_ne (nea b o e)]; exact u6.free b o e n hx, u6.there, fun b xs e => by rw [upd_ne (ne_of_none (u6.tups b xs e) heaH)]; exact u6.tups b xs e,
        fun b o xs e => by rw [upd_ne (ne_of_none (u6.frzs b o xs e) heaH)]; exact u6.frzs b o xs e, fun b ps e => by obtain ⟨mr, z⟩ := u6.tbls b ps e; exact ⟨mr, by rw [upd_ne (ne_of_none z heaH)]; exact z⟩⟩
    have ok7 : HOk X.prog X.w (upd H' ea (.ext (ExcN ea C))) h6 := fun b v e => by
      by_cases hb : b = ea
      · subst hb; rw [upd_same] at e; cases e
        obtain ⟨o, vs, z1, z2, z3, z4⟩ := id φ
        exact ⟨φ, ⟨o, z1⟩, fun h1 h2 ⟨o', vs', y1, y2, y3, y4⟩ k => ⟨o', vs', k o' y1, y2, y3, y4⟩⟩
      · rw [upd_ne hb] at e
        exact (ok6 b v e).stay (fun _ _ _ q => q) (fun c q => by rw [upd_ne (ne_of_none q heaH)]; exact q) fun c xs q => by rw [upd_ne (ne_of_none q heaH)]; exact q
    have I7 : Inv X pins σ1 (upd H' ea (.ext (ExcN ea C))) ⟨h6, g', d', t', os'⟩ := IX.call' (s' := ⟨h6, g', d', t', os'⟩) ho u7 ok7 hgn (fun b hb => by cases hb)
    have I8 : Inv X pins (List.replicate X.N.length none) (upd H' ea (.ext (ExcN ea C))) ⟨h6, g', d', t', os'⟩ := I7.weak (by rw [List.length_replicate, I7.len]) fun j v e => by
      rw [List.getElem?_replicate] at e
      split at e <;> cases e
    have J8 : Inv (suiteX X ea (X.pn ++ pins)) [] (List.replicate X.N.length none) (upd H' ea (.ext (ExcN ea C))) ⟨h6, g', d', t', os'⟩ := I8.toS
    refine store_ok (X := suiteX X ea (X.pn ++ pins)) (v := .ref ea) J8 hN hi (.inl hl) rfl (fun s9 J9 => ?_) (.inr hl)
    refine wpAny_execs_cons ?_
    rw [arm_exec_Raise]
    simp only [evalOpt, Option.map]
    obtain ⟨tl2, Nn2, nm2, q2, bs2, hdct2, sn2, sub2, ab2, col2, dd2, l0, l1, l2, l3, l5, mN2, hC2, hNn2, hni2, T2⟩ := (own_mod I7.mod O2).obj
    obtain ⟨tl1, Nn1, nm1, q1, bs1, hdct1, sn1, sub1, ab1, col1, dd1, m0, m1, m2, m3, m5, mN1, hC1, hNn1, hni1, T1⟩ := (own_mod I7.mod O.toExcCls).obj
    refine wpAny_bind (wpAny_standAt (raise_from (C := C2) (nm := nm2) (q := q2) (N := Nn2) (bs := bs2) (bm := tl2) (hdct := hdct2) (sn := sn2) (sub := sub2) (ab := ab2) (col := col2) (dd := dd2) (k0 := l0) (k1 := l1) (k2 := l2) (k3 := l3) (k5 := l5) (newId := "ValueError.__new__")
      (C' := C) (nm' := nm1) (q' := q1) (N' := Nn1) (bs' := bs1) (bm' := tl1) (hdct' := hdct1) (sn' := sn1) (sub' := sub1) (ab' := ab1) (col' := col1) (dd' := dd1) (k0' := m0) (k1' := m1) (k2' := m2) (k3' := m3) (k5' := m5) (newId' := "ValueError.__new__") (ea := ea)
      (T2.hasType (b := true) (by decide +kernel)) (T1.hasType (b := true) (by decide +kernel)) rfl ?_))
    refine wpAny_bind (wpAny_mono (pe_exc J9 hg2 hm2 O2 (ha ea (X.pn ++ pins)) (hts ea heaH) hd2 he hpl ?_) (fun v s3 h3 => wpAny_bind (wpAny_standAt (wpAny_pure h3))) (fun _ _ z => z.elim))
    intro vs H2 s2 hx e2 us hP J2 mx
    obtain ⟨hx2, hE2⟩ := hP
    refine ⟨e2, rfl, ?_⟩
    have hs0 : s2.heap.get? e2 = none := mx.new
    have hH2 : H2 e2 = none := by
      cases hq : H2 e2 with
      | none => rfl
      | some u => obtain ⟨o, z⟩ := (J2.hok e2 u hq).ex; rw [hs0] at z; cases z
    obtain ⟨tt, g1, g2, g3⟩ := mx.there
    have J3 := J2.kept (t' := s2.toks) mx.keeps
    obtain ⟨m2', hm2', _⟩ := id J2.loc
    have neL : e2 ≠ X.env.locals := fun z => by
      obtain ⟨o, _, _, ho, _⟩ := hm2'
      have ho : s2.heap.get? X.env.locals = some o := ho
      rw [← z, hs0] at ho; cases ho
    have neF : e2 ∉ X.fs := fun z => by
      obtain ⟨_, o, q, _⟩ := J2.funs.mem z
      have q : s2.heap.get? e2 = some o := q
      rw [hs0] at q; cases q
    have J3p : Inv (suiteX X ea (X.pn ++ pins)) [(e2, { cls := .ref C2, data := .fields #[.ref tt, .none, .none, .none, .bool false, .none] })] _ H2 { s2 with heap := hx } := J3.pins_of fun p hp => by
      have e := List.mem_singleton.mp hp
      subst e
      exact ⟨g1, hH2, neL, neF, fun v z => nomatch z⟩
    have hil : i < X.N.length := (List.getElem?_eq_some_iff.mp hi).1
    refine wpAny_bind (wpAny_mono ((hv ea (X.pn ++ pins)) _ _ _ H2 (fun x H => x = .ref ea ∧ H = H2) J3p (r_var (v := .ref ea) (by rw [List.getElem?_set_self (by rw [List.length_replicate]; exact hil)]) ⟨rfl, rfl⟩)) (fun v s4 hh => wpAny_bind (wpAny_standAt (wpAny_pure ?_))) (fun _ _ z => z.elim))
    obtain ⟨x4, H4, J4, r4, rfl, rfl⟩ := hh
    obtain rfl : v = .ref ea := r4
    obtain ⟨⟨oa, va, w1, w2, w3, w4⟩, _⟩ := (show ObjOk X.prog X.w H4 s4.heap ea (.ext (ExcN ea C)) from J4.hok ea _ hx2)
    have ge4 : s4.heap.get? e2 = _ := (J4.pin (e2, _) (List.mem_append_right _ (List.mem_singleton.mpr rfl))).1
    have inn : ∀ {b o}, X.base.get? b = some o → e2 ≠ b := fun {b o} hb z => by
      have q := J2.bk b o hb
      rw [← z, hs0] at q; cases q
    have nea2 : e2 ≠ ea := fun z => by
      obtain ⟨o, q⟩ := (J2.hok ea _ hx2).ex
      rw [← z, hs0] at q; cases q
    refine ⟨rfl, tt, oa, va, J4.bk _ _ hC2, J4.bk _ _ hC1, ge4, w1, w2, w3, w4, nea2, inn hC2, inn hC1, fun h5 ho5 he5 => ?_⟩
    have IX4 : Inv X pins _ H4 s4 := J4.ofS I.ok.hd I.ok.frames
    have frM : (X.A.mark (some (Value.ref ea))).frames = some (X.env :: X.outer) := by rw [← hstk]; exact J4.ok.frames
    have frX : X.A.frames = some (X.env :: X.outer) := by rw [← hstk]; exact I.ok.frames
    have hLs : X.env.locals ∈ frs X.stack := by rw [hstk]; exact List.mem_filterMap.mpr ⟨X.env, List.mem_cons_self, hfr⟩
    have hkb : (PySem.W.hideAll s4.heap (e2 :: frs X.stack)).StaysIn s4.heap := fun b o q => PySem.W.of_hideAll _ q
    have f1 : (PySem.W.hideAll s4.heap (e2 :: frs X.stack)).StaysIn h5 := fun b o q => by
      have hb : b ≠ e2 := fun z => by rw [z, PySem.W.hideAll_none _ List.mem_cons_self] at q; cases q
      exact (ho5 b hb).trans (hkb b o q)
    have f3 : h5.FunFrames (PySem.W.hideAll s4.heap (e2 :: frs X.stack)) (X.env :: X.outer) := by
      rw [← hstk]
      refine (PySem.W.funFrames_hide IX4.stack fun env he a ha => List.mem_cons_of_mem _ (List.mem_filterMap.mpr ⟨env, he, ha⟩)).of_keeps fun b o hb hn => ⟨o, (ho5 b fun z => ?_).trans hb, rfl⟩
      rw [z, ge4] at hb; cases hb; exact hn _ rfl
    have hBL : (PySem.W.hideAll s4.heap (e2 :: frs X.stack)).get? X.env.locals = none := PySem.W.hideAll_none _ (List.mem_cons_of_mem _ hLs)
    obtain ⟨mm, hmm, _⟩ := id IX4.loc
    have hm5 : h5.Ns X.env.locals mm := by
      obtain ⟨o, es', ep, ho', r⟩ := hmm
      exact ⟨o, es', ep, (ho5 _ (Ne.symm neL)).trans ho', r⟩
    have fsL : ∀ b ∈ X.fs, b ≠ X.env.locals := fun b hb z => by
      obtain ⟨_, o, q, _⟩ := IX4.ok.funs.mem hb
      have h1 := Heap.lt_size q
      rw [z] at h1
      exact absurd (Nat.lt_of_lt_of_le h1 IX4.ok.above) (Nat.lt_irrefl _)
    refine note_raw (s := { s4 with heap := h5 }) frM hfr f1 (PySem.W.hideAll_none _ List.mem_cons_self) f3 he5 rfl rfl (a0 := .ref tt) rfl rfl fun h6 any6 sm6 => ?_
    have hm6 := sm6.ns hm5
    refine wpAny_nameGoes_keeps (s := { s4 with heap := h6 }) hl hm6 (by rw [I.ok.kind]; rfl) fun h7 v7 hn7 hs7 => ?_
    have any7 := any_loc any6 hs7 hm6 hn7 hBL
    refine passOn_anyW any7 fun h8 any8 sm8 => ?_
    refine note_any frM hfr any8 fun h9 any9 sm9 => ?_
    refine back_any any9 fun h10 any10 sm10 => ?_
    refine hxh pins _ H4 s4 _ e2 (.ref C2) (.ref tt) _ IX4 rfl IX4.bare hkb (by have z := any10; revert z; generalize PySem.W.hideAll s4.heap (e2 :: frs X.stack) = BB; intro z; rw [hstk]; exact z) (fun b o q hb => ?_) (fun b o q hb => ?_) (fun b u q => ?_) hE2
    · have nr := IX4.nonrec q hb
      have hbe : b ≠ e2 := fun z => neF (z ▸ hb)
      have q5 : h5.get? b = some o := (ho5 b hbe).trans q
      obtain ⟨s1', e6⟩ := sm6 b o q5 nr
      have e7 : h7.get? b = some { o with slots := s1' } := (hs7.2 b (fsL b hb)).trans e6
      obtain ⟨s2', e8⟩ := sm8 b _ e7 (fun vs z => nr vs z)
      obtain ⟨s3', e9⟩ := sm9 b _ e8 (fun vs z => nr vs z)
      obtain ⟨s4', e10⟩ := sm10 b _ e9 (fun vs z => nr vs z)
      exact ⟨s4', e10⟩
    · obtain ⟨o1, q1⟩ := IX4.base.there b o q (fun z => by rw [hex] at z; cases z)
      refine ⟨o1, PySem.W.hideAll_get _ q1 fun z => ?_⟩
      rcases List.mem_cons.mp z with z | z
      · have IX2 : Inv X pins _ H4 s2 := J2.ofS I.ok.hd I.ok.frames
        obtain ⟨o2, q2⟩ := IX2.base.there b o q (fun z => by rw [hex] at z; cases z)
        rw [z, hs0] at q2; cases q2
      · exact IX4.offStack q hb z
    · obtain ⟨o1, q1⟩ := (IX4.hok b u q).ex
      refine ⟨o1, PySem.W.hideAll_get _ q1 fun z => ?_⟩
      rcases List.mem_cons.mp z with z | z
      · rw [z, hH2] at q; cases q
      · rw [IX4.stkFree b z] at q; cases q
  · cases f with
    | next => obtain ⟨σ', Hn, J, q⟩ := q; exact wpAny_execs_nil ⟨σ', Hn, J.ofW, q⟩
    | brk => obtain ⟨σ', Hn, J, q⟩ := q; exact ⟨σ', Hn, J.ofW, q⟩
    | cont => obtain ⟨σ', Hn, J, q⟩ := q; exact ⟨σ', Hn, J.ofW, q⟩
    | ret v => obtain ⟨y, σ', Hn, J, r, q⟩ := q; exact ⟨y, σ', Hn, J.ofW, r, q⟩
theorem r_tryF {k : Nat} {tb : XK → TS} {C C2 : Addr} {i : Nat} {ta : TA} {E : XK} {D : Ends} {σ : St} {H : Hp} (h : tb (fun cls _ H' => cls = .ref C ∧ ∀ ea, H' ea = none → ta ((List.replicate k none).set i (some (.ref ea))) (upd H' ea (.ext (ExcN ea C))) fun vs H2 => vs.length ≤ sizeLine ∧ H2 ea = some (.ext (ExcN ea C)) ∧ E (.ref C2) none H2) D σ H) : tTryF k tb C C2 i ta E D σ H := h
end L2
/-! ### texts: a part from or up to a place, a text some times over -/
namespace L2
open PySem PySem.Spec PyProof.Rows
def dropS (z : Str) (n : Nat) : Str := ⟨(z.cps.toList.drop n).toArray⟩
def takeS (z : Str) (n : Nat) : Str := ⟨(z.cps.toList.take n).toArray⟩
def repS (z : Str) (n : Nat) : Str := ⟨(List.replicate n z.cps).foldl (· ++ ·) #[]⟩
theorem fm_take (l : List Nat) (n : Nat) (h : n ≤ l.length) : (List.range' 0 n).filterMap (fun i => l[i]?) = l.take n := by
  have := fm_range' (l.take n) n 0 (by rw [List.length_take]; omega)
  rw [List.drop_zero] at this
  rw [← this]
  have cg : ∀ r : List Nat, (∀ i ∈ r, i < n) → r.filterMap (fun i => l[i]?) = r.filterMap (fun i => (l.take n)[i]?) := fun r => by
    induction r with
    | nil => intro _; rfl
    | cons a r ih =>
      intro hr
      rw [List.filterMap_cons, List.filterMap_cons, ih (fun i hi => hr i (List.mem_cons_of_mem _ hi)), List.getElem?_take, if_pos (hr a List.mem_cons_self)]
  exact cg _ (fun i hi => by rw [List.mem_range'_1] at hi; omega)
theorem slice_to {n len : Nat} (h : n ≤ len) : Builtin.Str.strSliceIndices none (some (n : Int)) 1 len = List.range' 0 n := by
  have e : Builtin.Str.strSliceIndices none (some (n : Int)) 1 len = Builtin.Str.strSliceIndices (some ((0 : Nat) : Int)) (some (n : Int)) 1 len := by
    unfold Builtin.Str.strSliceIndices
    have h2 : max 0 (min (0 : Int) (len : Int)) = 0 := by omega
    simp [h2]
  rw [e, StrLaws.strSliceIndices_plain (Nat.zero_le _) h, ← List.range'_eq_map_range, Nat.sub_zero]
def rSl2 : V → Option Int → Option Int → Hp → VK → Prop := fun x lo hi H Q => ∃ z, ∃ n : Nat, x = .str z ∧ n ≤ z.length ∧ z.length ≤ 100000 ∧ ((lo = some (n : Int) ∧ hi = none ∧ Q (.str (dropS z n)) H) ∨ (lo = none ∧ hi = some (n : Int) ∧ Q (.str (takeS z n)) H))
section
variable {X : Cx}
theorem sl_str2 : SlR X rSl2 := by
  intro pins s σ H x v vl vu lo hi sl Q I rx hs pl pu h
  obtain ⟨z, n, rfl, hn, h9, q⟩ := h
  obtain ⟨t, rfl⟩ := rx
  have hzl : z.length = z.cps.toList.length := by rw [Array.length_toList]; rfl
  have main : ∀ (l u : Option (Int × Tok)) (r : List Nat), s.heap.IsSlice sl l u none → slicePicked z l u none = r → r.filterMap (fun i => z.cps.toList[i]?) = z.cps.toList.drop n ∧ r.length = z.length - n ∨ r.filterMap (fun i => z.cps.toList[i]?) = z.cps.toList.take n ∧ r.length = n → Q (.str ⟨(r.filterMap (fun i => z.cps.toList[i]?)).toArray⟩) H → ∃ T id, typeLookup (.type T) "__getitem__" = pure (some (.builtin id)) ∧ s.TypeIs (.str z t) T ∧ wpAny (model X.prog X.w) X.A (getItem (.str z t) (.ref sl)) (EP X pins σ Q) X.xe s := fun l u r hs' e hr q => by
    refine ⟨"str", _, PySem.F.slot_str_getitem.lookup, typeIs_str s z t, ?_⟩
    refine wpAny_getItem_str_slice (l := l) (u := u) (st := none) hs' rfl ?_
    unfold sliceMade
    rw [e]
    have e2 : (List.filterMap (fun i => z.cps[i]?) r) = List.filterMap (fun i => z.cps.toList[i]?) r := by
      congr 1
      funext i
      rw [Array.getElem?_toList]
    rw [e2]
    by_cases hz : ((((none : Option (Int × Tok)).map (·.1)).getD 1 == 1) && r.length == z.length) = true
    · rw [if_pos hz]
      have hz1 : r.length = z.length := by simpa using hz
      have e3 : (⟨(r.filterMap (fun i => z.cps.toList[i]?)).toArray⟩ : Str) = z := by
        rcases hr with ⟨a, b⟩ | ⟨a, b⟩
        · rw [a]
          by_cases h0 : n = 0
          · rw [h0, List.drop_zero]
          · rw [show n = z.cps.toList.length by omega] at b
            have : z.cps.toList = [] := List.length_eq_zero_iff.mp (by omega)
            rw [this, List.drop_nil, ← this]
        · rw [a, List.take_of_length_le (by omega)]
      rw [e3] at q
      unfold Made.post
      exact ⟨.str z, H, I, ⟨_, rfl⟩, q⟩
    · rw [if_neg hz]
      unfold Made.post
      refine ⟨Nat.le_trans ?_ (Nat.le_trans h9 (by decide)), .str _, H, I.tok _, ⟨_, rfl⟩, q⟩
      show (r.filterMap (fun i => z.cps.toList[i]?)).toArray.size ≤ _
      rw [List.size_toArray]
      have := List.length_filterMap_le (fun i => z.cps.toList[i]?) r
      rcases hr with ⟨a, b⟩ | ⟨a, b⟩ <;> omega
  rcases q with ⟨rfl, rfl, q⟩ | ⟨rfl, rfl, q⟩
  · cases pl with
    | int i tl =>
      cases pu
      have e1 := fm_range' z.cps.toList (z.length - n) n (by omega)
      exact main (some ((n : Int), tl)) none _ hs (slice_from hn) (.inl ⟨e1, by simp⟩) (by rw [e1]; exact q)
  · cases pu with
    | int i tl =>
      cases pl
      have e1 := fm_take z.cps.toList n (by omega)
      exact main none (some ((n : Int), tl)) _ hs (slice_to hn) (.inr ⟨e1, by simp⟩) (by rw [e1]; exact q)
def rRepS : R2 := fun x y H Q => ∃ z k, x = .str z ∧ y = .int k ∧ 2 ≤ k ∧ k ≤ 100000 ∧ z.length = 1 ∧ Q (.str (repS z k.toNat)) H
theorem op_repS : OpR X (binaryOp .Mult) rRepS := by
  intro pins s σ H x y v u Q I rx ry h
  obtain ⟨z, k, rfl, rfl, h1, h2, hz, q⟩ := h
  obtain ⟨t, rfl⟩ := rx
  obtain ⟨t', rfl⟩ := ry
  have hl : Builtin.Str.tooLong (z.length * k.toNat) = false := by
    unfold Builtin.Str.tooLong
    rw [hz]
    have : (100000 : Nat) ≤ sizeLine := by decide
    rw [decide_eq_false (by omega)]
  refine PySem.P.mul_str ?_ (fun _ _ => ?_) (fun _ _ => hl) ?_
  · rw [decide_eq_false (by omega), decide_eq_false (by omega)]; rfl
  · rw [hz]
    have : (1 : Int) ≤ (2 ^ 63 - 1) / k := (Int.le_ediv_iff_mul_le (by omega)).mpr (by omega)
    omega
  · rw [if_neg (by omega), if_neg (by rw [hz]; simp; omega)]
    unfold Made.post
    exact ⟨PySem.fits_reps hl, .str _, H, I.tok _, ⟨_, rfl⟩, q⟩
end
theorem rep_fold (a : Array Nat) : ∀ (n : Nat) (acc : Array Nat), ((List.replicate n a).foldl (· ++ ·) acc).toList = acc.toList ++ (List.replicate n a.toList).flatten
  | 0, acc => by simp
  | n + 1, acc => by
    rw [List.replicate_succ, List.foldl_cons, rep_fold a n, List.replicate_succ, List.flatten_cons, Array.toList_append, List.append_assoc]
theorem rep_cps (z : Str) (n : Nat) : (repS z n).cps.toList = (List.replicate n z.cps.toList).flatten := by
  unfold repS
  have := rep_fold z.cps n #[]
  rw [this]; rfl
theorem rep_one {c : Nat} (n : Nat) : (repS ⟨#[c]⟩ n).cps.toList = List.replicate n c := by
  rw [rep_cps]
  induction n with
  | zero => rfl
  | succ n ih => rw [List.replicate_succ, List.flatten_cons, ih, List.replicate_succ]; rfl
theorem drop_cps (z : Str) (n : Nat) : (dropS z n).cps.toList = z.cps.toList.drop n := by unfold dropS; rw [List.toList_toArray]
theorem take_cps (z : Str) (n : Nat) : (takeS z n).cps.toList = z.cps.toList.take n := by unfold takeS; rw [List.toList_toArray]
end L2
/-! ### texts that write no house -/
namespace My
open PySem L2 PyProof.Rows
theorem join_eq (sep y : Str) (ys : List Str) : Txt.join sep (y :: ys) = sep.join (y :: ys) := str_ext (by rw [join_cps, join_cps2])
/-- the parts of a text -/
theorem split_at (x sep : Str) : ∃ y ys, Txt.split x sep = y :: ys ∧ x = Txt.join sep (y :: ys) ∧ (∀ z ∈ y :: ys, z.length ≤ x.length) := by
  have h1 := StrLaws.join_split x sep
  have h2 := PyProof.Rows.split_pos x sep
  generalize Txt.split x sep = ps at h1 h2
  cases ps with
  | nil => simp at h2
  | cons y ys =>
    have e : x = Txt.join sep (y :: ys) := by rw [join_eq]; exact h1.symm
    refine ⟨y, ys, rfl, e, fun z hz => ?_⟩
    rw [str_len, str_len x, e, join_cps, List.length_append]
    rcases List.mem_cons.mp hz with rfl | hz
    · omega
    · have hsub : ∀ l : List Str, z ∈ l → z.cps.toList.length ≤ (l.flatMap fun w => sep.cps.toList ++ w.cps.toList).length := fun l => by
        induction l with
        | nil => intro h; simp at h
        | cons a r ih =>
          intro h
          rw [List.flatMap_cons, List.length_append, List.length_append]
          rcases List.mem_cons.mp h with rfl | h
          · omega
          · have := ih h; omega
      have := hsub ys hz
      omega
theorem row_of {row : Str} {b : Bool} {ws : List Int} (h : Txt.split row blT = lampS b :: ws.map numS) : row = rowS b ws := by
  obtain ⟨y, ys, e1, e2, _⟩ := split_at row blT
  rw [h] at e1
  rw [e2, ← e1]; rfl
theorem valid_400 {d : Int} {rss : List (List Int)} {ls : List Bool} (Vd : Valid d rss ls) : ∀ ws ∈ rss, ∀ x ∈ ws, 0 ≤ x ∧ x < 400 := fun ws hw x hx => by
  have := (Vd.row ws hw).2 x hx
  have := Vd.r400
  omega
theorem nums_inj : ∀ {as bs : List Int}, (∀ x ∈ as, 0 ≤ x ∧ x < 400) → (∀ x ∈ bs, 0 ≤ x ∧ x < 400) → as.map numS = bs.map numS → as = bs
  | [], [], _, _, _ => rfl
  | [], _ :: _, _, _, h => by simp at h
  | _ :: _, [], _, _, h => by simp at h
  | a :: as, b :: bs, ha, hb, h => by
    simp only [List.map_cons, List.cons.injEq] at h
    have a1 := ha a (by simp)
    have b1 := hb b (by simp)
    rw [num_inj a1.1 a1.2 b1.1 b1.2 h.1, nums_inj (fun x hx => ha x (by simp [hx])) (fun x hx => hb x (by simp [hx])) h.2]
theorem rowS_inj {b b' : Bool} {ws ws' : List Int} (h : ∀ x ∈ ws, 0 ≤ x ∧ x < 400) (h' : ∀ x ∈ ws', 0 ≤ x ∧ x < 400) (e : rowS b ws = rowS b' ws') : b = b' ∧ ws = ws' := by
  have e1 := split_row (b := b) h
  rw [e, split_row h'] at e1
  obtain ⟨e2, e3⟩ := List.cons.inj e1
  exact ⟨(lamp_inj e2).symm, (nums_inj h' h e3).symm⟩
theorem head_inj {d d' : Int} (h0 : 0 ≤ d) (h1 : d < 400) (g0 : 0 ≤ d') (g1 : d' < 400) (e : headS d = headS d') : d = d' := by
  have := congrArg (fun s : Str => s.cps.toList) e
  simp only [headS, str_app] at this
  exact num_inj h0 h1 g0 g1 (str_ext (List.append_cancel_left this))
/-- a text of a house has these rows -/
theorem text_rows {x r0 : Str} {rest : List Str} (hs : Txt.split x nlT = r0 :: rest) {d : Int} {rss : List (List Int)} {ls : List Bool} (Vd : Valid d rss ls) (e : x = textS d rss ls) : r0 = headS d ∧ rest = rowsS ls rss := by
  have h1 := Vd.d1
  have h6 := Vd.d6
  rw [e, split_text (by omega) (by omega) (valid_400 Vd)] at hs
  obtain ⟨e1, e2⟩ := List.cons.inj hs
  exact ⟨e1.symm, e2.symm⟩
theorem rows_at {d : Int} {rss : List (List Int)} {ls : List Bool} (Vd : Valid d rss ls) {rest : List Str} (e : rest = rowsS ls rss) {i : Nat} {row : Str} (h : rest[i]? = some row) : ∃ b ws, rss[i]? = some ws ∧ ls[i]? = some b ∧ row = rowS b ws ∧ (∀ x ∈ ws, 0 ≤ x ∧ x < 400) := by
  rw [e] at h
  unfold rowsS at h
  rw [List.getElem?_zipWith_eq_some] at h
  obtain ⟨b, ws, h1, h2, h3⟩ := h
  exact ⟨b, ws, h2, h1, h3.symm, valid_400 Vd ws (List.mem_of_getElem? h2)⟩

def Bad (x : Str) : Prop := ∀ d rss ls, Valid d rss ls → x ≠ textS d rss ls
/-! counts -/
def cntS (c : Nat) (x : Str) : Nat := x.cps.toList.count c
theorem cntS_app (c : Nat) (a b : Str) : cntS c (a ++ b) = cntS c a + cntS c b := by unfold cntS; rw [str_app, List.count_append]
theorem cntS_len (c : Nat) (x : Str) : cntS c x ≤ x.length := by unfold cntS; rw [str_len]; exact List.count_le_length
theorem cntS_zero {c : Nat} {x : Str} (h : c ∉ x.cps.toList) : cntS c x = 0 := List.count_eq_zero.mpr h
theorem join_cons (sep y z : Str) (ys : List Str) : Txt.join sep (y :: z :: ys) = y ++ (sep ++ Txt.join sep (z :: ys)) := str_ext (by
  rw [str_app, str_app, join_cps, join_cps, List.flatMap_cons]; simp)
/-- a count of a joined text -/
theorem join_sum {f : Str → Nat} (fa : ∀ a b, f (a ++ b) = f a + f b) (sep : Str) : ∀ (ys : List Str) (y : Str), f (Txt.join sep (y :: ys)) = (((y :: ys).map f).sum + ys.length * f sep)
  | [], y => by rw [join_one]; simp
  | z :: ys, y => by
    rw [join_cons, fa, fa, join_sum fa sep ys z]
    simp only [List.map_cons, List.sum_cons, List.length_cons, Nat.add_mul, Nat.one_mul]
    omega
theorem sum_zero {α : Type} {f : α → Nat} : ∀ {l : List α}, (∀ x ∈ l, f x = 0) → (l.map f).sum = 0
  | [], _ => rfl
  | a :: r, h => by rw [List.map_cons, List.sum_cons, h a (by simp), sum_zero fun x hx => h x (by simp [hx])]
theorem sum_const {α : Type} {f : α → Nat} {k : Nat} : ∀ {l : List α}, (∀ x ∈ l, f x = k) → (l.map f).sum = l.length * k
  | [], _ => by simp
  | a :: r, h => by rw [List.map_cons, List.sum_cons, h a (by simp), sum_const fun x hx => h x (by simp [hx]), List.length_cons, Nat.succ_mul]; omega
theorem num_free {n : Int} (h0 : 0 ≤ n) (h1 : n < 400) : 10 ∉ (numS n).cps.toList ∧ 32 ∉ (numS n).cps.toList := by
  have := (num_of h0 h1).2.1
  exact ⟨fun z => by have := this _ z; omega, fun z => by have := this _ z; omega⟩
theorem lamp_free2 (b : Bool) : 10 ∉ (lampS b).cps.toList ∧ 32 ∉ (lampS b).cps.toList := by cases b <;> decide
theorem row_bl {b : Bool} {ws : List Int} (h : ∀ x ∈ ws, 0 ≤ x ∧ x < 400) : cntS 32 (rowS b ws) = ws.length := by
  unfold rowS
  rw [join_sum (cntS_app 32), List.map_cons, List.sum_cons, cntS_zero (lamp_free2 b).2, sum_zero, List.length_map, show cntS 32 blT = 1 from rfl]
  · omega
  · intro y hy
    obtain ⟨n, hn, rfl⟩ := List.mem_map.mp hy
    exact cntS_zero (num_free (h n hn).1 (h n hn).2).2
theorem row_nl {b : Bool} {ws : List Int} (h : ∀ x ∈ ws, 0 ≤ x ∧ x < 400) : 10 ∉ (rowS b ws).cps.toList := fun z => by have := row_free h _ z; omega
theorem head_nl {d : Int} (h0 : 0 ≤ d) (h1 : d < 400) : 10 ∉ (headS d).cps.toList := fun z => by have := head_free h0 h1 _ z; omega
theorem head_bl {d : Int} (h0 : 0 ≤ d) (h1 : d < 400) : cntS 32 (headS d) = 1 := by
  unfold headS
  rw [cntS_app, cntS_zero (num_free h0 h1).2]; rfl
theorem rowsS_len {d : Int} {rss : List (List Int)} {ls : List Bool} (Vd : Valid d rss ls) : (rowsS ls rss).length = rss.length := by
  unfold rowsS; rw [List.length_zipWith, Vd.ll]; omega
theorem rowsS_mem {d : Int} {rss : List (List Int)} {ls : List Bool} (Vd : Valid d rss ls) {z : Str} (h : z ∈ rowsS ls rss) : 10 ∉ z.cps.toList ∧ cntS 32 z = d.toNat := by
  obtain ⟨b, ws, hw, rfl⟩ := mem_zipWith h
  have h4 := valid_400 Vd ws hw
  refine ⟨row_nl h4, ?_⟩
  rw [row_bl h4]
  have := (Vd.row ws hw).1
  omega
theorem text_nl {d : Int} {rss : List (List Int)} {ls : List Bool} (Vd : Valid d rss ls) : cntS 10 (textS d rss ls) = rss.length := by
  have h1 := Vd.d1
  have h6 := Vd.d6
  unfold textS
  rw [join_sum (cntS_app 10), List.map_cons, List.sum_cons, cntS_zero (head_nl (by omega) (by omega)), sum_zero fun x hx => cntS_zero (rowsS_mem Vd hx).1, rowsS_len Vd, show cntS 10 nlT = 1 from rfl]
  omega
theorem text_bl {d : Int} {rss : List (List Int)} {ls : List Bool} (Vd : Valid d rss ls) : cntS 32 (textS d rss ls) = 1 + rss.length * d.toNat := by
  have h1 := Vd.d1
  have h6 := Vd.d6
  unfold textS
  rw [join_sum (cntS_app 32), List.map_cons, List.sum_cons, head_bl (by omega) (by omega), sum_const fun x hx => (rowsS_mem Vd hx).2, rowsS_len Vd, show cntS 32 nlT = 0 from rfl]
  omega
/-! a sign more -/
def putS (x : Str) (p : Nat) (c : Str) : Str := takeS x p ++ c ++ dropS x p
theorem cntS_put (c : Nat) (x y : Str) (p : Nat) : cntS c (putS x p y) = cntS c x + cntS c y := by
  unfold putS
  rw [cntS_app, cntS_app]
  have : cntS c (takeS x p) + cntS c (dropS x p) = cntS c x := by
    unfold cntS
    rw [take_cps, drop_cps, ← List.count_append, List.take_append_drop]
  omega
theorem text_take {d : Int} {rss : List (List Int)} {ls : List Bool} (Vd : Valid d rss ls) : (textS d rss ls).cps.toList.take 7 = (headS d).cps.toList := by
  have h1 := Vd.d1
  have h6 := Vd.d6
  unfold textS
  rw [join_cps, List.take_append_of_le_length, List.take_of_length_le]
  all_goals
    have h : ∀ d : Nat, d ≤ 6 → (headS (d : Int)).cps.toList.length = 7 := by decide +kernel
    have := h d.toNat (by omega)
    rw [Int.toNat_of_nonneg (by omega)] at this
    omega
theorem head_put : ∀ d : Nat, d ≤ 6 → ∀ e : Nat, e ≤ 6 → ∀ p : Nat, p < 7 → ((headS (d : Int)).cps.toList.take p ++ [10] ++ (headS (d : Int)).cps.toList.drop p).take 7 ≠ (headS (e : Int)).cps.toList ∧ (((headS (d : Int)).cps.toList.take p ++ [32] ++ (headS (d : Int)).cps.toList.drop p).take 7 ≠ (headS (e : Int)).cps.toList) := by decide +kernel
theorem bad_put {d : Int} {rss : List (List Int)} {ls : List Bool} (Vd : Valid d rss ls) {p : Nat} (hp : p ≤ (textS d rss ls).length) {y : Str} (hy : y = blT ∨ y = nlT) : Bad (putS (textS d rss ls) p y) := fun d' rss' ls' Vd' e => by
  have h1 := Vd.d1
  have h6 := Vd.d6
  have g1 := Vd'.d1
  have g6 := Vd'.d6
  have t := text_take Vd
  have t' := text_take Vd'
  have hl7 : (headS d).cps.toList.length = 7 := by
    have h : ∀ d : Nat, d ≤ 6 → (headS (d : Int)).cps.toList.length = 7 := by decide +kernel
    have := h d.toNat (by omega)
    rw [Int.toNat_of_nonneg (by omega)] at this
    exact this
  have ed : d = d' := by
    rw [← e] at t'
    unfold putS at t'
    rw [str_app, str_app, take_cps, drop_cps] at t'
    by_cases h7 : 7 ≤ p
    · rw [List.append_assoc, List.take_append_of_le_length (by rw [List.length_take, ← str_len]; omega), List.take_take, Nat.min_eq_left h7, t] at t'
      exact head_inj (by omega) (by omega) (by omega) (by omega) (str_ext t')
    · exfalso
      have key : ∀ (m : List Nat) (c : Nat), (((headS d).cps.toList ++ m).take p ++ [c] ++ ((headS d).cps.toList ++ m).drop p).take 7 = ((headS d).cps.toList.take p ++ [c] ++ (headS d).cps.toList.drop p).take 7 := fun m c => by
        rw [List.take_append_of_le_length (i := p) (by omega), List.drop_append_of_le_length (by omega), ← List.append_assoc, List.take_append_of_le_length (by simp only [List.length_append, List.length_take, List.length_drop, List.length_singleton]; omega)]
      have es : (textS d rss ls).cps.toList = (headS d).cps.toList ++ (textS d rss ls).cps.toList.drop 7 := by rw [← t, List.take_append_drop]
      rw [es] at t'
      have hp2 := head_put d.toNat (by omega) d'.toNat (by omega) p (by omega)
      rw [Int.toNat_of_nonneg (by omega), Int.toNat_of_nonneg (by omega)] at hp2
      rcases hy with rfl | rfl
      · rw [show blT.cps.toList = [32] from rfl, key] at t'
        exact hp2.2 t'
      · rw [show nlT.cps.toList = [10] from rfl, key] at t'
        exact hp2.1 t'
  subst ed
  have c1 := congrArg (cntS 10) e
  have c2 := congrArg (cntS 32) e
  rw [cntS_put, text_nl Vd, text_nl Vd'] at c1
  rw [cntS_put, text_bl Vd, text_bl Vd'] at c2
  rcases hy with rfl | rfl
  · rw [show cntS 10 blT = 0 from rfl, Nat.add_zero] at c1
    rw [show cntS 32 blT = 1 from rfl, ← c1] at c2
    omega
  · rw [show cntS 10 nlT = 1 from rfl] at c1
    rw [show cntS 32 nlT = 0 from rfl, ← c1, Nat.succ_mul] at c2
    omega
/-! rows of texts -/
def gridT (g : List (List Str)) : Str := Txt.join nlT (g.map (Txt.join blT))
def dW : Str := ⟨#[100, 111, 111, 114, 115]⟩
def partsS (b : Bool) (ws : List Int) : List Str := lampS b :: ws.map numS
def gridOf (d : Int) (rss : List (List Int)) (ls : List Bool) : List (List Str) := [dW, numS d] :: List.zipWith partsS ls rss
theorem head_join (d : Int) : Txt.join blT [dW, numS d] = headS d := str_ext (by
  unfold headS
  rw [join_cps, str_app, List.flatMap_cons, List.flatMap_nil, List.append_nil, ← List.append_assoc]; rfl)
theorem grid_text (d : Int) (rss : List (List Int)) (ls : List Bool) : gridT (gridOf d rss ls) = textS d rss ls := by
  unfold gridT gridOf textS rowsS
  rw [List.map_cons, head_join, List.map_zipWith]; rfl
theorem grid_set {d : Int} {rss : List (List Int)} {ls : List Bool} (i : Nat) (r : List Str) : gridT ((gridOf d rss ls).set (i + 1) r) = Txt.join nlT (headS d :: (rowsS ls rss).set i (Txt.join blT r)) := by
  unfold gridT gridOf rowsS
  rw [List.set_cons_succ, List.map_cons, head_join, List.map_set, List.map_zipWith]; rfl
theorem grid_head {d : Int} {rss : List (List Int)} {ls : List Bool} (x : Str) : gridT ((gridOf d rss ls).set 0 [x]) = Txt.join nlT (x :: rowsS ls rss) := by
  unfold gridT gridOf rowsS
  rw [List.set_cons_zero, List.map_cons, join_one, List.map_zipWith]; rfl
theorem bad_row {d : Int} {rss : List (List Int)} {ls : List Bool} (Vd : Valid d rss ls) {i : Nat} (hi : i < rss.length) {p0 : Str} {ps : List Str} (free : ∀ p ∈ p0 :: ps, 10 ∉ p.cps.toList ∧ 32 ∉ p.cps.toList)
    (bad : ∀ b (ws : List Int), p0 = lampS b → ps = ws.map numS → (ws.length : Int) = d → (∀ x ∈ ws, 0 ≤ x ∧ x < rss.length) → False) : Bad (gridT ((gridOf d rss ls).set (i + 1) (p0 :: ps))) := fun d' rss' ls' Vd' e => by
  have h1 := Vd.d1
  have h6 := Vd.d6
  have g1 := Vd'.d1
  have g6 := Vd'.d6
  rw [grid_set] at e
  have nfree : 10 ∉ (Txt.join blT (p0 :: ps)).cps.toList := fun z => by
    rw [join_cps] at z
    rcases List.mem_append.mp z with z | z
    · exact (free p0 (by simp)).1 z
    · obtain ⟨y, hy, z⟩ := List.mem_flatMap.mp z
      rcases List.mem_append.mp z with z | z
      · simp [blT] at z
      · exact (free y (by simp [hy])).1 z
  have hs : Txt.split (textS d' rss' ls') nlT = headS d :: (rowsS ls rss).set i (Txt.join blT (p0 :: ps)) := by
    rw [← e]
    refine split_join 10 _ _ fun z hz => ?_
    rcases List.mem_cons.mp hz with rfl | hz
    · exact head_nl (by omega) (by omega)
    · rcases List.mem_or_eq_of_mem_set hz with hz | rfl
      · exact (rowsS_mem Vd hz).1
      · exact nfree
  obtain ⟨e1, e2⟩ := text_rows hs Vd' rfl
  have ed := head_inj (by omega) (by omega) (by omega) (by omega) e1
  subst ed
  have hl : rss.length = rss'.length := by
    have := congrArg List.length e2
    rw [List.length_set, rowsS_len Vd, rowsS_len Vd'] at this
    exact this
  have hg : ((rowsS ls rss).set i (Txt.join blT (p0 :: ps)))[i]? = some (Txt.join blT (p0 :: ps)) := by
    rw [List.getElem?_set_self (by rw [rowsS_len Vd]; exact hi)]
  obtain ⟨b, ws, k1, k2, k3, k4⟩ := rows_at Vd' e2 hg
  have k5 := split_row (b := b) k4
  rw [← k3, show blT = (⟨#[32]⟩ : Str) from rfl, split_join 32 _ _ fun z hz => (free z hz).2] at k5
  obtain ⟨k6, k7⟩ := List.cons.inj k5
  have hw := Vd'.row ws (List.mem_of_getElem? k1)
  exact bad b ws k6 k7 hw.1 (fun x hx => by have := hw.2 x hx; omega)
theorem bad_head {d : Int} {rss : List (List Int)} {ls : List Bool} (Vd : Valid d rss ls) {x : Str} (hx : 10 ∉ x.cps.toList) (hn : ∀ e : Nat, e ≤ 6 → 1 ≤ e → x ≠ headS (e : Int)) : Bad (gridT ((gridOf d rss ls).set 0 [x])) := fun d' rss' ls' Vd' e => by
  have g1 := Vd'.d1
  have g6 := Vd'.d6
  rw [grid_head] at e
  have hs : Txt.split (textS d' rss' ls') nlT = x :: rowsS ls rss := by
    rw [← e]
    refine split_join 10 _ _ fun z hz => ?_
    rcases List.mem_cons.mp hz with rfl | hz
    · exact hx
    · exact (rowsS_mem Vd hz).1
  have := (text_rows hs Vd' rfl).1
  rw [← Int.toNat_of_nonneg (show 0 ≤ d' by omega)] at this
  exact hn d'.toNat (by omega) (by omega) this
theorem bad_short {d : Int} (h1 : 1 ≤ d) (h6 : d ≤ 6) : Bad (headS d) := fun d' rss' ls' Vd' e => by
  have c1 := congrArg (cntS 10) e
  rw [text_nl Vd', cntS_zero (head_nl (by omega) (by omega))] at c1
  have := Vd'.r1
  omega
/-! sizes -/
def SizeT (x : Str) : Prop := x.length ≤ 10000 ∧ cntS 10 x ≤ 400 ∧ cntS 32 x ≤ 800
theorem split_le {x : Str} {c : Nat} : (Txt.split x ⟨#[c]⟩).length ≤ cntS c x + 1 := by
  obtain ⟨y, ys, e1, e2, _⟩ := split_at x ⟨#[c]⟩
  rw [e1, e2, join_sum (cntS_app c), List.length_cons]
  have : cntS c ⟨#[c]⟩ = 1 := by unfold cntS; simp
  rw [this]; omega
theorem split_part {x row : Str} {c e : Nat} (h : row ∈ Txt.split x ⟨#[c]⟩) : cntS e row ≤ cntS e x := by
  obtain ⟨y, ys, e1, e2, _⟩ := split_at x ⟨#[c]⟩
  rw [e1] at h
  have := congrArg (cntS e) e2
  rw [this, join_sum (cntS_app e)]
  have : ∀ l : List Str, row ∈ l → cntS e row ≤ (l.map (cntS e)).sum := fun l => by
    induction l with
    | nil => intro h; simp at h
    | cons a r ih =>
      intro h
      rw [List.map_cons, List.sum_cons]
      rcases List.mem_cons.mp h with rfl | h
      · omega
      · have := ih h; omega
  have := this _ h
  omega
theorem size_rows {x : Str} (h : SizeT x) : (Txt.split x nlT).length ≤ 450 ∧ ∀ row ∈ Txt.split x nlT, (Txt.split row blT).length ≤ 900 := by
  obtain ⟨_, h1, h2⟩ := h
  refine ⟨?_, fun row hr => ?_⟩
  · have := split_le (x := x) (c := 10)
    show (Txt.split x ⟨#[10]⟩).length ≤ _
    omega
  · have h3 := split_part (e := 32) hr
    have := split_le (x := row) (c := 32)
    show (Txt.split row ⟨#[32]⟩).length ≤ _
    omega
/-- the sum over a row, and over all rows -/
def rsum (f : Str → Nat) (r : List Str) : Nat := (r.map fun p => f p + 1).sum
def gsum (f : Str → Nat) (g : List (List Str)) : Nat := (g.map fun r => rsum f r + 1).sum
theorem sum_le_all {α : Type} {f g : α → Nat} : ∀ {l : List α}, (∀ x ∈ l, f x ≤ g x) → (l.map f).sum ≤ (l.map g).sum
  | [], _ => by simp
  | a :: r, h => by
    rw [List.map_cons, List.sum_cons, List.map_cons, List.sum_cons]
    have := h a (by simp)
    have := sum_le_all (l := r) fun x hx => h x (by simp [hx])
    omega
theorem sum_succ {f : Str → Nat} : ∀ (l : List Str), (l.map fun p => f p + 1).sum = (l.map f).sum + l.length
  | [] => rfl
  | a :: r => by rw [List.map_cons, List.sum_cons, List.map_cons, List.sum_cons, sum_succ r, List.length_cons]; omega
theorem join_le {f : Str → Nat} (fa : ∀ a b, f (a ++ b) = f a + f b) {sep : Str} (hs : f sep ≤ 1) {y : Str} {ys : List Str} : f (Txt.join sep (y :: ys)) ≤ rsum f (y :: ys) := by
  unfold rsum
  rw [join_sum fa, sum_succ, List.length_cons]
  have : ys.length * f sep ≤ ys.length * 1 := Nat.mul_le_mul_left _ hs
  omega
theorem gsum_rows {f : Str → Nat} (fa : ∀ a b, f (a ++ b) = f a + f b) (hb : f blT ≤ 1) {g : List (List Str)} (hg : ∀ r ∈ g, r ≠ []) : rsum f (g.map (Txt.join blT)) ≤ gsum f g := by
  unfold rsum gsum
  rw [List.map_map]
  refine sum_le_all fun r hr => ?_
  cases r with
  | nil => exact absurd rfl (hg _ hr)
  | cons y ys => have := join_le fa hb (y := y) (ys := ys); show f (Txt.join blT (y :: ys)) + 1 ≤ _; omega
theorem grid_le {f : Str → Nat} (fa : ∀ a b, f (a ++ b) = f a + f b) (hb : f blT ≤ 1) (hn : f nlT ≤ 1) {g : List (List Str)} (h0 : g ≠ []) (hg : ∀ r ∈ g, r ≠ []) : f (gridT g) ≤ gsum f g := by
  refine Nat.le_trans ?_ (gsum_rows fa hb hg)
  unfold gridT
  cases g with
  | nil => exact absurd rfl h0
  | cons r g => exact join_le fa hn
theorem sum_set {α : Type} {f : α → Nat} : ∀ (l : List α) (i : Nat) (x : α), ((l.set i x).map f).sum ≤ (l.map f).sum + f x
  | [], _, _ => by simp
  | a :: r, 0, x => by simp only [List.set_cons_zero, List.map_cons, List.sum_cons]; omega
  | a :: r, i + 1, x => by
    simp only [List.set_cons_succ, List.map_cons, List.sum_cons]
    have := sum_set (f := f) r i x
    omega
theorem gsum_set {f : Str → Nat} (g : List (List Str)) (i : Nat) (r : List Str) : gsum f (g.set i r) ≤ gsum f g + (rsum f r + 1) := sum_set (f := fun r => rsum f r + 1) g i r
theorem rsum_set {f : Str → Nat} (r : List Str) (i : Nat) (p : Str) : rsum f (r.set i p) ≤ rsum f r + (f p + 1) := sum_set (f := fun p => f p + 1) r i p
theorem rsum_le {f : Str → Nat} {k : Nat} {r : List Str} (h : ∀ p ∈ r, f p ≤ k) : rsum f r ≤ r.length * (k + 1) := by
  unfold rsum
  have := sum_le (l := r.map fun p => f p + 1) (k := k + 1) (fun x hx => by obtain ⟨p, hp, rfl⟩ := List.mem_map.mp hx; have := h p hp; omega)
  rwa [List.length_map] at this
/-- a part of a house's text is short -/
def Few5 (f : Str → Nat) : Prop := (∀ a b, f (a ++ b) = f a + f b) ∧ f blT ≤ 1 ∧ f nlT ≤ 1 ∧ ∀ x : Str, f x ≤ x.length
theorem few_len : Few5 (fun x => x.length) := ⟨str_lapp, by decide, by decide, fun _ => Nat.le_refl _⟩
theorem few_cnt (c : Nat) : Few5 (cntS c) := ⟨cntS_app c, cntS_len c blT, cntS_len c nlT, cntS_len c⟩
theorem gridOf_mem {d : Int} {rss : List (List Int)} {ls : List Bool} (Vd : Valid d rss ls) {r : List Str} (h : r ∈ gridOf d rss ls) : r ≠ [] ∧ r.length ≤ 7 ∧ ∀ p ∈ r, p.length ≤ 5 := by
  have h1 := Vd.d1
  have h6 := Vd.d6
  rcases List.mem_cons.mp h with rfl | h
  · refine ⟨by simp, by simp, fun p hp => ?_⟩
    rcases List.mem_cons.mp hp with rfl | hp
    · decide
    · rw [List.mem_singleton.mp hp]
      have := num_len (n := d) (by omega) (by omega)
      omega
  · obtain ⟨i, hi⟩ := List.getElem?_of_mem h
    rw [List.getElem?_zipWith_eq_some] at hi
    obtain ⟨b, ws, e1, e2, rfl⟩ := hi
    have hw := Vd.row ws (List.mem_of_getElem? e2)
    have h4 := valid_400 Vd ws (List.mem_of_getElem? e2)
    refine ⟨by simp [partsS], by simp [partsS]; omega, fun p hp => ?_⟩
    rcases List.mem_cons.mp hp with rfl | hp
    · have := lamp_len b; omega
    · obtain ⟨n, hn, rfl⟩ := List.mem_map.mp hp
      have := num_len (h4 n hn).1 (h4 n hn).2
      omega
theorem gridOf_len {d : Int} {rss : List (List Int)} {ls : List Bool} (Vd : Valid d rss ls) : (gridOf d rss ls).length = rss.length + 1 := by
  unfold gridOf; rw [List.length_cons, List.length_zipWith, Vd.ll]; omega
theorem gridOf_sum {d : Int} {rss : List (List Int)} {ls : List Bool} (Vd : Valid d rss ls) (h15 : rss.length ≤ 15) {f : Str → Nat} (F : Few5 f) : gsum f (gridOf d rss ls) ≤ 688 := by
  unfold gsum
  have := sum_le (l := (gridOf d rss ls).map fun r => rsum f r + 1) (k := 43) (fun x hx => by
    obtain ⟨r, hr, rfl⟩ := List.mem_map.mp hx
    obtain ⟨_, k2, k3⟩ := gridOf_mem Vd hr
    have := rsum_le (f := f) (k := 5) (r := r) (fun p hp => Nat.le_trans (F.2.2.2 p) (k3 p hp))
    have : r.length * 6 ≤ 42 := by omega
    show rsum f r + 1 ≤ 43
    omega)
  rw [List.length_map, gridOf_len Vd] at this
  have : (rss.length + 1) * 43 ≤ 688 := by omega
  omega
theorem gridOf_nl {d : Int} {rss : List (List Int)} {ls : List Bool} (Vd : Valid d rss ls) {r : List Str} (h : r ∈ gridOf d rss ls) : ∀ p ∈ r, 10 ∉ p.cps.toList ∧ 32 ∉ p.cps.toList := fun p hp => by
  have h1 := Vd.d1
  have h6 := Vd.d6
  rcases List.mem_cons.mp h with rfl | h
  · rcases List.mem_cons.mp hp with rfl | hp
    · decide
    · rw [List.mem_singleton.mp hp]
      exact num_free (by omega) (by omega)
  · obtain ⟨i, hi⟩ := List.getElem?_of_mem h
    rw [List.getElem?_zipWith_eq_some] at hi
    obtain ⟨b, ws, e1, e2, rfl⟩ := hi
    have h4 := valid_400 Vd ws (List.mem_of_getElem? e2)
    rcases List.mem_cons.mp hp with rfl | hp
    · exact lamp_free2 b
    · obtain ⟨n, hn, rfl⟩ := List.mem_map.mp hp
      exact num_free (h4 n hn).1 (h4 n hn).2
theorem gridOf_sum1 {d : Int} {rss : List (List Int)} {ls : List Bool} (Vd : Valid d rss ls) (h15 : rss.length ≤ 15) : gsum (cntS 10) (gridOf d rss ls) ≤ 128 := by
  unfold gsum
  have := sum_le (l := (gridOf d rss ls).map fun r => rsum (cntS 10) r + 1) (k := 8) (fun x hx => by
    obtain ⟨r, hr, rfl⟩ := List.mem_map.mp hx
    obtain ⟨_, k2, k3⟩ := gridOf_mem Vd hr
    have := rsum_le (f := cntS 10) (k := 0) (r := r) (fun p hp => by rw [cntS_zero (gridOf_nl Vd hr p hp).1]; exact Nat.le_refl _)
    show rsum (cntS 10) r + 1 ≤ 8
    omega)
  rw [List.length_map, gridOf_len Vd] at this
  omega
/-- a turned grid: sizes -/
structure FineG (g : List (List Str)) : Prop where
  n0 : g ≠ []
  rn : ∀ r ∈ g, r ≠ []
  sl : gsum (fun x => x.length) g ≤ 9000
  s1 : gsum (cntS 10) g ≤ 400
  s2 : gsum (cntS 32) g ≤ 800
theorem FineG.size {g : List (List Str)} (F : FineG g) : SizeT (gridT g) :=
  ⟨Nat.le_trans (grid_le few_len.1 few_len.2.1 few_len.2.2.1 F.n0 F.rn) (Nat.le_trans F.sl (by decide)), Nat.le_trans (grid_le (few_cnt 10).1 (few_cnt 10).2.1 (few_cnt 10).2.2.1 F.n0 F.rn) F.s1, Nat.le_trans (grid_le (few_cnt 32).1 (few_cnt 32).2.1 (few_cnt 32).2.2.1 F.n0 F.rn) F.s2⟩
theorem gridOf_fine {d : Int} {rss : List (List Int)} {ls : List Bool} (Vd : Valid d rss ls) (h15 : rss.length ≤ 15) : FineG (gridOf d rss ls) :=
  ⟨by simp [gridOf], fun r hr => (gridOf_mem Vd hr).1, Nat.le_trans (gridOf_sum Vd h15 few_len) (by decide), Nat.le_trans (gridOf_sum1 Vd h15) (by decide), Nat.le_trans (gridOf_sum Vd h15 (few_cnt 32)) (by decide)⟩
theorem fine_set {d : Int} {rss : List (List Int)} {ls : List Bool} (Vd : Valid d rss ls) (h15 : rss.length ≤ 15) (i : Nat) {r' : List Str} (hr : r' ≠ []) {p : Str} (hp : p.length ≤ 4400 ∧ cntS 10 p ≤ 10 ∧ cntS 32 p ≤ 10)
    (hs : ∀ f, Few5 f → rsum f r' ≤ 42 + (f p + 1)) : FineG ((gridOf d rss ls).set i r') := by
  refine ⟨fun z => ?_, fun r hm => ?_, ?_, ?_, ?_⟩
  · have := congrArg List.length z
    rw [List.length_set, gridOf_len Vd] at this
    simp at this
  · rcases List.mem_or_eq_of_mem_set hm with hm | rfl
    · exact (gridOf_mem Vd hm).1
    · exact hr
  · have := gsum_set (f := fun x => x.length) (gridOf d rss ls) i r'
    have := gridOf_sum Vd h15 few_len
    have h3 := hs _ few_len
    have h4 : rsum (fun x => x.length) r' ≤ 42 + (p.length + 1) := h3
    omega
  · have := gsum_set (f := cntS 10) (gridOf d rss ls) i r'
    have := gridOf_sum1 Vd h15
    have := hs _ (few_cnt 10)
    omega
  · have := gsum_set (f := cntS 32) (gridOf d rss ls) i r'
    have := gridOf_sum Vd h15 (few_cnt 32)
    have := hs _ (few_cnt 32)
    omega
theorem row_sum {d : Int} {rss : List (List Int)} {ls : List Bool} (Vd : Valid d rss ls) {r : List Str} (h : r ∈ gridOf d rss ls) {f : Str → Nat} (F : Few5 f) : rsum f r ≤ 42 := by
  obtain ⟨_, k2, k3⟩ := gridOf_mem Vd h
  have := rsum_le (f := f) (k := 5) (r := r) (fun p hp => Nat.le_trans (F.2.2.2 p) (k3 p hp))
  have : r.length * 6 ≤ 42 := by omega
  omega
theorem rsum_app {f : Str → Nat} (r : List Str) (p : Str) : rsum f (r ++ [p]) = rsum f r + (f p + 1) := by unfold rsum; rw [List.map_append, List.sum_append]; simp
theorem rsum_drop {f : Str → Nat} : ∀ r : List Str, rsum f r.dropLast ≤ rsum f r
  | [] => Nat.le_refl _
  | [a] => by simp [rsum]
  | a :: b :: r => by
    have := rsum_drop (f := f) (b :: r)
    unfold rsum at this ⊢
    rw [List.dropLast_cons_of_ne_nil (by simp), List.map_cons, List.sum_cons, List.map_cons, List.sum_cons]
    omega
/-! odd figures -/
def c0 : Str := ⟨#[48]⟩
def oddS (w : Int) (rooms : Int) (n : Nat) : List Str :=
  [c0 ++ numS w, ⟨#[48, 48]⟩, ⟨#[43]⟩ ++ numS w, ⟨#[45, 49]⟩, numS w ++ ⟨#[97]⟩, ⟨#[97]⟩, ⟨#[]⟩, numS rooms, ⟨#[52, 48, 48]⟩, ⟨#[52, 48, 48, 48]⟩, numS w ++ ⟨#[46]⟩ ++ numS w, repS ⟨#[57]⟩ n, ⟨#[48, 120, 49]⟩, ⟨#[49, 95, 48]⟩]
theorem odd_num : ∀ w : Nat, w < 15 → ∀ v : Nat, v < 15 → ∀ x ∈ [c0 ++ numS (w : Int), ⟨#[48, 48]⟩, ⟨#[43]⟩ ++ numS (w : Int), ⟨#[45, 49]⟩, numS (w : Int) ++ ⟨#[97]⟩, ⟨#[97]⟩, ⟨#[]⟩, ⟨#[52, 48, 48]⟩, ⟨#[52, 48, 48, 48]⟩, numS (w : Int) ++ ⟨#[46]⟩ ++ numS (w : Int), ⟨#[48, 120, 49]⟩, ⟨#[49, 95, 48]⟩], x.cps.toList ≠ (numS (v : Int)).cps.toList ∧ x.cps.toList.length ≤ 10 ∧ x.cps.toList.all (fun c => decide (33 ≤ c)) = true := by decide +kernel
theorem odd_ok {w rooms : Int} {n : Nat} (w0 : 0 ≤ w) (w1 : w < rooms) (r15 : rooms ≤ 15) (n4 : 4 ≤ n) (n1 : n ≤ 4400) {x : Str} (h : x ∈ oddS w rooms n) : (∀ v, 0 ≤ v → v < rooms → x ≠ numS v) ∧ (10 ∉ x.cps.toList ∧ 32 ∉ x.cps.toList) ∧ x.length ≤ 4400 := by
  have key : ∀ x ∈ [c0 ++ numS w, ⟨#[48, 48]⟩, ⟨#[43]⟩ ++ numS w, ⟨#[45, 49]⟩, numS w ++ ⟨#[97]⟩, ⟨#[97]⟩, ⟨#[]⟩, ⟨#[52, 48, 48]⟩, ⟨#[52, 48, 48, 48]⟩, numS w ++ ⟨#[46]⟩ ++ numS w, ⟨#[48, 120, 49]⟩, ⟨#[49, 95, 48]⟩], (∀ v, 0 ≤ v → v < rooms → x ≠ numS v) ∧ (10 ∉ x.cps.toList ∧ 32 ∉ x.cps.toList) ∧ x.length ≤ 4400 := fun x hx => by
    have k : ∀ v : Nat, v < 15 → _ := fun v hv => odd_num w.toNat (by omega) v hv x (by rw [Int.toNat_of_nonneg w0]; exact hx)
    refine ⟨fun v v0 v1 e => ?_, ?_, ?_⟩
    · have := (k v.toNat (by omega)).1
      rw [Int.toNat_of_nonneg v0] at this
      exact this (by rw [e])
    · have := (k 0 (by decide)).2.2
      rw [List.all_eq_true] at this
      exact ⟨fun z => by have := of_decide_eq_true (this _ z); omega, fun z => by have := of_decide_eq_true (this _ z); omega⟩
    · have := (k 0 (by decide)).2.1
      rw [str_len]; omega
  unfold oddS at h
  simp only [List.mem_cons, List.not_mem_nil, or_false] at h
  rcases h with h | h | h | h | h | h | h | h | h | h | h | h | h | h
  case inr.inr.inr.inr.inr.inr.inr.inl =>
    subst h
    refine ⟨fun v v0 v1 e => ?_, num_free (by omega) (by omega), ?_⟩
    · have := num_inj (by omega) (by omega) v0 (by omega) e
      omega
    · have := num_len (n := rooms) (by omega) (by omega)
      omega
  case inr.inr.inr.inr.inr.inr.inr.inr.inr.inr.inr.inl =>
    subst h
    refine ⟨fun v v0 v1 e => ?_, ?_, ?_⟩
    · have h3 := num_len (n := v) v0 (by omega)
      rw [← e, str_len, rep_one, List.length_replicate] at h3
      omega
    · rw [rep_one]
      exact ⟨fun z => by have := (List.mem_replicate.mp z).2; omega, fun z => by have := (List.mem_replicate.mp z).2; omega⟩
    · rw [str_len, rep_one, List.length_replicate]; exact n1
  all_goals exact key x (by subst h; simp)
end My
set_option maxHeartbeats 1000000
namespace My
open PySem L2 PyProof.Rows
def top (i : Nat) : Stmt := PySem.Challenge.pw_askhouse_k15_texts_that_write_no_house.main.body.getD i (.Pass ⟨0, 0, 0, 0⟩)
abbrev s_check_doors : Stmt := top 9
abbrev s_check_house : Stmt := top 10
abbrev s_House_init : Stmt := inClass (top 11) 0
abbrev s_House_rooms : Stmt := inClass (top 11) 1
abbrev s_written_numbers : Stmt := top 14
abbrev s_number_of : Stmt := top 15
abbrev s_lamp_of : Stmt := top 16
abbrev s_doors_of : Stmt := top 17
abbrev s_read : Stmt := top 18
abbrev s_l_cell_at : Stmt := top 20
abbrev s_l_draw : Stmt := top 21
abbrev s_l_ways_by : Stmt := top 22
abbrev s_l_lamps_by : Stmt := top 23
abbrev s_l_whole : Stmt := top 24
abbrev s_l_numbers : Stmt := top 25
abbrev s_l_truths : Stmt := top 26
abbrev s_l_house_is : Stmt := top 27
abbrev s_l_stands_under : Stmt := top 28
abbrev s_l_refused : Stmt := top 29
abbrev s_l_odd_number : Stmt := top 30
abbrev s_l_text_of : Stmt := top 31
abbrev s_law : Stmt := top 32
local macro_rules | `(tactic| walk_at "sx") => `(tactic| first
  | with_reducible refine r_seq ?_ | with_reducible refine r_asg ?_ | with_reducible refine r_gname ?_ | with_reducible refine r_gsub ?_ | with_reducible refine r_drop ?_ | with_reducible refine r_ret ?_ | with_reducible refine r_ifs ?_
  | ((with_reducible refine r_var (v := ?v) ?e ?_); (case e => exact rfl))
  | with_reducible refine r_C ?_ | with_reducible refine r_op ?_ | with_reducible refine r_un ?_ | with_reducible refine r_test ?_ | with_reducible refine r_tB ?_ | with_reducible refine r_bl ?_
  | with_reducible refine r_and ?_ | with_reducible refine r_or ?_ | with_reducible refine r_not ?_ | with_reducible refine r_andV ?_ | with_reducible refine r_orV ?_ | with_reducible refine r_notV ?_ | with_reducible refine r_chain ?_
  | with_reducible refine r_call ?_ | with_reducible refine r_cb ?_ | with_reducible refine r_cons ?_ | with_reducible refine r_nil ?_ | with_reducible refine r_next ?_ | with_reducible refine r_lst ?_ | with_reducible refine r_tup ?_
  | with_reducible refine r_for ?_ | with_reducible refine r_rng1 ?_ | with_reducible refine r_rng2 ?_ | with_reducible refine r_ilist ?_ | with_reducible refine r_ienum ?_ | with_reducible refine r_izip ?_ | with_reducible refine r_listzip ?_ | with_reducible refine r_ikeysT ?_ | with_reducible refine r_comp ?_ | with_reducible refine r_bm ?_ | with_reducible refine r_meth ?_ | with_reducible refine r_make ?_ | with_reducible refine r_sfld ?_
  | with_reducible refine r_I0 ?_ | with_reducible refine r_U ?_
  | ((with_reducible refine r_I ?c ?_); (case c => first | (show (0 : Int) < _; first | assumption | decide | omega) | exact ⟨by decide, by decide⟩ | exact Or.inl ⟨by decide, by decide⟩ | exact Or.inr ⟨by decide, by decide⟩))
  | with_reducible refine r_raise ?_ | with_reducible refine r_joined ?_ | with_reducible refine r_jstr ?_ | with_reducible refine r_jnil ?_ | with_reducible refine r_jint ?_ | with_reducible refine r_try ?_
  | with_reducible refine r_bm0 ?_ | with_reducible refine r_dget ?_ | with_reducible refine r_din ?_ | with_reducible refine r_dnotin ?_ | with_reducible refine r_dput ?_ | with_reducible refine r_dnew ?_ | with_reducible refine r_sl ?_ | with_reducible refine r_nopart ?_ | with_reducible refine r_part ?_
  | with_reducible refine r_dispT ?_ | with_reducible refine r_jbl ?_ | with_reducible refine r_compI ?_ | with_reducible refine r_ifE ?_ | with_reducible refine r_tryN ?_ | with_reducible refine r_iitemsK ?_ | with_reducible refine r_tryA ?_ | with_reducible refine r_thaw ?_ | with_reducible refine r_iitems ?_ | with_reducible refine r_dget1 ?_ | with_reducible refine r_dnewT ?_
  | with_reducible refine r_slN ?_ | with_reducible refine r_dnewG ?_ | with_reducible refine r_gin ?_ | with_reducible refine r_gnotin ?_ | with_reducible refine r_gget ?_ | with_reducible refine r_gput ?_ | with_reducible refine r_sfldaug ?_
  | with_reducible refine r_snx ?_ | with_reducible refine r_srt ?_
  | with_reducible refine r_nx ?_ | with_reducible refine r_rt ?_)

theorem len_0 {α : Type} {us : List α} (h : us.length = 0) : us = [] := List.eq_nil_of_length_eq_zero h
theorem len_1 {α : Type} {us : List α} (h : us.length = 1) : ∃ a0, us = [a0] := List.length_eq_one_iff.mp h
theorem len_2 {α : Type} {us : List α} (h : us.length = 2) : ∃ a0 a1, us = [a0, a1] := by
  cases us with
  | nil => simp at h
  | cons a0 r =>
    obtain ⟨a1, e⟩ := len_1 (us := r) (by simpa using h)
    exact ⟨a0, a1, by rw [e]⟩
theorem len_3 {α : Type} {us : List α} (h : us.length = 3) : ∃ a0 a1 a2, us = [a0, a1, a2] := by
  cases us with
  | nil => simp at h
  | cons a0 r =>
    obtain ⟨a1, a2, e⟩ := len_2 (us := r) (by simpa using h)
    exact ⟨a0, a1, a2, by rw [e]⟩
theorem len_4 {α : Type} {us : List α} (h : us.length = 4) : ∃ a0 a1 a2 a3, us = [a0, a1, a2, a3] := by
  cases us with
  | nil => simp at h
  | cons a0 r =>
    obtain ⟨a1, a2, a3, e⟩ := len_3 (us := r) (by simpa using h)
    exact ⟨a0, a1, a2, a3, by rw [e]⟩
theorem ki_ib (K : PySem.W.Frag) : PySem.W.kitOne K (.type "int") (.type "bool") = some false := by
  first
  | rfl
  | (show (if (Value.type "int" == Value.type "bool") = true then some true else if PySem.W.kitMeta "bool" = true then PySem.W.subIn K (.type "int") (.type "bool") else Option.none) = some false
     rw [if_neg (by decide +kernel), if_pos (by decide +kernel)]
     first | rfl | decide +kernel | (unfold PySem.W.subIn; rfl))
/-! ### data in the heap -/
structure Mat (H : Hp) (a : Addr) (rs : List Addr) (rss : List (List Int)) : Prop where
  top : H a = some (.lst (rs.map V.ref))
  len : rs.length = rss.length
  row : ∀ (i : Nat) (r : Addr) (row : List Int), rs[i]? = some r → rss[i]? = some row → H r = some (.lst (row.map V.int))
  nd : (a :: rs).Nodup
theorem Mat.same {H H' : Hp} {a : Addr} {rs : List Addr} {rss : List (List Int)} (e : Same H H') (m : Mat H a rs rss) : Mat H' a rs rss :=
  ⟨e _ _ m.top, m.len, fun i r row h1 h2 => e _ _ (m.row i r row h1 h2), m.nd⟩
theorem Mat.get {H : Hp} {a : Addr} {rs : List Addr} {rss : List (List Int)} (m : Mat H a rs rss) {i : Nat} {row : List Int} (h : rss[i]? = some row) :
    ∃ r, rs[i]? = some r ∧ (rs.map V.ref)[i]? = some (.ref r) ∧ H r = some (.lst (row.map V.int)) := by
  obtain ⟨hi, _⟩ := List.getElem?_eq_some_iff.mp h
  have hr : i < rs.length := by rw [m.len]; exact hi
  refine ⟨rs[i], List.getElem?_eq_getElem hr, ?_, m.row i _ row (List.getElem?_eq_getElem hr) h⟩
  rw [List.getElem?_map, List.getElem?_eq_getElem hr]; rfl
theorem Mat.upd {H : Hp} {a : Addr} {rs : List Addr} {rss : List (List Int)} (m : Mat H a rs rss) {b : Addr} {o : HO} (hb : b ∉ a :: rs) : Mat (upd H b o) a rs rss := by
  refine ⟨?_, m.len, fun i r row h1 h2 => ?_, m.nd⟩
  · rw [upd_ne (fun z => hb (by rw [← z]; exact List.mem_cons_self))]; exact m.top
  · rw [upd_ne (fun z => hb (by rw [← z]; exact List.mem_cons_of_mem _ (List.mem_of_getElem? h1)))]; exact m.row i r row h1 h2
theorem Mat.mem {H : Hp} {a : Addr} {rs : List Addr} {rss : List (List Int)} (m : Mat H a rs rss) {b : Addr} (hb : b ∈ a :: rs) : ∃ o, H b = some o := by
  rcases List.mem_cons.mp hb with rfl | hb
  · exact ⟨_, m.top⟩
  · obtain ⟨i, hi⟩ := List.getElem?_of_mem hb
    obtain ⟨h1, _⟩ := List.getElem?_eq_some_iff.mp hi
    have h2 : i < rss.length := by rw [← m.len]; exact h1
    exact ⟨_, m.row i b rss[i] hi (List.getElem?_eq_getElem h2)⟩
theorem int_map_get {ns : List Int} {i : Nat} {x : Int} (h : ns[i]? = some x) : (ns.map V.int)[i]? = some (.int x) := by rw [List.getElem?_map, h]; rfl
theorem int_map_inv {ns : List Int} {i : Nat} {x : V} (h : (ns.map V.int)[i]? = some x) : ∃ n, x = .int n ∧ ns[i]? = some n := by
  rw [List.getElem?_map] at h
  cases e : ns[i]? with
  | none => rw [e] at h; cases h
  | some n => rw [e] at h; cases h; exact ⟨n, rfl, rfl⟩
theorem bl_map_get {ns : List Bool} {i : Nat} {x : Bool} (h : ns[i]? = some x) : (ns.map V.bl)[i]? = some (.bl x) := by rw [List.getElem?_map, h]; rfl
theorem bl_map_inv {ns : List Bool} {i : Nat} {x : V} (h : (ns.map V.bl)[i]? = some x) : ∃ n, x = .bl n ∧ ns[i]? = some n := by
  rw [List.getElem?_map] at h
  cases e : ns[i]? with
  | none => rw [e] at h; cases h
  | some n => rw [e] at h; cases h; exact ⟨n, rfl, rfl⟩
theorem ref_map_inv {ns : List Addr} {i : Nat} {x : V} (h : (ns.map V.ref)[i]? = some x) : ∃ n, x = .ref n ∧ ns[i]? = some n := by
  rw [List.getElem?_map] at h
  cases e : ns[i]? with
  | none => rw [e] at h; cases h
  | some n => rw [e] at h; cases h; exact ⟨n, rfl, rfl⟩
/-- the fields of a house -/
def hfs (d : Int) (aw al : Addr) : List (Str × V) := putF "lamps" (.ref al) (putF "ways" (.ref aw) (putF "doors" (.int d) []))
theorem s_lw : ¬ (("lamps" : Str) = "ways") := by decide +kernel
theorem s_ld : ¬ (("lamps" : Str) = "doors") := by decide +kernel
theorem s_wd : ¬ (("ways" : Str) = "doors") := by decide +kernel
theorem hfs_doors (d : Int) (aw al : Addr) : (hfs d aw al).lookup ("doors" : Str) = some (.int d) := by
  unfold hfs; rw [lookup_putF, if_neg (fun z => s_ld z.symm), lookup_putF, if_neg (fun z => s_wd z.symm), lookup_putF, if_pos rfl]
theorem hfs_ways (d : Int) (aw al : Addr) : (hfs d aw al).lookup ("ways" : Str) = some (.ref aw) := by
  unfold hfs; rw [lookup_putF, if_neg (fun z => s_lw z.symm), lookup_putF, if_pos rfl]
theorem hfs_lamps (d : Int) (aw al : Addr) : (hfs d aw al).lookup ("lamps" : Str) = some (.ref al) := by
  unfold hfs; rw [lookup_putF, if_pos rfl]
structure HouseAt (C : Addr) (H : Hp) (p : Addr) (d : Int) (aw : Addr) (rs : List Addr) (rss : List (List Int)) (al : Addr) (ls : List Bool) : Prop where
  ob : ∃ dx, H p = some (.ins C dx (hfs d aw al))
  ways : Mat H aw rs rss
  lamps : H al = some (.lst (ls.map V.bl))
/-- between two turns: the rows so far -/
structure Grown (H H' : Hp) (l : Addr) (rs : List Addr) (f : Nat → List Int) : Prop where
  top : H' l = some (.lst (rs.map V.ref))
  row : ∀ (j : Nat) (b : Addr), rs[j]? = some b → H' b = some (.lst ((f j).map V.int))
  nd : (l :: rs).Nodup
  new : ∀ b ∈ l :: rs, H b = none
  same : Same H H'
theorem Grown.start {H : Hp} {l : Addr} {f : Nat → List Int} (hl : H l = none) : Grown H (upd H l (.lst [])) l [] f :=
  ⟨upd_same, fun j b h => by simp at h, by simp, fun b hb => by rw [List.mem_singleton.mp hb]; exact hl, Same.upd_new hl⟩
theorem Grown.fresh {H H' : Hp} {l : Addr} {rs : List Addr} {f : Nat → List Int} (G : Grown H H' l rs f) {p : Addr} (hp : H' p = none) : p ∉ l :: rs := fun hm => by
  rcases List.mem_cons.mp hm with rfl | hm
  · rw [G.top] at hp; cases hp
  · obtain ⟨j, hj⟩ := List.getElem?_of_mem hm
    rw [G.row j p hj] at hp; cases hp
theorem Grown.snoc {H H' : Hp} {l p : Addr} {rs : List Addr} {f : Nat → List Int} (G : Grown H H' l rs f) (hp : H' p = none) :
    Grown H (upd (upd H' p (.lst ((f rs.length).map V.int))) l (.lst (rs.map V.ref ++ [.ref p]))) l (rs ++ [p]) f := by
  have np := G.fresh hp
  have hpl : p ≠ l := fun z => np (by rw [z]; exact List.mem_cons_self)
  have nl : l ∉ rs := (List.nodup_cons.mp G.nd).1
  refine ⟨?_, fun j b hj => ?_, ?_, fun b hb => ?_, fun b o e => ?_⟩
  · rw [upd_same, List.map_append]; rfl
  · have hbl : b ≠ l := fun z => by
      have hm := List.mem_of_getElem? hj
      rcases List.mem_append.mp hm with hm | hm
      · exact nl (z ▸ hm)
      · exact hpl ((List.mem_singleton.mp hm).symm.trans z)
    rw [upd_ne hbl]
    by_cases hlt : j < rs.length
    · rw [List.getElem?_append_left hlt] at hj
      have hbp : b ≠ p := fun z => np (List.mem_cons_of_mem _ (z ▸ List.mem_of_getElem? hj))
      rw [upd_ne hbp]; exact G.row j b hj
    · obtain ⟨hj1, _⟩ := List.getElem?_eq_some_iff.mp hj
      have hj2 : j = rs.length := by rw [List.length_append, List.length_singleton] at hj1; omega
      subst hj2
      rw [List.getElem?_append_right (Nat.le_refl _), Nat.sub_self] at hj
      cases hj
      rw [upd_same]
  · have : (l :: (rs ++ [p])).Nodup := by
      rw [← List.cons_append]
      exact nd_snoc G.nd np
    exact this
  · have hb : b ∈ (l :: rs) ++ [p] := hb
    rcases List.mem_append.mp hb with hb | hb
    · exact G.new b hb
    · rw [List.mem_singleton.mp hb]; exact G.same.free hp
  · have hbl : b ≠ l := ne_of_none e (G.new l List.mem_cons_self)
    have e' := G.same b o e
    rw [upd_ne hbl, upd_ne (ne_of_none e' hp)]
    exact e'
theorem Grown.mat {H H' : Hp} {l : Addr} {rs : List Addr} {f : Nat → List Int} (G : Grown H H' l rs f) : Mat H' l rs ((List.range rs.length).map f) :=
  ⟨G.top, by simp, fun i r row h1 h2 => by
    rw [List.getElem?_map] at h2
    obtain ⟨hi, _⟩ := List.getElem?_eq_some_iff.mp h1
    rw [List.getElem?_range hi] at h2
    cases h2
    exact G.row i r h1, G.nd⟩
theorem Grown.step {H H' H'' : Hp} {l p : Addr} {rs : List Addr} {f : Nat → List Int} (G : Grown H H' l rs f) (hp : H' p = none) (top : H'' l = some (.lst ((rs ++ [p]).map V.ref))) (row : H'' p = some (.lst ((f rs.length).map V.int)))
    (keep : ∀ b o, b ≠ l → (b ∈ rs ∨ H b ≠ none) → H' b = some o → H'' b = some o) : Grown H H'' l (rs ++ [p]) f := by
  have np := G.fresh hp
  have hpl : p ≠ l := fun z => np (by rw [z]; exact List.mem_cons_self)
  have nl : l ∉ rs := (List.nodup_cons.mp G.nd).1
  refine ⟨top, fun j b hj => ?_, ?_, fun b hb => ?_, fun b o e => ?_⟩
  · by_cases hlt : j < rs.length
    · rw [List.getElem?_append_left hlt] at hj
      have hm := List.mem_of_getElem? hj
      exact keep b _ (fun z => nl (z ▸ hm)) (.inl hm) (G.row j b hj)
    · obtain ⟨hj1, _⟩ := List.getElem?_eq_some_iff.mp hj
      have hj2 : j = rs.length := by rw [List.length_append, List.length_singleton] at hj1; omega
      subst hj2
      rw [List.getElem?_append_right (Nat.le_refl _), Nat.sub_self] at hj
      cases hj
      exact row
  · have : (l :: (rs ++ [p])).Nodup := by
      rw [← List.cons_append]
      exact nd_snoc G.nd np
    exact this
  · have hb : b ∈ (l :: rs) ++ [p] := hb
    rcases List.mem_append.mp hb with hb | hb
    · exact G.new b hb
    · rw [List.mem_singleton.mp hb]; exact G.same.free hp
  · have hbl : b ≠ l := ne_of_none e (G.new l List.mem_cons_self)
    exact keep b o hbl (.inr (by rw [e]; intro z; cases z)) (G.same b o e)
theorem Grown.matOf {H H' : Hp} {l : Addr} {rs : List Addr} {rss : List (List Int)} (G : Grown H H' l rs (fun j => rss.getD j [])) (hlen : rs.length = rss.length) : Mat H' l rs rss := by
  have := G.mat
  rw [hlen] at this
  have e : (List.range rss.length).map (fun j => rss.getD j []) = rss := by
    apply List.ext_getElem
    · simp
    · intro i h1 h2
      simp [List.getD_eq_getElem?_getD, List.getElem?_eq_getElem h2]
  rw [e] at this
  exact this
/-- [list(row) for row in ways] -/
theorem comp_copy {K : PySem.W.Frag} {H : Hp} {a : Addr} {rs : List Addr} {rss : List (List Int)} {σ : L2.St} {Q : VK} (M : Mat H a rs rss) (h900 : rss.length ≤ 900)
    (q : ∀ aw rs' H', Same H H' → Mat H' aw rs' rss → (∀ b ∈ aw :: rs', H b = none) → Q (.ref aw) H') :
    CompR [none] (gName 0) (tCB (fun xs H Q => ∃ p ys, xs = [.ref p] ∧ (SqL K H p ys ∨ SqT K H p ys) ∧ ∀ l, H l = none → Q (.ref l) (upd H l (.lst ys))) (tCons (tVar 0) tNil)) σ Q (Itl K a) H := by
  refine comp_list (xs := rs.map V.ref) (fun aw i ys H' => ∃ rs', ys = rs'.map V.ref ∧ rs'.length = i ∧ Grown H H' aw rs' (fun j => rss.getD j [])) (fun aw haw => ⟨[], rfl, rfl, Grown.start haw⟩) (fun aw i ys H' haw _ p => by obtain ⟨rs', _, _, G⟩ := p; exact SqL.of (G.same _ _ M.top)) (fun aw i x ys H' haw hx p => ?_) (fun aw ys H' haw p => ?_)
  · obtain ⟨rs', rfl, hlen, G⟩ := p
    obtain ⟨r, rfl, hr'⟩ := ref_map_inv hx
    obtain ⟨hi, _⟩ := List.getElem?_eq_some_iff.mp hr'
    have hi' : i < rss.length := by rw [← M.len]; exact hi
    have hrow := M.row i r rss[i] hr' (List.getElem?_eq_getElem hi')
    have egd : rss.getD rs'.length [] = rss[i] := by rw [hlen, List.getD_eq_getElem?_getD, List.getElem?_eq_getElem hi', Option.getD_some]
    repeat walk_at "sx"
    refine ⟨Wk.set rfl, ?_⟩
    repeat walk_at "sx"
    refine ⟨r, _, rfl, .inl (SqL.of (G.same _ _ hrow)), fun l0 hl0 => ?_⟩
    have hla : aw ≠ l0 := fun z => G.fresh hl0 (by rw [z]; exact List.mem_cons_self)
    refine ⟨by rw [upd_ne hla]; exact G.top, small1000 (by simp; omega), rs' ++ [l0], by simp, by simp [hlen], ?_⟩
    have := G.snoc hl0
    rw [egd] at this
    exact this
  · obtain ⟨rs', rfl, hlen, G⟩ := p
    have hlen' : rs'.length = rss.length := by rw [hlen, List.length_map, M.len]
    refine q aw rs' H' G.same ?_ G.new
    have := G.mat
    rw [hlen'] at this
    have e : (List.range rss.length).map (fun j => rss.getD j []) = rss := by
      apply List.ext_getElem
      · simp
      · intro i h1 h2
        simp [List.getD_eq_getElem?_getD, List.getElem?_eq_getElem h2]
    rw [e] at this
    exact this

theorem dts_bl (K : PySem.W.Frag) (H : Hp) : ∀ ns : List Bool, Dts K H (ns.map V.bl) (ns.map PyData.bool)
  | [] => .nil
  | b :: r => .cons (.bl b) (dts_bl K H r)
theorem lay_bl : ∀ ns : List Bool, PyData.canLayAll0 (ns.map PyData.bool) = true
  | [] => rfl
  | _ :: r => by simp [PyData.canLayAll0, PyData.canLay0, lay_bl r]
theorem depth_bl : ∀ ns : List Bool, PyData.depthAll (ns.map PyData.bool) = 0
  | [] => rfl
  | _ :: r => by simp [PyData.depthAll, PyData.depth, depth_bl r]
theorem shaped_bl (ns : List Bool) : SeqAt.shaped (.list (ns.map PyData.bool)) = true := by
  simp [SeqAt.shaped, PyData.canLay0, PyData.depth, lay_bl, depth_bl]
theorem eqv_bl : ∀ ns : List Bool, PyData.eqvAll (ns.map PyData.bool) (ns.map PyData.bool) = true
  | [] => by simp [PyData.eqvAll]
  | b :: r => by simp [PyData.eqvAll, PyData.eqv, eqv_bl r]
theorem take_snocA {α : Type} {w : List α} {i : Nat} {x : α} (h : w[i]? = some x) : w.take (i + 1) = w.take i ++ [x] := by
  rw [List.take_add_one, h]; rfl
set_option genInjectivity false in
set_option genSizeOf false in
structure Adr where
  C_House : Addr
  C_HouseError : Addr
  C_BadHouse : Addr
  C_BadWord : Addr
  C_BadText : Addr
  f_check_doors : Addr
  fd_check_doors : FuncData
  f_check_house : Addr
  fd_check_house : FuncData
  f_House_init : Addr
  fd_House_init : FuncData
  f_House_rooms : Addr
  fd_House_rooms : FuncData
  f_written_numbers : Addr
  fd_written_numbers : FuncData
  f_number_of : Addr
  fd_number_of : FuncData
  f_lamp_of : Addr
  fd_lamp_of : FuncData
  f_doors_of : Addr
  fd_doors_of : FuncData
  f_read : Addr
  fd_read : FuncData
  f_l_cell_at : Addr
  fd_l_cell_at : FuncData
  f_l_draw : Addr
  fd_l_draw : FuncData
  f_l_ways_by : Addr
  fd_l_ways_by : FuncData
  f_l_lamps_by : Addr
  fd_l_lamps_by : FuncData
  f_l_whole : Addr
  fd_l_whole : FuncData
  f_l_numbers : Addr
  fd_l_numbers : FuncData
  f_l_truths : Addr
  fd_l_truths : FuncData
  f_l_house_is : Addr
  fd_l_house_is : FuncData
  f_l_stands_under : Addr
  fd_l_stands_under : FuncData
  f_l_refused : Addr
  fd_l_refused : FuncData
  f_l_odd_number : Addr
  fd_l_odd_number : FuncData
  f_l_text_of : Addr
  fd_l_text_of : FuncData
  f_law : Addr
  fd_law : FuncData
structure Txt (K : PySem.W.Frag) (mg : Str → Option Value) (t : Adr) : Prop where
  m_len : mg "len" = none
  m_range : mg "range" = none
  m_isinstance : mg "isinstance" = none
  m_list : mg "list" = none
  m_int : mg "int" = none
  m_bool : mg "bool" = none
  m_enumerate : mg "enumerate" = none
  m_str : mg "str" = none
  m_ValueError : mg "ValueError" = none
  mg_MOST_DOORS : ∃ tk, mg "MOST_DOORS" = some (.int 6 tk)
  mg_MOST_ROOMS : ∃ tk, mg "MOST_ROOMS" = some (.int 400 tk)
  mg_HEADING : ∃ tk, mg "HEADING" = some (.str "doors " tk)
  mg_House : mg "House" = some (.ref t.C_House)
  cl_House : Cls K t.C_House
  tc_House : PySem.W.findIn K (.ref t.C_House) "__class__" = some (some (.builtin "object.__class__"))
  tm_House : PySem.W.mroIn K t.C_House (.type "object") = some true
  na_House_doors : NoAttr K t.C_House "doors"
  na_House_ways : NoAttr K t.C_House "ways"
  na_House_lamps : NoAttr K t.C_House "lamps"
  mg_HouseError : mg "HouseError" = some (.ref t.C_HouseError)
  ex_HouseError : ExcK K "HouseError" t.C_HouseError
  cl_HouseError : PySem.W.isClsIn K t.C_HouseError = true
  ty_HouseError : PySem.W.typeIn K (.ref t.C_HouseError) = some (.type "type")
  mv_HouseError : PySem.W.mroIn K t.C_HouseError (.type "ValueError") = some true
  ms_HouseError : PySem.W.mroIn K t.C_HouseError (.ref t.C_HouseError) = some true
  mg_BadHouse : mg "BadHouse" = some (.ref t.C_BadHouse)
  ex_BadHouse : ExcK K "BadHouse" t.C_BadHouse
  cl_BadHouse : PySem.W.isClsIn K t.C_BadHouse = true
  ty_BadHouse : PySem.W.typeIn K (.ref t.C_BadHouse) = some (.type "type")
  mv_BadHouse : PySem.W.mroIn K t.C_BadHouse (.type "ValueError") = some true
  ms_BadHouse : PySem.W.mroIn K t.C_BadHouse (.ref t.C_BadHouse) = some true
  mg_BadWord : mg "BadWord" = some (.ref t.C_BadWord)
  ex_BadWord : ExcK K "BadWord" t.C_BadWord
  cl_BadWord : PySem.W.isClsIn K t.C_BadWord = true
  ty_BadWord : PySem.W.typeIn K (.ref t.C_BadWord) = some (.type "type")
  mv_BadWord : PySem.W.mroIn K t.C_BadWord (.type "ValueError") = some true
  ms_BadWord : PySem.W.mroIn K t.C_BadWord (.ref t.C_BadWord) = some true
  mg_BadText : mg "BadText" = some (.ref t.C_BadText)
  ex_BadText : ExcK K "BadText" t.C_BadText
  cl_BadText : PySem.W.isClsIn K t.C_BadText = true
  ty_BadText : PySem.W.typeIn K (.ref t.C_BadText) = some (.type "type")
  mv_BadText : PySem.W.mroIn K t.C_BadText (.type "ValueError") = some true
  ms_BadText : PySem.W.mroIn K t.C_BadText (.ref t.C_BadText) = some true
  mr_BadText_HouseError : PySem.W.mroIn K t.C_BadText (.ref t.C_HouseError) = some true
  mr_HouseError_BadText : PySem.W.mroIn K t.C_HouseError (.ref t.C_BadText) = some false
  mr_BadText_BadHouse : PySem.W.mroIn K t.C_BadText (.ref t.C_BadHouse) = some false
  mr_BadText_BadWord : PySem.W.mroIn K t.C_BadText (.ref t.C_BadWord) = some false
  tg : PySem.W.specialIn K (.builtin "object.__class__") "__get__" = some (some (.builtin "getset_descriptor.__get__"))
  tt : PySem.W.takesIn K (.builtin "object.__class__") = some true
  mg_check_doors : mg "check_doors" = some (.ref t.f_check_doors)
  F_check_doors : Fun K "check_doors" "check_doors" s_check_doors t.f_check_doors t.fd_check_doors
  mg_check_house : mg "check_house" = some (.ref t.f_check_house)
  F_check_house : Fun K "check_house" "check_house" s_check_house t.f_check_house t.fd_check_house
  F_House_init : Fun K "__init__" "House.__init__" s_House_init t.f_House_init t.fd_House_init
  mk_House : Mk K t.C_House t.f_House_init
  F_House_rooms : Fun K "rooms" "House.rooms" s_House_rooms t.f_House_rooms t.fd_House_rooms
  me_House_rooms : Meth K t.C_House "rooms" t.f_House_rooms
  mg_written_numbers : mg "written_numbers" = some (.ref t.f_written_numbers)
  F_written_numbers : Fun K "written_numbers" "written_numbers" s_written_numbers t.f_written_numbers t.fd_written_numbers
  mg_number_of : mg "number_of" = some (.ref t.f_number_of)
  F_number_of : Fun K "number_of" "number_of" s_number_of t.f_number_of t.fd_number_of
  mg_lamp_of : mg "lamp_of" = some (.ref t.f_lamp_of)
  F_lamp_of : Fun K "lamp_of" "lamp_of" s_lamp_of t.f_lamp_of t.fd_lamp_of
  mg_doors_of : mg "doors_of" = some (.ref t.f_doors_of)
  F_doors_of : Fun K "doors_of" "doors_of" s_doors_of t.f_doors_of t.fd_doors_of
  mg_read : mg "read" = some (.ref t.f_read)
  F_read : Fun K "read" "read" s_read t.f_read t.fd_read
  mg_l_cell_at : mg "_law_cell_at" = some (.ref t.f_l_cell_at)
  F_l_cell_at : Fun K "_law_cell_at" "_law_cell_at" s_l_cell_at t.f_l_cell_at t.fd_l_cell_at
  mg_l_draw : mg "_law_draw" = some (.ref t.f_l_draw)
  F_l_draw : Fun K "_law_draw" "_law_draw" s_l_draw t.f_l_draw t.fd_l_draw
  mg_l_ways_by : mg "_law_ways_by" = some (.ref t.f_l_ways_by)
  F_l_ways_by : Fun K "_law_ways_by" "_law_ways_by" s_l_ways_by t.f_l_ways_by t.fd_l_ways_by
  mg_l_lamps_by : mg "_law_lamps_by" = some (.ref t.f_l_lamps_by)
  F_l_lamps_by : Fun K "_law_lamps_by" "_law_lamps_by" s_l_lamps_by t.f_l_lamps_by t.fd_l_lamps_by
  mg_l_whole : mg "_law_whole" = some (.ref t.f_l_whole)
  F_l_whole : Fun K "_law_whole" "_law_whole" s_l_whole t.f_l_whole t.fd_l_whole
  mg_l_numbers : mg "_law_numbers" = some (.ref t.f_l_numbers)
  F_l_numbers : Fun K "_law_numbers" "_law_numbers" s_l_numbers t.f_l_numbers t.fd_l_numbers
  mg_l_truths : mg "_law_truths" = some (.ref t.f_l_truths)
  F_l_truths : Fun K "_law_truths" "_law_truths" s_l_truths t.f_l_truths t.fd_l_truths
  mg_l_house_is : mg "_law_house_is" = some (.ref t.f_l_house_is)
  F_l_house_is : Fun K "_law_house_is" "_law_house_is" s_l_house_is t.f_l_house_is t.fd_l_house_is
  mg_l_stands_under : mg "_law_stands_under" = some (.ref t.f_l_stands_under)
  F_l_stands_under : Fun K "_law_stands_under" "_law_stands_under" s_l_stands_under t.f_l_stands_under t.fd_l_stands_under
  mg_l_refused : mg "_law_refused" = some (.ref t.f_l_refused)
  F_l_refused : Fun K "_law_refused" "_law_refused" s_l_refused t.f_l_refused t.fd_l_refused
  mg_l_odd_number : mg "_law_odd_number" = some (.ref t.f_l_odd_number)
  F_l_odd_number : Fun K "_law_odd_number" "_law_odd_number" s_l_odd_number t.f_l_odd_number t.fd_l_odd_number
  mg_l_text_of : mg "_law_text_of" = some (.ref t.f_l_text_of)
  F_l_text_of : Fun K "_law_text_of" "_law_text_of" s_l_text_of t.f_l_text_of t.fd_l_text_of
  mg_law : mg "law" = some (.ref t.f_law)
  F_law : Fun K "law" "law" s_law t.f_law t.fd_law
section
variable {P : Program} {w : World} {K : PySem.W.Frag} {mg : Str → Option Value} {base : Heap} {t : Adr}
/-! #### check_doors -/
theorem sc_check_doors : FnScope ["doors"] ["doors"] (defScope s_check_doors) := ⟨rfl, rfl, rfl, by decide +kernel, rfl, by decide +kernel, by decide +kernel⟩
theorem b_check_doors (T : Txt K mg t) : Binds K t.fd_check_doors ["doors"] [] := T.F_check_doors.binds fun _ _ _ _ _ _ us hl => by obtain ⟨_, rfl⟩ := len_1 hl; rfl
def sp_check_doors (C : Addr) : Sp := fun vs H Q E => ∃ d : Int, vs = [.int d] ∧ -1000000 ≤ d ∧ d ≤ 1000000 ∧ ((1 ≤ d ∧ d ≤ 6) → Q .non H) ∧ (¬ (1 ≤ d ∧ d ≤ 6) → E (.ref C) none H)
theorem ok_check_doors (T : Txt K mg t) : FnOk P w K mg base (CXn P w) 1 t.f_check_doors t.fd_check_doors ["doors"] (sp_check_doors t.C_BadHouse) := by
  refine T.F_check_doors.okN sc_check_doors (fun vs H Q E h => ?_) (fun cdv A outer s H vs Q E hr h => ?_)
  · obtain ⟨d, rfl, _⟩ := h
    rfl
  · obtain ⟨d, rfl, s0, s1, q1, q2⟩ := h
    refine ⟨_, pss_one (ps_if (pt_not (pt_chain op_le op_le (pe_int) (pv 0) (pe_glob (v := .int 6) rfl T.mg_MOST_DOORS.choose_spec ⟨_, rfl⟩)))
 (pss_one (ps_raise xm_defN rfl rfl T.mg_BadHouse T.ex_BadHouse.toExcCls (pa_cons (pe_joined (pj_str (pj_int (pv 0) (pj_nil)))) (pa_nil))))
 (pss_nil)), ?_⟩
    repeat walk_at "sx"
    refine r_ite (fun hd1 => ?_) (fun hd1 => ?_)
    rotate_left
    · repeat walk_at "sx"
      refine r_iteP rfl ?_
      repeat walk_at "sx"
      refine ⟨d, rfl, small_log s0 s1, ?_⟩
      repeat walk_at "sx"
      exact fun x => ⟨show 1 ≤ sizeLine by decide, q2 fun z => by have := z.1; simp at hd1; omega⟩
    have hd1 := of_decide_eq_true hd1
    repeat walk_at "sx"
    refine r_ite (fun hd6 => ?_) (fun hd6 => ?_)
    · repeat walk_at "sx"
      refine ⟨d, rfl, small_log s0 s1, ?_⟩
      repeat walk_at "sx"
      exact fun x => ⟨show 1 ≤ sizeLine by decide, q2 fun z => by have := z.2; simp at hd6; omega⟩
    have hd6 : d ≤ 6 := by simpa using hd6
    repeat walk_at "sx"
    exact q1 ⟨hd1, hd6⟩
/-! #### check_house -/
theorem sc_check_house : FnScope ["doors", "ways", "lamps", "rooms", "room", "row", "way"] ["doors", "ways", "lamps"] (defScope s_check_house) := ⟨rfl, rfl, rfl, by decide +kernel, rfl, by decide +kernel, by decide +kernel⟩
theorem b_check_house (T : Txt K mg t) : Binds K t.fd_check_house ["doors", "ways", "lamps"] [] := T.F_check_house.binds fun _ _ _ _ _ _ us hl => by obtain ⟨_, _, _, rfl⟩ := len_3 hl; rfl
structure Small (d : Int) (rss : List (List Int)) : Prop where
  d0 : -1000000 ≤ d
  d1 : d ≤ 1000000
  x : ∀ row ∈ rss, ∀ x ∈ row, -1000000 ≤ x ∧ x ≤ 1000000
  n : rss.length ≤ 500
def sp_check_house (K : PySem.W.Frag) (C : Addr) : Sp := fun vs H Q E => ∃ (d : Int) (a : Addr) (rs : List Addr) (rss : List (List Int)) (l : Addr) (ls : List Bool), vs = [.int d, .ref a, .ref l] ∧ Mat H a rs rss ∧ SqL K H l (ls.map V.bl) ∧ Small d rss ∧
  ∀ H', Same H H' → (Valid d rss ls → Q .non H') ∧ (¬ Valid d rss ls → E (.ref C) none H')
theorem ok_check_house (T : Txt K mg t) : FnOk P w K mg base (CXn P w) 2 t.f_check_house t.fd_check_house ["doors", "ways", "lamps"] (sp_check_house K t.C_BadHouse) := by
  refine T.F_check_house.okN sc_check_house (fun vs H Q E h => ?_) (fun cdv A outer s H vs Q E hr h => ?_)
  · obtain ⟨d, a, rs, rss, l, ls, rfl, _⟩ := h
    rfl
  · obtain ⟨d, a, rs, rss, l, ls, rfl, M, hL, Sm, q⟩ := h
    have he : ¬ Valid d rss ls → ∀ x : Str, ([V.str x] : List V).length ≤ sizeLine ∧ E (.ref t.C_BadHouse) none H := fun nv x => ⟨show 1 ≤ sizeLine by decide, (q H (Same.refl H)).2 nv⟩
    have hlen : (rs.map V.ref).length = rss.length := by rw [List.length_map, M.len]
    have hlr : ((rss.length : Nat) : Int).natAbs.log2 < 64 := small_log (by omega) (by have := Sm.n; omega)
    refine ⟨_, pss_cons (ps_expr (pe_call (ok_check_doors T) (hr.mono (by decide)) rfl T.mg_check_doors T.F_check_doors.kp (b_check_doors T) .nil xp_defN_pass (pa_cons (pv 0) (pa_nil))))
 (pss_cons (ps_set (i := 3) sc_check_house.nd rfl (Or.inl rfl) (pe_callB (call_len_seqK K) rfl T.m_len PySem.boot_len (pa_cons (pv 1) (pa_nil))))
 (pss_cons (ps_if (pt_not (pt_chain op_le op_le (pe_int) (pv 3) (pe_glob (v := .int 400) rfl T.mg_MOST_ROOMS.choose_spec ⟨_, rfl⟩)))
 (pss_one (ps_raise xm_defN rfl rfl T.mg_BadHouse T.ex_BadHouse.toExcCls (pa_cons (pe_joined (pj_str (pj_int (pv 3) (pj_nil)))) (pa_nil))))
 (pss_nil))
 (pss_cons (ps_if (pt_cmpR op_ne (pe_callB (call_len_seqK K) rfl T.m_len PySem.boot_len (pa_cons (pv 2) (pa_nil))) (pv 3) (nomark _))
 (pss_one (ps_raise xm_defN rfl rfl T.mg_BadHouse T.ex_BadHouse.toExcCls (pa_cons (pe_str) (pa_nil))))
 (pss_nil))
 (pss_one (ps_for xo_defN rfl (pi_enumK K rfl T.m_enumerate (pa_cons (pv 1) (pa_nil))) (pg_tupK K (n := 2) rfl (pgs_cons (pg_name (i := 4) sc_check_house.nd rfl (Or.inl rfl)) (pgs_cons (pg_name (i := 5) sc_check_house.nd rfl (Or.inl rfl)) (pgs_nil))))
 (pss_cons (ps_if (pt_cmpR op_ne (pe_callB (call_len_seqK K) rfl T.m_len PySem.boot_len (pa_cons (pv 5) (pa_nil))) (pv 0) (nomark _))
 (pss_one (ps_raise xm_defN rfl rfl T.mg_BadHouse T.ex_BadHouse.toExcCls (pa_cons (pe_joined (pj_str (pj_int (pv 4) (pj_str (pj_nil))))) (pa_nil))))
 (pss_nil))
 (pss_one (ps_for xo_defN rfl (pi_listK K (pv 5)) (pg_name (i := 6) sc_check_house.nd rfl (Or.inl rfl))
 (pss_one (ps_if (pt_not (pt_chain op_le op_lt (pe_int) (pv 6) (pv 3)))
 (pss_one (ps_raise xm_defN rfl rfl T.mg_BadHouse T.ex_BadHouse.toExcCls (pa_cons (pe_joined (pj_str (pj_int (pv 4) (pj_str (pj_int (pv 6) (pj_str (pj_nil))))))) (pa_nil))))
 (pss_nil))))))))))), ?_⟩
    repeat walk_at "sx"
    refine ⟨d, rfl, Sm.d0, Sm.d1, fun hd => ?_, fun hd => (q H (Same.refl H)).2 fun V => hd ⟨V.d1, V.d6⟩⟩
    obtain ⟨hd1, hd6⟩ := hd
    repeat walk_at "sx"
    refine ⟨a, _, rfl, .inl (SqL.of M.top), ?_⟩
    rw [hlen]
    repeat walk_at "sx"
    refine r_ite (fun hr1 => ?_) (fun hr1 => ?_)
    rotate_left
    · repeat walk_at "sx"
      refine r_iteP rfl ?_
      repeat walk_at "sx"
      refine ⟨_, rfl, hlr, ?_⟩
      repeat walk_at "sx"
      exact he fun V => by have := V.r1; simp at hr1; omega
    have hr1 := of_decide_eq_true hr1
    repeat walk_at "sx"
    refine r_ite (fun hr4 => ?_) (fun hr4 => ?_)
    · repeat walk_at "sx"
      refine ⟨_, rfl, hlr, ?_⟩
      repeat walk_at "sx"
      exact he fun V => by have := V.r400; simp at hr4; omega
    have hr4 : (rss.length : Int) ≤ 400 := by simpa using hr4
    repeat walk_at "sx"
    refine ⟨l, _, rfl, .inl hL, ?_⟩
    repeat walk_at "sx"
    refine r_ne rfl ?_
    repeat walk_at "sx"
    refine r_ite (fun hll => ?_) (fun hll => ?_)
    · repeat walk_at "sx"
      exact he (fun V => by have := V.ll; simp [this] at hll) _
    have hll : ls.length = rss.length := by simp at hll; omega
    repeat walk_at "sx"
    refine ⟨a, rfl, ⟨_, SqL.of M.top⟩, ?_⟩
    refine for_enum (xs := rs.map V.ref) (fun i σ H' => Same H H' ∧ (∀ j, j < i → ∀ row, rss[j]? = some row → (row.length : Int) = d ∧ ∀ x ∈ row, 0 ≤ x ∧ x < rss.length) ∧ ∃ k1 k2 k3, σ = [some (.int d), some (.ref a), some (.ref l), some (.int (rss.length : Int)), k1, k2, k3]) ⟨Same.refl H, fun j hj => absurd hj (Nat.not_lt_zero j), none, none, none, rfl⟩ (fun i σ H' _ p => sqL_same p.1 (SqL.of M.top)) (fun i x σ H' tp hx p ht => ?_) (fun σ H' p => ?_)
    · obtain ⟨hs, done, k1, k2, k3, rfl⟩ := p
      obtain ⟨r, rfl, hr'⟩ := ref_map_inv hx
      obtain ⟨hi, _⟩ := List.getElem?_eq_some_iff.mp hr'
      have hi' : i < rss.length := by rw [← M.len]; exact hi
      have hrow := M.row i r rss[i] hr' (List.getElem?_eq_getElem hi')
      have hs' : Same H (upd H' tp (.tup [.int (i : Int), .ref r])) := hs.trans (Same.upd_new ht)
      have he' : ¬ Valid d rss ls → ∀ x : Str, ([V.str x] : List V).length ≤ sizeLine ∧ E (.ref t.C_BadHouse) none (upd H' tp (.tup [.int (i : Int), .ref r])) := fun nv x => ⟨show 1 ≤ sizeLine by decide, (q _ hs').2 nv⟩
      refine ⟨tp, _, rfl, SqT.of upd_same, rfl, _, _, rfl, ?_⟩
      repeat walk_at "sx"
      refine ⟨_, _, rfl, ?_⟩
      repeat walk_at "sx"
      refine ⟨rfl, ?_⟩
      repeat walk_at "sx"
      refine ⟨r, _, rfl, .inl (SqL.of (hs' _ _ hrow)), ?_⟩
      repeat walk_at "sx"
      refine r_ne rfl ?_
      repeat walk_at "sx"
      refine r_ite (fun hw => ?_) (fun hw1 => ?_)
      · repeat walk_at "sx"
        refine ⟨_, rfl, small_log (by omega) (by omega), ?_⟩
        repeat walk_at "sx"
        exact he' fun V => by have := (V.row rss[i] (List.getElem_mem hi')).1; simp [this] at hw
      have hw1 : (rss[i].length : Int) = d := by simpa using hw1
      repeat walk_at "sx"
      refine ⟨r, rfl, ⟨_, SqL.of (hs' _ _ hrow)⟩, ?_⟩
      refine for_list (xs := rss[i].map V.int) (fun j σ H2 => H2 = upd H' tp (.tup [.int (i : Int), .ref r]) ∧ (∀ m, m < j → ∀ x, rss[i][m]? = some x → 0 ≤ x ∧ x < rss.length) ∧ ∃ k3, σ = [some (.int d), some (.ref a), some (.ref l), some (.int (rss.length : Int)), some (.int (i : Int)), some (.ref r), k3]) ⟨rfl, fun m hm => absurd hm (Nat.not_lt_zero m), _, rfl⟩ (fun j σ H2 _ p => by rw [p.1]; exact SqL.of (hs' _ _ hrow)) (fun j x σ H2 hx p => ?_) (fun σ H2 p => ?_)
      · obtain ⟨rfl, doneR, k3, rfl⟩ := p
        have hx0 := int_map_inv hx
        clear hx
        obtain ⟨x, rfl, hx⟩ := hx0
        obtain ⟨sx0, sx1⟩ := Sm.x _ (List.getElem_mem hi') x (List.mem_of_getElem? hx)
        have nv : (¬ (0 ≤ x ∧ x < rss.length)) → ¬ Valid d rss ls := fun nx V => nx ((V.row rss[i] (List.getElem_mem hi')).2 x (List.mem_of_getElem? hx))
        repeat walk_at "sx"
        refine r_ite (fun x0 => ?_) (fun x0 => ?_)
        rotate_left
        · repeat walk_at "sx"
          refine r_iteP rfl ?_
          repeat walk_at "sx"
          refine ⟨_, rfl, small_log (by omega) (by omega), ?_⟩
          repeat walk_at "sx"
          refine ⟨_, rfl, small_log (by omega) (by omega), ?_⟩
          repeat walk_at "sx"
          exact he' (nv fun z => by have := z.1; simp at x0; omega)
        have x0 := of_decide_eq_true x0
        repeat walk_at "sx"
        refine r_ite (fun x1 => ?_) (fun x1 => ?_)
        · repeat walk_at "sx"
          refine ⟨_, rfl, small_log (by omega) (by omega), ?_⟩
          repeat walk_at "sx"
          refine ⟨_, rfl, small_log (by omega) (by omega), ?_⟩
          repeat walk_at "sx"
          exact he' (nv fun z => by have := z.2; simp at x1; omega)
        have x1 : x < rss.length := by simpa using x1
        repeat walk_at "sx"
        refine ⟨rfl, fun m hm y hy => ?_, _, rfl⟩
        rcases Nat.lt_or_ge m j with hmj | hmj
        · exact doneR m hmj y hy
        · have : m = j := by omega
          subst this
          rw [hx] at hy; cases hy
          exact ⟨x0, x1⟩
      · obtain ⟨rfl, doneR, k3, rfl⟩ := p
        refine ⟨hs', fun j hj row hrw => ?_, _, _, _, rfl⟩
        rcases Nat.lt_or_ge j i with hji | hji
        · exact done j hji row hrw
        · have : j = i := by omega
          subst this
          rw [List.getElem?_eq_getElem hi'] at hrw; cases hrw
          refine ⟨hw1, fun x hx => ?_⟩
          obtain ⟨m, hm⟩ := List.getElem?_of_mem hx
          refine doneR m ?_ x hm
          obtain ⟨hm1, _⟩ := List.getElem?_eq_some_iff.mp hm
          rw [List.length_map]; exact hm1
    · obtain ⟨hs, done, k1, k2, k3, rfl⟩ := p
      refine (q H' hs).1 { row := fun row hrow => ?_, d1 := hd1, d6 := hd6, r1 := by omega, r400 := by omega, ll := hll }
      obtain ⟨j, hj⟩ := List.getElem?_of_mem hrow
      obtain ⟨hj1, _⟩ := List.getElem?_eq_some_iff.mp hj
      exact done j (by rw [hlen]; exact hj1) row hj
/-! #### House_init -/
theorem sc_House_init : FnScope ["self", "doors", "ways", "lamps"] ["self", "doors", "ways", "lamps"] (defScope s_House_init) := ⟨rfl, rfl, rfl, by decide +kernel, rfl, by decide +kernel, by decide +kernel⟩
theorem b_House_init (T : Txt K mg t) : Binds K t.fd_House_init ["self", "doors", "ways", "lamps"] [] := T.F_House_init.binds fun _ _ _ _ _ _ us hl => by obtain ⟨_, _, _, _, rfl⟩ := len_4 hl; rfl
def sp_House_init (K : PySem.W.Frag) (C CB : Addr) : Sp := fun vs H Q E => ∃ (p dx : Addr) (d : Int) (a : Addr) (rs : List Addr) (rss : List (List Int)) (l : Addr) (ls : List Bool), vs = [.ref p, .int d, .ref a, .ref l] ∧ H p = some (.ins C dx []) ∧ Mat H a rs rss ∧ SqL K H l (ls.map V.bl) ∧ Small d rss ∧
  (Valid d rss ls → ∀ (H' : Hp) (aw : Addr) (rs' : List Addr) (al : Addr), HouseAt C H' p d aw rs' rss al ls → (∀ b o, H b = some o → b ≠ p → H' b = some o) → (∀ b ∈ al :: aw :: rs', H b = none) → Q .non H') ∧
  (¬ Valid d rss ls → ∀ H', Same H H' → E (.ref CB) none H')
theorem ok_House_init (T : Txt K mg t) : FnOk P w K mg base (CXn P w) 3 t.f_House_init t.fd_House_init ["self", "doors", "ways", "lamps"] (sp_House_init K t.C_House t.C_BadHouse) := by
  refine T.F_House_init.okN sc_House_init (fun vs H Q E h => ?_) (fun cdv A outer s H vs Q E hr h => ?_)
  · obtain ⟨p, dx, d, a, rs, rss, l, ls, rfl, _⟩ := h
    rfl
  · obtain ⟨p, dx, d, a, rs, rss, l, ls, rfl, hp, M, hL, Sm, q, qe⟩ := h
    refine ⟨_, pss_cons (ps_expr (pe_call (ok_check_house T) (hr.mono (by decide)) rfl T.mg_check_house T.F_check_house.kp (b_check_house T) .nil xp_defN_pass (pa_cons (pv 1) (pa_cons (pv 2) (pa_cons (pv 3) (pa_nil))))))
 (pss_cons (ps_fldK K (pv 0) (pv 1) rfl)
 (pss_cons (ps_fldK K (pv 0) (pe_comp (N := ["self", "doors", "ways", "lamps"]) (sc0 := (defScope s_House_init)) (N' := ["row"]) (caps := [none]) (by exact ⟨rfl, by decide +kernel, by decide +kernel, by decide +kernel, rfl, rfl, by decide +kernel⟩) rfl (pi_listK K (pv 2)) (fun _ _ _ _ _ _ => pg_name (i := 0) (show List.Nodup (["row"] : List Str) from by decide +kernel) rfl (Or.inl rfl)) (fun _ _ _ _ _ _ => pe_callTy (call_list_ofK K) rfl T.m_list boot_list (pa_cons (pv 0) (pa_nil)))) rfl)
 (pss_one (ps_fldK K (pv 0) (pe_callTy (call_list_ofK K) rfl T.m_list boot_list (pa_cons (pv 3) (pa_nil))) rfl)))), ?_⟩
    repeat walk_at "sx"
    refine ⟨d, a, rs, rss, l, ls, rfl, M, hL, Sm, fun H1 hs1 => ⟨fun Vd => ?_, fun nv => qe nv H1 hs1⟩⟩
    repeat walk_at "sx"
    refine ⟨p, _, dx, _, rfl, hs1 _ _ hp, T.cl_House, T.na_House_doors, (by show 0 < 1000; decide), ?_⟩
    repeat walk_at "sx"
    -- the heap with the first field stored
    have hpa : ∀ {b : Addr} {xs : List V}, H b = some (.lst xs) → b ≠ p := fun e => ne_of e hp (by intro z; cases z)
    have k1 : ∀ (b : Addr) (o : HO), H b = some o → b ≠ p → (upd H1 p (.ins t.C_House dx (putF "doors" (.int d) []))) b = some o := fun b o e hb => by rw [upd_ne hb]; exact hs1 b o e
    have n1 : ∀ b, (upd H1 p (.ins t.C_House dx (putF "doors" (.int d) []))) b = none → H b = none := fun b e => by
      by_cases hb : b = p
      · subst hb; rw [upd_same] at e; cases e
      · rw [upd_ne hb] at e; exact hs1.free e
    generalize hH2 : upd H1 p (.ins t.C_House dx (putF "doors" (.int d) [])) = H2 at k1 n1 ⊢
    have hp2 : H2 p = some (.ins t.C_House dx (putF "doors" (.int d) [])) := by rw [← hH2]; exact upd_same
    have M2 : Mat H2 a rs rss := ⟨k1 _ _ M.top (hpa M.top), M.len, fun i r row h1 h2 => k1 _ _ (M.row i r row h1 h2) (hpa (M.row i r row h1 h2)), M.nd⟩
    refine ⟨a, rfl, ⟨_, SqL.of M2.top⟩, ?_⟩
    have h400 := Vd.r400
    refine comp_copy M2 (by omega) fun aw rs' H' hs3 M3 new3 => ?_
    have G : Same H2 H' := hs3
    (
      have hp3 : H' p = some (.ins t.C_House dx (putF "doors" (.int d) [])) := G _ _ hp2
      repeat walk_at "sx"
      refine ⟨p, _, dx, _, rfl, hp3, T.cl_House, T.na_House_ways, (by show 1 < 1000; decide), ?_⟩
      repeat walk_at "sx"
      have hl3 : SqL K H l (ls.map V.bl) := hL
      have hlist : SqL K (upd H' p (.ins t.C_House dx (putF "ways" (.ref aw) (putF "doors" (.int d) [])))) l (ls.map V.bl) := by
        rcases hL with (hL | ⟨ob, hL⟩) | hL
        · exact .inl (.inl (by rw [upd_ne (hpa hL)]; exact G _ _ (k1 _ _ hL (hpa hL))))
        · have hne : l ≠ p := ne_of hL hp (by intro z; cases z)
          exact .inl (.inr ⟨ob, by rw [upd_ne hne]; exact G _ _ (k1 _ _ hL hne)⟩)
        · exact .inr hL
      refine ⟨l, _, rfl, .inl hlist, fun al hal => ?_⟩
      repeat walk_at "sx"
      have npa : p ≠ al := fun z => by rw [z, upd_same] at hal; cases hal
      have hal' : H' al = none := by rw [upd_ne (Ne.symm npa)] at hal; exact hal
      refine ⟨p, _, dx, _, rfl, (by rw [upd_ne npa]; exact upd_same), T.cl_House, T.na_House_lamps, (by have h1 := length_putF "ways" (.ref aw) (putF "doors" (.int d) []); have h2 := length_putF "doors" (.int d) []; simp only [List.length_nil] at h2; omega), ?_⟩
      have hpm : p ∉ aw :: rs' := fun hm => by have := new3 p hm; rw [hp2] at this; cases this
      have ham : al ∉ aw :: rs' := fun hm => by obtain ⟨o, e⟩ := M3.mem hm; rw [e] at hal'; cases hal'
      refine q Vd _ aw rs' al ⟨⟨dx, upd_same⟩, ((M3.upd hpm).upd ham).upd hpm, ?_⟩ (fun b o e hb => ?_) (fun b hb => ?_)
      · rw [upd_ne (Ne.symm npa), upd_same]
      · have e2 := G _ _ (k1 b o e hb)
        rw [upd_ne hb, upd_ne (ne_of_none e2 hal'), upd_ne hb]
        exact e2
      · rcases List.mem_cons.mp hb with rfl | hb
        · exact n1 _ (G.free hal')
        · exact n1 _ (new3 b hb)
    )
/-! #### House_rooms -/
/-! #### written_numbers -/
theorem sc_written_numbers : FnScope ["numbers", "number"] [] (defScope s_written_numbers) := ⟨rfl, rfl, rfl, by decide +kernel, rfl, by decide +kernel, by decide +kernel⟩
theorem b_written_numbers (T : Txt K mg t) : Binds K t.fd_written_numbers [] [] := T.F_written_numbers.binds fun _ _ _ _ _ _ us hl => by cases len_0 hl; rfl
def sp_written_numbers : Sp := fun vs H Q _ => vs = [] ∧ ∀ nb, H nb = none → Q (.ref nb) (upd H nb (.dK (numT 400)))
theorem ok_written_numbers (T : Txt K mg t) : FnOk P w K mg base CX0 1 t.f_written_numbers t.fd_written_numbers [] (sp_written_numbers) := by
  refine T.F_written_numbers.ok sc_written_numbers (fun vs H Q E h => ?_) (fun cdv A outer s H vs Q E hr h => ?_)
  · obtain ⟨rfl, _⟩ := h
    rfl
  · obtain ⟨rfl, q⟩ := h
    refine ⟨_, pss_cons (ps_set (i := 0) sc_written_numbers.nd rfl (Or.inl rfl) (pe_dnewK))
 (pss_cons (ps_for PassesOwn.never rfl (pi_range1 rfl T.m_range (pa_cons (pe_glob (v := .int 400) rfl T.mg_MOST_ROOMS.choose_spec ⟨_, rfl⟩) (pa_nil))) (pg_name (i := 1) sc_written_numbers.nd rfl (Or.inl rfl))
 (pss_one (ps_dput hr.units1 (pv 0) (pe_callTy call_str_int rfl T.m_str boot_str (pa_cons (pv 1) (pa_nil))) (pv 1) rfl)))
 (pss_one (ps_ret (pv 0)))), ?_⟩
    repeat walk_at "sx"
    intro nb hnb
    repeat walk_at "sx"
    refine ⟨_, rfl, by decide, by decide, ?_⟩
    refine for_range (fun k σ H' => H' = upd H nb (.dK (numT k)) ∧ ∃ k1, σ = [some (.ref nb), k1]) ⟨rfl, _, rfl⟩ (fun k σ H' hk pp => ?_) (fun σ H' pp => ?_)
    · obtain ⟨rfl, k1, rfl⟩ := pp
      have e0 : (0 : Int) + (k : Int) = (k : Int) := by omega
      rw [e0]
      have hk4 : k < 400 := by omega
      repeat walk_at "sx"
      refine ⟨_, rfl, Nat.lt_of_lt_of_le (small_log (by omega) (by omega)) (by decide), ?_⟩
      refine ⟨nb, _, rfl, DPut.k (k := Sum.inr (numS (k : Int))) upd_same (by unfold numT; rw [List.length_map, List.length_range]; exact Nat.lt_of_lt_of_le hk4 (by decide)), ?_⟩
      rw [putK_new _ (numT_none hk4 k (Nat.le_refl k)), upd_upd, ← numT_succ]
      exact ⟨rfl, _, rfl⟩
    · obtain ⟨rfl, k1, rfl⟩ := pp
      repeat walk_at "sx"
      exact q nb hnb
/-! #### number_of -/
theorem sc_number_of : FnScope ["numbers", "figures"] ["numbers", "figures"] (defScope s_number_of) := ⟨rfl, rfl, rfl, by decide +kernel, rfl, by decide +kernel, by decide +kernel⟩
theorem b_number_of (T : Txt K mg t) : Binds K t.fd_number_of ["numbers", "figures"] [] := T.F_number_of.binds fun _ _ _ _ _ _ us hl => by obtain ⟨_, _, rfl⟩ := len_2 hl; rfl
theorem numT_val (x : Str) : (∃ n : Int, 0 ≤ n ∧ n < 400 ∧ x = numS n ∧ valV (numT 400) (Sum.inr x : Key) = some (.int n)) ∨ (valV (numT 400) (Sum.inr x : Key) = none ∧ ∀ n : Int, 0 ≤ n → n < 400 → x ≠ numS n) := by
  by_cases h : ∃ n : Int, 0 ≤ n ∧ n < 400 ∧ x = numS n
  · obtain ⟨n, h0, h1, rfl⟩ := h
    exact .inl ⟨n, h0, h1, rfl, numT_get h0 400 (Nat.le_refl _) (by omega)⟩
  · refine .inr ⟨?_, fun n h0 h1 e => h ⟨n, h0, h1, e⟩⟩
    cases hv : valV (numT 400) (Sum.inr x : Key) with
    | none => rfl
    | some v =>
      exfalso
      have hm : (Sum.inr x : Key) ∈ (numT 400).map (·.1) := by
        apply Classical.byContradiction
        intro z
        have : valV (numT 400) (Sum.inr x : Key) = none := by
          unfold valV
          rw [List.find?_eq_none.mpr fun p hp q => z (List.mem_map.mpr ⟨p, hp, by simpa using q⟩)]; rfl
        rw [this] at hv; cases hv
      unfold numT at hm
      rw [List.map_map] at hm
      obtain ⟨k, hk, e⟩ := List.mem_map.mp hm
      have hk := List.mem_range.mp hk
      exact h ⟨(k : Int), by omega, by omega, (Sum.inr.inj e).symm⟩
def sp_number_of (CT : Addr) : Sp := fun vs H Q E => ∃ (nb : Addr) (x : Str), vs = [.ref nb, .str x] ∧ H nb = some (.dK (numT 400)) ∧ (∀ n : Int, 0 ≤ n → n < 400 → x = numS n → Q (.int n) H) ∧ ((∀ n : Int, 0 ≤ n → n < 400 → x ≠ numS n) → E (.ref CT) none H)
theorem ok_number_of (T : Txt K mg t) : FnOk P w K mg base (CXr P w) 1 t.f_number_of t.fd_number_of ["numbers", "figures"] (sp_number_of t.C_BadText) := by
  refine T.F_number_of.okX sc_number_of (fun vs H Q E h => ?_) (fun cdv A outer s H vs Q E hr h => ?_)
  · obtain ⟨nb, x, rfl, _⟩ := h
    rfl
  · obtain ⟨nb, x, rfl, hd, q, qe⟩ := h
    refine ⟨_, pss_cons (ps_if (pt_cmp (pc_dnotin hr.units1 (pv 1) (pv 0)))
 (pss_one (ps_raise xm_def rfl rfl T.mg_BadText T.ex_BadText.toExcCls (pa_cons (pe_str) (pa_nil))))
 (pss_nil))
 (pss_one (ps_ret (pe_dget hr.units1 (pv 0) (pv 1) (fun _ _ => rfl)))), ?_⟩
    repeat walk_at "sx"
    refine ⟨nb, _, rfl, DGet.k (k := Sum.inr x) hd, ?_⟩
    rcases numT_val x with ⟨n, h0, h1, ex, hg⟩ | ⟨hg, hno⟩
    · rw [hg]
      repeat walk_at "sx"
      refine r_iteN rfl ?_
      repeat walk_at "sx"
      have hdg : DGet H nb (kV (Sum.inr x)) (valV (numT 400) (Sum.inr x)) := DGet.k hd
      rw [hg] at hdg
      refine ⟨nb, _, rfl, hdg, ?_⟩
      repeat walk_at "sx"
      exact q n h0 h1 ex
    · rw [hg]
      repeat walk_at "sx"
      refine r_iteP rfl ?_
      repeat walk_at "sx"
      exact ⟨show 1 ≤ sizeLine by decide, qe hno⟩
/-! #### lamp_of -/
theorem sc_lamp_of : FnScope ["name"] ["name"] (defScope s_lamp_of) := ⟨rfl, rfl, rfl, by decide +kernel, rfl, by decide +kernel, by decide +kernel⟩
theorem b_lamp_of (T : Txt K mg t) : Binds K t.fd_lamp_of ["name"] [] := T.F_lamp_of.binds fun _ _ _ _ _ _ us hl => by obtain ⟨_, rfl⟩ := len_1 hl; rfl
def sp_lamp_of (CT : Addr) : Sp := fun vs H Q E => ∃ x : Str, vs = [.str x] ∧ (∀ b : Bool, x = lampS b → Q (.bl b) H) ∧ ((∀ b : Bool, x ≠ lampS b) → E (.ref CT) none H)
theorem ok_lamp_of (T : Txt K mg t) : FnOk P w K mg base (CXr P w) 1 t.f_lamp_of t.fd_lamp_of ["name"] (sp_lamp_of t.C_BadText) := by
  refine T.F_lamp_of.okX sc_lamp_of (fun vs H Q E h => ?_) (fun cdv A outer s H vs Q E hr h => ?_)
  · obtain ⟨x, rfl, _⟩ := h
    rfl
  · obtain ⟨x, rfl, q, qe⟩ := h
    refine ⟨_, pss_cons (ps_if (pt_cmpR op_eq (pv 0) (pe_str) (nomark _))
 (pss_one (ps_ret (pe_bl)))
 (pss_nil))
 (pss_cons (ps_if (pt_cmpR op_eq (pv 0) (pe_str) (nomark _))
 (pss_one (ps_ret (pe_bl)))
 (pss_nil))
 (pss_one (ps_raise xm_def rfl rfl T.mg_BadText T.ex_BadText.toExcCls (pa_cons (pe_str) (pa_nil))))), ?_⟩
    repeat walk_at "sx"
    refine r_eq rfl ?_
    repeat walk_at "sx"
    refine r_ite (fun hc => ?_) (fun hc => ?_)
    · have hc : x = litT := by rw [e_lit] at hc; simpa using hc
      repeat walk_at "sx"
      exact q true (by rw [hc]; rfl)
    · have hc : ¬ x = litT := by rw [e_lit] at hc; simpa using hc
      repeat walk_at "sx"
      refine r_eq rfl ?_
      repeat walk_at "sx"
      refine r_ite (fun hc2 => ?_) (fun hc2 => ?_)
      · have hc2 : x = darkT := by rw [e_dark] at hc2; simpa using hc2
        repeat walk_at "sx"
        exact q false (by rw [hc2]; rfl)
      · have hc2 : ¬ x = darkT := by rw [e_dark] at hc2; simpa using hc2
        repeat walk_at "sx"
        refine ⟨show 1 ≤ sizeLine by decide, qe fun b hb => ?_⟩
        cases b
        · exact hc2 (by rw [hb]; rfl)
        · exact hc (by rw [hb]; rfl)
/-! #### doors_of -/
theorem sc_doors_of : FnScope ["numbers", "row"] ["numbers", "row"] (defScope s_doors_of) := ⟨rfl, rfl, rfl, by decide +kernel, rfl, by decide +kernel, by decide +kernel⟩
theorem b_doors_of (T : Txt K mg t) : Binds K t.fd_doors_of ["numbers", "row"] [] := T.F_doors_of.binds fun _ _ _ _ _ _ us hl => by obtain ⟨_, _, rfl⟩ := len_2 hl; rfl
theorem starts_app {x y : Str} (h : Txt.startswith x y = true) : ∃ z : Str, x = y ++ z ∧ (⟨(x.cps.toList.drop y.length).toArray⟩ : Str) = z := by
  unfold Txt.startswith Builtin.Str.subAt at h
  rw [Bool.and_eq_true] at h
  obtain ⟨h1, h2⟩ := h
  have h1 : y.length ≤ x.length := by simpa using h1
  have h2 : x.cps.extract 0 (0 + y.length) = y.cps := by simpa using h2
  have h3 : x.cps.toList.take y.length = y.cps.toList := by
    have := congrArg Array.toList h2
    rw [Array.toList_extract] at this
    simpa [List.extract] using this
  refine ⟨⟨(x.cps.toList.drop y.length).toArray⟩, str_ext ?_, rfl⟩
  rw [str_app, ← h3]
  simp
def sp_doors_of (CT : Addr) : Sp := fun vs H Q E => ∃ (nb : Addr) (x : Str), vs = [.ref nb, .str x] ∧ H nb = some (.dK (numT 400)) ∧ x.length ≤ 100000 ∧ (∀ n : Int, 0 ≤ n → n < 400 → x = headS n → Q (.int n) H) ∧ ((∀ n : Int, 0 ≤ n → n < 400 → x ≠ headS n) → E (.ref CT) none H)
theorem ok_doors_of (T : Txt K mg t) : FnOk P w K mg base (CXr P w) 2 t.f_doors_of t.fd_doors_of ["numbers", "row"] (sp_doors_of t.C_BadText) := by
  refine T.F_doors_of.okX sc_doors_of (fun vs H Q E h => ?_) (fun cdv A outer s H vs Q E hr h => ?_)
  · obtain ⟨nb, x, rfl, _⟩ := h
    rfl
  · obtain ⟨nb, x, rfl, hd, hl, q, qe⟩ := h
    refine ⟨_, pss_cons (ps_if (pt_not (pt_val (pe_bmK K PySem.F.plainAttrs_str PySem.F.slot_str_startswith PySem.F.type_str_startswith mt_starts (pv 1) (pa_cons (pe_glob (v := .str "doors ") rfl T.mg_HEADING.choose_spec ⟨_, rfl⟩) (pa_nil)))))
 (pss_one (ps_raise xm_def rfl rfl T.mg_BadText T.ex_BadText.toExcCls (pa_cons (pe_str) (pa_nil))))
 (pss_nil))
 (pss_one (ps_ret (pe_call (ok_number_of T) (hr.mono (by decide)) rfl T.mg_number_of T.F_number_of.kp (b_number_of T) .nil xp_def.pass (pa_cons (pv 0) (pa_cons (pe_slice sl_str (pv 1) (po_some (pe_callB call_len_str rfl T.m_len PySem.boot_len (pa_cons (pe_glob (v := .str "doors ") rfl T.mg_HEADING.choose_spec ⟨_, rfl⟩) (pa_nil)))) (po_none)) (pa_nil)))))), ?_⟩
    repeat walk_at "sx"
    refine ⟨rfl, ?_⟩
    repeat walk_at "sx"
    refine ⟨_, _, rfl, rfl, ?_⟩
    rw [e_dr]
    refine ⟨_, rfl, ?_⟩
    cases hs : Txt.startswith x drT with
    | false =>
      refine r_iteP rfl ?_
      repeat walk_at "sx"
      refine ⟨show 1 ≤ sizeLine by decide, qe fun n _ _ e => ?_⟩
      rw [e, starts_head] at hs; cases hs
    | true =>
      obtain ⟨z, hz, hc⟩ := starts_app hs
      refine r_iteN rfl ?_
      repeat walk_at "sx"
      refine ⟨_, rfl, by decide, ?_⟩
      refine ⟨_, rfl, ?_⟩
      repeat walk_at "sx"
      have hl6 : 6 ≤ x.length := by rw [hz, str_lapp]; have : drT.length = 6 := rfl; omega
      refine ⟨_, 6, rfl, rfl, rfl, by decide, by omega, by omega, ?_⟩
      have hc : (⟨(x.cps.toList.drop 6).toArray⟩ : Str) = z := hc
      rw [hc]
      repeat walk_at "sx"
      refine ⟨nb, z, rfl, hd, fun n h0 h1 e => q n h0 h1 (by rw [hz, e]; rfl), fun hno => qe fun n h0 h1 e => hno n h0 h1 ?_⟩
      have : drT ++ z = drT ++ numS n := by rw [← hz, e]; rfl
      have := congrArg (fun s : Str => s.cps.toList) this
      simp only [str_app] at this
      exact str_ext (List.append_cancel_left this)
/-! #### read -/
theorem sc_read : FnScope ["text", "rows", "numbers", "doors", "ways", "lamps", "row", "parts", "refusal"] ["text"] (defScope s_read) := ⟨rfl, rfl, rfl, by decide +kernel, rfl, by decide +kernel, by decide +kernel⟩
theorem b_read (T : Txt K mg t) : Binds K t.fd_read ["text"] [] := T.F_read.binds fun _ _ _ _ _ _ us hl => by obtain ⟨_, rfl⟩ := len_1 hl; rfl
/-- what was read of the rows so far -/
structure Rd15 (rest : List Str) (i : Nat) (rss : List (List Int)) (ls : List Bool) : Prop where
  l1 : rss.length = i
  l2 : ls.length = i
  at' : ∀ (j : Nat) ws b, rss[j]? = some ws → ls[j]? = some b → rest[j]? = some (rowS b ws)
  nm : ∀ ws ∈ rss, ws.length ≤ 900 ∧ ∀ x ∈ ws, 0 ≤ x ∧ x < 400
theorem Rd15.add {rest : List Str} {i : Nat} {rss : List (List Int)} {ls : List Bool} (R : Rd15 rest i rss ls) {ws : List Int} {b : Bool} (h : rest[i]? = some (rowS b ws)) (hl : ws.length ≤ 900) (hx : ∀ x ∈ ws, 0 ≤ x ∧ x < 400) : Rd15 rest (i + 1) (rss ++ [ws]) (ls ++ [b]) := by
  refine ⟨by simp [R.l1], by simp [R.l2], fun j ws' b' h1 h2 => ?_, fun ws' hw => ?_⟩
  · by_cases hj : j < i
    · rw [List.getElem?_append_left (by rw [R.l1]; exact hj)] at h1
      rw [List.getElem?_append_left (by rw [R.l2]; exact hj)] at h2
      exact R.at' j ws' b' h1 h2
    · have hjl := (List.getElem?_eq_some_iff.mp h1).1
      rw [List.length_append, List.length_singleton, R.l1] at hjl
      have : j = i := by omega
      subst this
      rw [List.getElem?_append_right (by rw [R.l1]; exact Nat.le_refl _), R.l1, Nat.sub_self] at h1
      rw [List.getElem?_append_right (by rw [R.l2]; exact Nat.le_refl _), R.l2, Nat.sub_self] at h2
      cases h1; cases h2
      exact h
  · rcases List.mem_append.mp hw with hw | hw
    · exact R.nm ws' hw
    · rw [List.mem_singleton.mp hw]; exact ⟨hl, hx⟩
theorem Rd15.rows {rest : List Str} {rss : List (List Int)} {ls : List Bool} (R : Rd15 rest rest.length rss ls) : rest = rowsS ls rss := by
  apply List.ext_getElem?
  intro j
  unfold rowsS
  by_cases hj : j < rest.length
  · have h1 := List.getElem?_eq_getElem (show j < rss.length by rw [R.l1]; exact hj)
    have h2 := List.getElem?_eq_getElem (show j < ls.length by rw [R.l2]; exact hj)
    rw [R.at' j _ _ h1 h2]
    exact (List.getElem?_zipWith_eq_some.mpr ⟨_, _, h2, h1, rfl⟩).symm
  · rw [List.getElem?_eq_none_iff.mpr (by omega), List.getElem?_eq_none_iff.mpr (by rw [List.length_zipWith, R.l1, R.l2]; omega)]
theorem Rd15.uniq {rest : List Str} {rss : List (List Int)} {ls : List Bool} (R : Rd15 rest rest.length rss ls) {d : Int} {rss' : List (List Int)} {ls' : List Bool} (Vd : Valid d rss' ls') (e : rest = rowsS ls' rss') : rss' = rss ∧ ls' = ls := by
  have hl : rest.length = rss'.length := by rw [e]; unfold rowsS; rw [List.length_zipWith, Vd.ll]; omega
  have hl' := Vd.ll
  have key : ∀ j (h1 : j < rss'.length) (h2 : j < rss.length) (h3 : j < ls'.length) (h4 : j < ls.length), ls'[j] = ls[j] ∧ rss'[j] = rss[j] := fun j h1 h2 h3 h4 => by
    have g := R.at' j _ _ (List.getElem?_eq_getElem h2) (List.getElem?_eq_getElem h4)
    obtain ⟨b, ws, k1, k2, k3, k4⟩ := rows_at Vd e g
    rw [List.getElem?_eq_getElem h1] at k1
    rw [List.getElem?_eq_getElem h3] at k2
    cases k1; cases k2
    obtain ⟨a1, a2⟩ := rowS_inj (R.nm _ (List.getElem_mem h2)).2 k4 k3
    exact ⟨a1.symm, a2.symm⟩
  constructor
  · apply List.ext_getElem (by rw [R.l1]; omega)
    intro j h1 h2
    exact (key j h1 h2 (by omega) (by rw [R.l2]; omega)).2
  · apply List.ext_getElem (by rw [R.l2]; omega)
    intro j h1 h2
    exact (key j (by omega) (by rw [R.l1]; omega) h1 h2).1
theorem Grown.ext {H H' : Hp} {l : Addr} {rs : List Addr} {f g : Nat → List Int} (G : Grown H H' l rs f) (e : ∀ j, j < rs.length → f j = g j) : Grown H H' l rs g :=
  ⟨G.top, fun j b h => by rw [← e j (List.getElem?_eq_some_iff.mp h).1]; exact G.row j b h, G.nd, G.new, G.same⟩
def sp_read (K : PySem.W.Frag) (C CT : Addr) : Sp := fun vs H Q E => ∃ x : Str, vs = [.str x] ∧ x.length ≤ 10000 ∧ (Txt.split x nlT).length ≤ 450 ∧ (∀ row ∈ Txt.split x nlT, (Txt.split row blT).length ≤ 900) ∧
  (∀ d rss ls, Valid d rss ls → x = textS d rss ls → ∀ H' p aw rs al, Same H H' → HouseAt C H' p d aw rs rss al ls → Q (.ref p) H') ∧
  ((∀ d rss ls, Valid d rss ls → x ≠ textS d rss ls) → ∀ H', Same H H' → E (.ref CT) none H')
theorem ok_read (T : Txt K mg t) : FnOk P w K mg base (CXr P w) 5 t.f_read t.fd_read ["text"] (sp_read K t.C_House t.C_BadText) := by
  refine T.F_read.okX sc_read (fun vs H Q E h => ?_) (fun cdv A outer s H vs Q E hr h => ?_)
  · obtain ⟨x, rfl, _⟩ := h
    rfl
  · obtain ⟨x, rfl, hxl, hxr, hxp, q, qe⟩ := h
    obtain ⟨r0, rest, hs, hj, hpl⟩ := split_at x nlT
    rw [hs] at hxr hxp
    rw [List.length_cons] at hxr
    refine ⟨_, pss_cons (ps_set (i := 1) sc_read.nd rfl (Or.inl rfl) (pe_bmK K PySem.F.plainAttrs_str PySem.F.slot_str_split PySem.F.type_str_split mt_split (pv 0) (pa_cons (pe_str) (pa_nil))))
 (pss_cons (ps_set (i := 2) sc_read.nd rfl (Or.inr rfl) (pe_call0 (ok_written_numbers T) (hr.mono (by decide)) rfl T.mg_written_numbers T.F_written_numbers.kp (b_written_numbers T) .nil pass0))
 (pss_cons (ps_set (i := 3) sc_read.nd rfl (Or.inl rfl) (pe_call (ok_doors_of T) (hr.mono (by decide)) rfl T.mg_doors_of T.F_doors_of.kp (b_doors_of T) .nil xp_def.pass (pa_cons (pv 2) (pa_cons (pe_ix (ix_listK K) (pv 1) (pe_int) (fun _ _ => rfl)) (pa_nil)))))
 (pss_cons (ps_set (i := 4) sc_read.nd rfl (Or.inl rfl) (pe_lst (pa_nil)))
 (pss_cons (ps_set (i := 5) sc_read.nd rfl (Or.inl rfl) (pe_lst (pa_nil)))
 (pss_cons (ps_for xp_def.own rfl (pi_listK K (pe_slice (sl_listK K) (pv 1) (po_some (pe_int)) (po_none))) (pg_name (i := 6) sc_read.nd rfl (Or.inl rfl))
 (pss_cons (ps_set (i := 7) sc_read.nd rfl (Or.inl rfl) (pe_bmK K PySem.F.plainAttrs_str PySem.F.slot_str_split PySem.F.type_str_split mt_split (pv 6) (pa_cons (pe_str) (pa_nil))))
 (pss_cons (ps_expr (pe_bmK K PySem.F.plainAttrs_list PySem.F.slot_list_append PySem.F.type_list_append mt_append (pv 5) (pa_cons (pe_call (ok_lamp_of T) (hr.mono (by decide)) rfl T.mg_lamp_of T.F_lamp_of.kp (b_lamp_of T) .nil xp_def.pass (pa_cons (pe_ix (ix_listK K) (pv 7) (pe_int) (fun _ _ => rfl)) (pa_nil))) (pa_nil))))
 (pss_one (ps_expr (pe_bmK K PySem.F.plainAttrs_list PySem.F.slot_list_append PySem.F.type_list_append mt_append (pv 4) (pa_cons (pe_compX (N := ["text", "rows", "numbers", "doors", "ways", "lamps", "row", "parts", "refusal"]) (sc0 := (defScope s_read)) (N' := ["figures", "numbers"]) (caps := [none, some 2]) (by exact ⟨rfl, by decide +kernel, by decide +kernel, by decide +kernel, rfl, rfl, by decide +kernel⟩) rfl (pi_listK K (pe_slice (sl_listK K) (pv 7) (po_some (pe_int)) (po_none))) (fun _ _ _ _ _ _ => pg_name (i := 0) (show List.Nodup (["figures", "numbers"] : List Str) from by decide +kernel) rfl (Or.inl rfl)) (fun _ _ _ _ _ _ _ xpc => pe_call (ok_number_of T) (hr.mono (by decide)) rfl T.mg_number_of T.F_number_of.kp (b_number_of T) .nil xpc (pa_cons (pv 1) (pa_cons (pv 0) (pa_nil)))) rfl rfl xh_def rfl) (pa_nil))))))))
 (pss_one (ps_tryF (i := 8) rfl rfl rfl rfl T.mg_BadHouse T.ex_BadHouse rfl T.mg_BadText T.ex_BadText.toExcCls sc_read.nd rfl rfl xh_def (fun _ _ _ xpn => pss_one (ps_ret (pe_make T.mk_House (ok_House_init T) (hr.mono (by decide)) rfl T.mg_House (b_House_init T) .nil xpn (pa_cons (pv 3) (pa_cons (pv 4) (pa_cons (pv 5) (pa_nil))))))) (fun _ _ => pa_cons (pe_str) (pa_nil)) (fun _ _ => pv 8)))))))), ?_⟩
    repeat walk_at "sx"
    refine ⟨rfl, ?_⟩
    repeat walk_at "sx"
    rw [e_nl]
    refine ⟨_, _, rfl, rfl, by decide, by omega, by rw [hs]; simp; omega, ?_⟩
    rw [hs]
    intro ra hra
    have s1 : Same H (upd H ra (.lst ((r0 :: rest).map V.str))) := Same.upd_new hra
    have ra1 : (upd H ra (.lst ((r0 :: rest).map V.str))) ra = some (.lst ((r0 :: rest).map V.str)) := upd_same
    generalize upd H ra (.lst ((r0 :: rest).map V.str)) = H1 at s1 ra1 ⊢
    repeat walk_at "sx"
    refine ⟨rfl, fun nb hnb => ?_⟩
    have s2 : Same H1 (upd H1 nb (.dK (numT 400))) := Same.upd_new hnb
    have nb2 : (upd H1 nb (.dK (numT 400))) nb = some (.dK (numT 400)) := upd_same
    generalize upd H1 nb (.dK (numT 400)) = H2 at s2 nb2 ⊢
    have s02 := s1.trans s2
    repeat walk_at "sx"
    refine r_ixL (SqL.of (s2 _ _ ra1)) (atI_nat (j := 0) rfl) ?_
    repeat walk_at "sx"
    refine ⟨nb, r0, rfl, nb2, by have := hpl r0 (by simp); omega, fun d hd0 hd4 ed => ?_, fun hno => qe (fun d rss ls Vd e => ?_) _ s02⟩
    rotate_left
    · have h1 := Vd.d1
      have h6 := Vd.d6
      exact hno d (by omega) (by omega) (text_rows hs Vd e).1
    repeat walk_at "sx"
    refine ⟨Nat.zero_le _, fun wa hwa => ?_⟩
    have s3 : Same H2 (upd H2 wa (.lst [])) := Same.upd_new hwa
    have wa3 : (upd H2 wa (.lst [])) wa = some (.lst []) := upd_same
    generalize hH3 : upd H2 wa (.lst []) = H3 at s3 wa3 ⊢
    repeat walk_at "sx"
    refine ⟨Nat.zero_le _, fun la hla => ?_⟩
    have s4 : Same H3 (upd H3 la (.lst [])) := Same.upd_new hla
    have la4 : (upd H3 la (.lst [])) la = some (.lst []) := upd_same
    have G4 : Grown H2 (upd H3 la (.lst [])) wa [] (fun j => ([] : List (List Int)).getD j []) := ⟨s4 _ _ wa3, fun j b h => by simp at h, by simp, fun b hb => by rw [List.mem_singleton.mp hb]; exact hwa, s3.trans s4⟩
    have nlw : la ≠ wa := fun z => by rw [z, wa3] at hla; cases hla
    have la2 : H2 la = none := s3.free hla
    generalize upd H3 la (.lst []) = H4 at s4 la4 G4 ⊢
    repeat walk_at "sx"
    refine ⟨_, rfl, ?_⟩
    repeat walk_at "sx"
    refine ⟨ra, _, rfl, SqL.of ((s2.trans (s3.trans s4)) _ _ ra1), fun sl hsl => ?_⟩
    rw [cut_from (by decide) (by rw [List.length_map, List.length_cons]; omega)]
    rw [show List.drop (Int.toNat 1) (List.map V.str (r0 :: rest)) = rest.map V.str from rfl]
    have s5 : Same H4 (upd H4 sl (.lst (rest.map V.str))) := Same.upd_new hsl
    have sl5 : (upd H4 sl (.lst (rest.map V.str))) sl = some (.lst (rest.map V.str)) := upd_same
    have la5 := s5 _ _ la4
    have nslw : sl ≠ wa := fun z => by rw [z, G4.top] at hsl; cases hsl
    have nsll : sl ≠ la := fun z => by rw [z, la4] at hsl; cases hsl
    have sl2 : H2 sl = none := G4.same.free hsl
    have G5 : Grown H2 (upd H4 sl (.lst (rest.map V.str))) wa [] (fun j => ([] : List (List Int)).getD j []) := ⟨s5 _ _ G4.top, fun j b h => by simp at h, by simp, G4.new, G4.same.trans s5⟩
    generalize upd H4 sl (.lst (rest.map V.str)) = H5 at s5 sl5 la5 G5 ⊢
    refine ⟨sl, rfl, ⟨_, SqL.of sl5⟩, ?_⟩
    refine for_list (xs := rest.map V.str) (fun i σ H' => ∃ rs' rss ls, rs'.length = i ∧ Rd15 rest i rss ls ∧ Grown H2 H' wa rs' (fun j => rss.getD j []) ∧ H' sl = some (.lst (rest.map V.str)) ∧ H' la = some (.lst (ls.map V.bl)) ∧ sl ∉ rs' ∧ la ∉ rs' ∧ ∃ k6 k7 k8, σ = [some (.str x), some (.ref ra), some (.ref nb), some (.int d), some (.ref wa), some (.ref la), k6, k7, k8])
      ⟨[], [], [], rfl, ⟨rfl, rfl, fun j ws b h => by simp at h, fun ws h => by simp at h⟩, G5, sl5, la5, by simp, by simp, _, _, _, rfl⟩ (fun i σ H' _ pp => by obtain ⟨_, _, _, _, _, _, h, _⟩ := pp; exact SqL.of h) (fun i x0 σ H6 hx pp => ?_) (fun σ H6 pp => ?_)
    · obtain ⟨rs', rss, ls, hlen, R, G6, sl6, la6, nsr, nlr, k6, k7, k8, rfl⟩ := pp
      obtain ⟨row, ex, hrow⟩ : ∃ row, x0 = .str row ∧ rest[i]? = some row := by
        rw [List.getElem?_map] at hx
        obtain ⟨row, h1, h2⟩ := Option.map_eq_some_iff.mp hx
        exact ⟨row, h2.symm, h1⟩
      subst ex
      clear hx
      have hi : i < rest.length := (List.getElem?_eq_some_iff.mp hrow).1
      have hrm : row ∈ r0 :: rest := List.mem_cons_of_mem _ (List.mem_of_getElem? hrow)
      have hrl := hpl row hrm
      have hrp := hxp row hrm
      obtain ⟨p0, ps, hp, hpj, hpp⟩ := split_at row blT
      rw [hp, List.length_cons] at hrp
      have hwa2 : H2 wa = none := hwa
      -- where a row is no row of a house, the text is none
      have bad : (∀ (b : Bool) (ws : List Int), (∀ x ∈ ws, 0 ≤ x ∧ x < 400) → p0 :: ps ≠ lampS b :: ws.map numS) → ∀ d' rss' ls', Valid d' rss' ls' → x ≠ textS d' rss' ls' := fun hn d' rss' ls' Vd e => by
        obtain ⟨b, ws, _, _, e3, e4⟩ := rows_at Vd (text_rows hs Vd e).2 hrow
        refine hn b ws e4 ?_
        rw [← hp, e3, split_row e4]
      repeat walk_at "sx"
      refine ⟨rfl, ?_⟩
      repeat walk_at "sx"
      rw [e_bl]
      refine ⟨_, _, rfl, rfl, by decide, by omega, by rw [hp]; simp; omega, ?_⟩
      rw [hp]
      intro pa hpa
      have s7 : Same H6 (upd H6 pa (.lst ((p0 :: ps).map V.str))) := Same.upd_new hpa
      have pa7 : (upd H6 pa (.lst ((p0 :: ps).map V.str))) pa = some (.lst ((p0 :: ps).map V.str)) := upd_same
      have npl : pa ≠ la := fun z => by rw [z, la6] at hpa; cases hpa
      generalize upd H6 pa (.lst ((p0 :: ps).map V.str)) = H7 at s7 pa7 ⊢
      have s07 : Same H H7 := s02.trans (G6.same.trans s7)
      repeat walk_at "sx"
      refine ⟨.inl ⟨rfl, _, SqL.of (s7 _ _ la6)⟩, ?_⟩
      repeat walk_at "sx"
      refine r_ixL (SqL.of pa7) (atI_nat (j := 0) rfl) ?_
      repeat walk_at "sx"
      refine ⟨p0, rfl, fun b eb => ?_, fun hno => qe (bad fun b ws _ e => hno b (List.cons.inj e).1) _ s07⟩
      repeat walk_at "sx"
      refine ⟨la, _, _, rfl, rfl, s7 _ _ la6, small1000 (by rw [List.length_map, R.l2]; omega), ?_⟩
      have k8 : ∀ c o, c ≠ la → H7 c = some o → (upd H7 la (.lst (ls.map V.bl ++ [.bl b]))) c = some o := fun c o hc e => by rw [upd_ne hc]; exact e
      have la8 : (upd H7 la (.lst (ls.map V.bl ++ [.bl b]))) la = some (.lst ((ls ++ [b]).map V.bl)) := by rw [upd_same, List.map_append]; rfl
      have n8 : ∀ c, (upd H7 la (.lst (ls.map V.bl ++ [.bl b]))) c = none → H7 c = none := fun c e => by
        by_cases hc : c = la
        · rw [hc, upd_same] at e; cases e
        · rw [upd_ne hc] at e; exact e
      have s08 : Same H (upd H7 la (.lst (ls.map V.bl ++ [.bl b]))) := s07.upd_fresh (s02.free la2)
      generalize upd H7 la (.lst (ls.map V.bl ++ [.bl b])) = H8 at k8 la8 n8 s08 ⊢
      have nwl : wa ≠ la := Ne.symm nlw
      repeat walk_at "sx"
      refine ⟨.inl ⟨rfl, _, SqL.of (k8 _ _ nwl (s7 _ _ G6.top))⟩, ?_⟩
      repeat walk_at "sx"
      refine ⟨_, rfl, ?_⟩
      repeat walk_at "sx"
      refine ⟨pa, _, rfl, SqL.of (k8 _ _ npl pa7), fun fl hfl => ?_⟩
      rw [cut_from (by decide) (by rw [List.length_map, List.length_cons]; omega)]
      rw [show List.drop (Int.toNat 1) (List.map V.str (p0 :: ps)) = ps.map V.str from rfl]
      have s9 : Same H8 (upd H8 fl (.lst (ps.map V.str))) := Same.upd_new hfl
      have fl9 : (upd H8 fl (.lst (ps.map V.str))) fl = some (.lst (ps.map V.str)) := upd_same
      generalize upd H8 fl (.lst (ps.map V.str)) = H9 at s9 fl9 ⊢
      have nb9 : H9 nb = some (.dK (numT 400)) := s9 _ _ (k8 _ _ (fun z => by rw [z, la2] at nb2; cases nb2) (s7 _ _ (G6.same _ _ nb2)))
      refine ⟨fl, rfl, ⟨_, SqL.of fl9⟩, ?_⟩
      refine comp_list (xs := ps.map V.str) (fun acc j ys H' => ∃ ws : List Int, H' = upd H9 acc (.lst ys) ∧ ys = ws.map V.int ∧ ws.length = j ∧ ws.map numS = ps.take j ∧ ∀ x ∈ ws, 0 ≤ x ∧ x < 400) (fun acc hacc => ⟨[], rfl, rfl, rfl, rfl, fun x h => by simp at h⟩) (fun acc j ys H' hacc _ pp => by obtain ⟨ws, e, _⟩ := pp; rw [e]; exact SqL.of (Same.upd_new hacc _ _ fl9)) (fun acc j x1 ys H' hacc hx pp => ?_) (fun acc ys H' hacc pp => ?_)
      · obtain ⟨ws, rfl, rfl, hwl, hwn, hwx⟩ := pp
        obtain ⟨f, ex, hf⟩ : ∃ f, x1 = .str f ∧ ps[j]? = some f := by
          rw [List.getElem?_map] at hx
          obtain ⟨f, h1, h2⟩ := Option.map_eq_some_iff.mp hx
          exact ⟨f, h2.symm, h1⟩
        subst ex
        clear hx
        have hjl : j < ps.length := (List.getElem?_eq_some_iff.mp hf).1
        have s10 : Same H9 (upd H9 acc (.lst (ws.map V.int))) := Same.upd_new hacc
        repeat walk_at "sx"
        refine ⟨Wk.set rfl, ?_⟩
        repeat walk_at "sx"
        refine ⟨nb, f, rfl, s10 _ _ nb9, fun n n0 n1 en => ?_, fun hno => qe (bad fun b' ws' hw' e => ?_) _ (s08.trans (s9.trans s10))⟩
        · refine ⟨upd_same, small1000 (by rw [List.length_map]; omega), ws ++ [n], ?_, ?_, ?_, ?_, fun y hy => ?_⟩
          · rw [upd_upd]
          · rw [List.map_append]; rfl
          · simp [hwl]
          · rw [List.map_append, hwn, take_snocA hf, en]; rfl
          · rcases List.mem_append.mp hy with hy | hy
            · exact hwx y hy
            · rw [List.mem_singleton.mp hy]; exact ⟨n0, n1⟩
        · have e2 := (List.cons.inj e).2
          rw [e2, List.getElem?_map] at hf
          obtain ⟨n, hn, en⟩ := Option.map_eq_some_iff.mp hf
          have := hw' n (List.mem_of_getElem? hn)
          exact hno n this.1 this.2 en.symm
      · obtain ⟨ws, rfl, rfl, hwl, hwn, hwx⟩ := pp
        rw [List.length_map] at hwl hwn
        rw [List.take_length] at hwn
        have erow : row = rowS b ws := row_of (by rw [hp, eb, hwn])
        have s10 : Same H9 (upd H9 acc (.lst (ws.map V.int))) := Same.upd_new hacc
        have a10 : (upd H9 acc (.lst (ws.map V.int))) acc = some (.lst (ws.map V.int)) := upd_same
        have R' := R.add (by rw [← erow]; exact hrow) (by omega) hwx
        have hacc6 : H6 acc = none := s7.free (n8 _ (s9.free hacc))
        have wa9 : H9 wa = some (.lst (rs'.map V.ref)) := s9 _ _ (k8 _ _ nwl (s7 _ _ G6.top))
        have nwa : wa ≠ acc := ne_of_none wa9 hacc
        refine ⟨wa, _, _, rfl, rfl, by rw [upd_ne nwa]; exact wa9, small1000 (by rw [List.length_map]; omega), ?_⟩
        have keep : ∀ c o, c ≠ wa → c ≠ la → H6 c = some o → upd (upd H9 acc (.lst (ws.map V.int))) wa (.lst (rs'.map V.ref ++ [.ref acc])) c = some o := fun c o h1 h2 e => by
          rw [upd_ne h1, upd_ne (ne_of_none e hacc6)]; exact s9 _ _ (k8 _ _ h2 (s7 _ _ e))
        have G6' : Grown H2 H6 wa rs' (fun j => (rss ++ [ws]).getD j []) := G6.ext (fun j hj => by
          show rss.getD j [] = (rss ++ [ws]).getD j []
          rw [List.getD_eq_getElem?_getD, List.getD_eq_getElem?_getD, List.getElem?_append_left (by rw [R.l1, ← hlen]; exact hj)])
        have egd : (rss ++ [ws]).getD rs'.length [] = ws := by
          rw [List.getD_eq_getElem?_getD, hlen, ← R.l1, List.getElem?_append_right (Nat.le_refl _), Nat.sub_self]; rfl
        refine ⟨rs' ++ [acc], rss ++ [ws], ls ++ [b], by simp [hlen], R', G6'.step hacc6 (by rw [upd_same, List.map_append]; rfl) ?_ (fun c o h1 h2 e => keep c o h1 (fun z => ?_) e), keep _ _ nslw nsll sl6, ?_, fun z => ?_, fun z => ?_, _, _, _, rfl⟩
        · rw [upd_ne (Ne.symm nwa), upd_same, egd]
        · rcases h2 with h2 | h2
          · exact nlr (z ▸ h2)
          · exact h2 (z ▸ la2)
        · have nla : la ≠ acc := ne_of_none la6 hacc6
          rw [upd_ne nlw, upd_ne nla]; exact s9 _ _ la8
        · rcases List.mem_append.mp z with z | z
          · exact nsr z
          · rw [← List.mem_singleton.mp z, sl6] at hacc6; cases hacc6
        · rcases List.mem_append.mp z with z | z
          · exact nlr z
          · rw [← List.mem_singleton.mp z, la6] at hacc6; cases hacc6
    obtain ⟨rs', rss, ls, hlen, R, G6, sl6, la6, nsr, nlr, k6, k7, k8, rfl⟩ := pp
    rw [List.length_map] at hlen R
    have er := R.rows
    have ex : x = textS d rss ls := by rw [hj, ed, er]; rfl
    have M6 := G6.matOf (by rw [hlen, R.l1])
    have s06 : Same H H6 := s02.trans G6.same
    repeat walk_at "sx"
    refine r_tryF ?_
    repeat walk_at "sx"
    intro hp hdx e1 e2 e3
    have sm : Same H6 (upd (upd H6 hdx (.own hp)) hp (.ins t.C_House hdx [])) := (Same.upd_new e2).trans (Same.upd_new (by rw [upd_ne (Ne.symm e3)]; exact e1))
    refine ⟨hp, hdx, d, wa, rs', rss, la, ls, rfl, upd_same, M6.same sm, SqL.of (sm _ _ la6), ⟨by omega, by omega, fun row hr y hy => by have := (R.nm row hr).2 y hy; omega, by rw [R.l1]; omega⟩, fun Vd H8 aw8 rs8 al8 hh8 keep8 new8 => ⟨rfl, ?_⟩, fun nv H8 s8 => ⟨rfl, fun ea hea => ?_⟩⟩
    · have s8 : Same H6 H8 := fun b o e => keep8 b o (sm b o e) (ne_of_none e e1)
      repeat walk_at "sx"
      exact q d rss ls Vd ex H8 hp aw8 rs8 al8 (s06.trans s8) hh8
    · repeat walk_at "sx"
      refine ⟨show 1 ≤ sizeLine by decide, upd_same, qe (fun d' rss' ls' Vd' e' => ?_) _ ((s06.trans (sm.trans s8)).trans (Same.upd_new hea))⟩
      obtain ⟨t1, t2⟩ := text_rows hs Vd' e'
      obtain ⟨rfl, rfl⟩ := R.uniq Vd' t2
      have h1 := Vd'.d1
      have h6 := Vd'.d6
      have := head_inj hd0 hd4 (show 0 ≤ d' by omega) (by omega) (ed.symm.trans t1)
      subst this
      exact nv Vd'
/-! #### l_cell_at -/
theorem sc_l_cell_at : FnScope ["script", "k"] ["script", "k"] (defScope s_l_cell_at) := ⟨rfl, rfl, rfl, by decide +kernel, rfl, by decide +kernel, by decide +kernel⟩
theorem b_l_cell_at (T : Txt K mg t) : Binds K t.fd_l_cell_at ["script", "k"] [] := T.F_l_cell_at.binds fun _ _ _ _ _ _ us hl => by obtain ⟨_, _, rfl⟩ := len_2 hl; rfl
def sp_l_cell_at (K : PySem.W.Frag) : Sp := fun vs H Q _ => ∃ (a : Addr) (ns : List Int) (k : Int), vs = [.ref a, .int k] ∧ SqL K H a (ns.map V.int) ∧ 0 ≤ k ∧ Q (.int (cellv ns k)) H
theorem ok_l_cell_at (T : Txt K mg t) : FnOk P w K mg base CX0 1 t.f_l_cell_at t.fd_l_cell_at ["script", "k"] (sp_l_cell_at K) := by
  refine T.F_l_cell_at.ok sc_l_cell_at (fun vs H Q E h => ?_) (fun cdv A outer s H vs Q E hr h => ?_)
  · obtain ⟨a, ns, k, rfl, _⟩ := h
    rfl
  · obtain ⟨a, ns, k, rfl, hS, h0, q⟩ := h
    refine ⟨_, pss_cons (ps_if (pt_cmpR op_lt (pv 1) (pe_callB (call_len_seqK K) rfl T.m_len PySem.boot_len (pa_cons (pv 0) (pa_nil))) (nomark _))
 (pss_one (ps_ret (pe_ix (ix_listK K) (pv 0) (pv 1) (fun _ _ => rfl))))
 (pss_nil))
 (pss_one (ps_ret (pe_int))), ?_⟩
    repeat walk_at "sx"
    refine ⟨a, _, rfl, .inl hS, ?_⟩
    repeat walk_at "sx"
    refine r_ite (fun hc => ?_) (fun hc => ?_)
    · have hc : k < (ns.map V.int).length := of_decide_eq_true hc
      rw [List.length_map] at hc
      have hn : k.toNat < ns.length := by omega
      repeat walk_at "sx"
      refine r_ixL hS (atI_get' h0 (int_map_get (List.getElem?_eq_getElem hn))) ?_
      have e : cellv ns k = ns[k.toNat] := by
        unfold cellv
        rw [if_pos hc, List.getD_eq_getElem?_getD, List.getElem?_eq_getElem hn, Option.getD_some]
      rw [e] at q
      exact q
    · have hc : ¬ k < (ns.map V.int).length := of_decide_eq_false hc
      rw [List.length_map] at hc
      repeat walk_at "sx"
      have e : cellv ns k = 0 := by unfold cellv; rw [if_neg hc]
      rw [e] at q
      exact q
/-! #### l_draw -/
theorem sc_l_draw : FnScope ["cell", "k", "bound", "stir"] ["cell", "k", "bound"] (defScope s_l_draw) := ⟨rfl, rfl, rfl, by decide +kernel, rfl, by decide +kernel, by decide +kernel⟩
theorem b_l_draw (T : Txt K mg t) : Binds K t.fd_l_draw ["cell", "k", "bound"] [] := T.F_l_draw.binds fun _ _ _ _ _ _ us hl => by obtain ⟨_, _, _, rfl⟩ := len_3 hl; rfl
def sp_l_draw : Sp := fun vs H Q _ => ∃ c k b : Int, vs = [.int c, .int k, .int b] ∧ 0 < b ∧ Q (.int (draw c k b)) H
theorem ok_l_draw (T : Txt K mg t) : FnOk P w K mg base CX0 1 t.f_l_draw t.fd_l_draw ["cell", "k", "bound"] (sp_l_draw) := by
  refine T.F_l_draw.ok sc_l_draw (fun vs H Q E h => ?_) (fun cdv A outer s H vs Q E hr h => ?_)
  · obtain ⟨c, k, b, rfl, _⟩ := h
    rfl
  · obtain ⟨c, k, b, rfl, hb, q⟩ := h
    refine ⟨_, pss_cons (ps_set (i := 3) sc_l_draw.nd rfl (Or.inl rfl) (pe_op op_mod (pe_op op_mul (pe_op op_add (pe_op op_add (pe_op op_mod (pv 0) (pe_int)) (pe_op op_mul (pe_int) (pv 1))) (pe_int)) (pe_int)) (pe_int)))
 (pss_cons (ps_set (i := 3) sc_l_draw.nd rfl (Or.inl rfl) (pe_op op_mod (pe_op op_mul (pe_op op_add (pv 3) (pe_op op_mul (pe_int) (pe_op op_add (pv 1) (pe_int)))) (pe_int)) (pe_int)))
 (pss_one (ps_ret (pe_op op_mod (pe_op op_fdiv (pv 3) (pe_int)) (pv 2))))), ?_⟩
    repeat walk_at "sx"
    exact q
/-! #### l_ways_by -/
theorem sc_l_ways_by : FnScope ["cell", "doors", "rooms", "ways", "k"] ["cell", "doors", "rooms"] (defScope s_l_ways_by) := ⟨rfl, rfl, rfl, by decide +kernel, rfl, by decide +kernel, by decide +kernel⟩
theorem b_l_ways_by (T : Txt K mg t) : Binds K t.fd_l_ways_by ["cell", "doors", "rooms"] [] := T.F_l_ways_by.binds fun _ _ _ _ _ _ us hl => by obtain ⟨_, _, _, rfl⟩ := len_3 hl; rfl
def sp_l_ways_by : Sp := fun vs H Q _ => ∃ c d r : Int, vs = [.int c, .int d, .int r] ∧ 0 ≤ d ∧ d ≤ 1000 ∧ 0 ≤ r ∧ r ≤ 1000 ∧
  ∀ (a : Addr) (rs : List Addr) (H' : Hp), Same H H' → Mat H' a rs (waysBy c d r) → (∀ b ∈ a :: rs, H b = none) → Q (.ref a) H'
theorem ok_l_ways_by (T : Txt K mg t) : FnOk P w K mg base CX0 2 t.f_l_ways_by t.fd_l_ways_by ["cell", "doors", "rooms"] (sp_l_ways_by) := by
  refine T.F_l_ways_by.ok sc_l_ways_by (fun vs H Q E h => ?_) (fun cdv A outer s H vs Q E hr h => ?_)
  · obtain ⟨c, d, r, rfl, _⟩ := h
    rfl
  · obtain ⟨c, d, r, rfl, hd0, hd1, hr0, hr1, q⟩ := h
    refine ⟨_, pss_cons (ps_set (i := 3) sc_l_ways_by.nd rfl (Or.inl rfl) (pe_lst (pa_nil)))
 (pss_cons (ps_for PassesOwn.never rfl (pi_range1 rfl T.m_range (pa_cons (pv 2) (pa_nil))) (pg_name (i := 4) sc_l_ways_by.nd rfl (Or.inr rfl))
 (pss_one (ps_expr (pe_bmK K PySem.F.plainAttrs_list PySem.F.slot_list_append PySem.F.type_list_append mt_append (pv 3) (pa_cons (pe_comp (N := ["cell", "doors", "rooms", "ways", "k"]) (sc0 := (defScope s_l_ways_by)) (N' := ["door", "cell", "k", "rooms"]) (caps := [none, some 0, some 4, some 2]) (by exact ⟨rfl, by decide +kernel, by decide +kernel, by decide +kernel, rfl, rfl, by decide +kernel⟩) rfl (pi_range1 rfl T.m_range (pa_cons (pv 1) (pa_nil))) (fun _ _ _ _ _ _ => pg_name (i := 0) (show List.Nodup (["door", "cell", "k", "rooms"] : List Str) from by decide +kernel) rfl (Or.inl rfl)) (fun _ _ _ _ _ _ => pe_call (ok_l_draw T) (hr.mono (by decide)) rfl T.mg_l_draw T.F_l_draw.kp (b_l_draw T) .nil pass0 (pa_cons (pv 1) (pa_cons (pe_op op_add (pe_op op_mul (pe_int) (pv 2)) (pv 0)) (pa_cons (pv 3) (pa_nil)))))) (pa_nil))))))
 (pss_one (ps_ret (pv 3)))), ?_⟩
    repeat walk_at "sx"
    refine ⟨Nat.zero_le _, fun l hl => ?_⟩
    repeat walk_at "sx"
    refine ⟨_, rfl, by omega, by omega, ?_⟩
    refine for_range (fun i σ H' => ∃ rs kv, σ = [some (.int c), some (.int d), some (.int r), some (.ref l), kv] ∧ rs.length = i ∧ Grown H H' l rs (rowBy c d r)) ⟨[], none, rfl, rfl, Grown.start hl⟩ (fun i σ H1 hi p => ?_) (fun σ H1 p => ?_)
    · obtain ⟨rs, kv, rfl, hlen, G⟩ := p
      repeat walk_at "sx"
      refine ⟨.inl ⟨rfl, _, SqL.of G.top⟩, ?_⟩
      repeat walk_at "sx"
      refine ⟨_, rfl, by omega, by omega, ?_⟩
      have hrp : 0 < r := by omega
      refine comp_range (fun acc j ys H2 => ys = (List.range j).map (fun (j : Nat) => V.int (draw c (7 * (i : Int) + (j : Int)) r)) ∧ H2 = upd H1 acc (.lst ys)) (fun acc hacc => ⟨rfl, rfl⟩) (fun acc j ys H2 hacc hj p => ?_) (fun acc ys H2 hacc p => ?_)
      · obtain ⟨rfl, rfl⟩ := p
        repeat walk_at "sx"
        refine ⟨Wk.set rfl, ?_⟩
        repeat walk_at "sx"
        refine ⟨_, _, _, rfl, hrp, upd_same, small1000 (by simp; omega), ?_, ?_⟩
        · rw [map_range_snoc]; simp only [Int.zero_add]
        · rw [upd_upd]
      · obtain ⟨rfl, rfl⟩ := p
        repeat walk_at "sx"
        have hla : l ≠ acc := fun z => G.fresh hacc (by rw [z]; exact List.mem_cons_self)
        refine ⟨l, rs.map V.ref, _, rfl, rfl, (by rw [upd_ne hla]; exact G.top), small1000 (by simp; omega), ?_⟩
        refine ⟨rs ++ [acc], _, rfl, by simp [hlen], ?_⟩
        have := G.snoc hacc
        have e : (rowBy c d r rs.length).map V.int = (List.range d.toNat).map (fun (j : Nat) => V.int (draw c (7 * (i : Int) + (j : Int)) r)) := by
          unfold rowBy; rw [List.map_map, hlen]; rfl
        rw [e] at this
        exact this
    · obtain ⟨rs, kv, rfl, hlen, G⟩ := p
      repeat walk_at "sx"
      refine q l rs H1 G.same ?_ G.new
      have := G.mat
      rw [hlen] at this
      exact this
/-! #### l_lamps_by -/
theorem sc_l_lamps_by : FnScope ["cell", "rooms"] ["cell", "rooms"] (defScope s_l_lamps_by) := ⟨rfl, rfl, rfl, by decide +kernel, rfl, by decide +kernel, by decide +kernel⟩
theorem b_l_lamps_by (T : Txt K mg t) : Binds K t.fd_l_lamps_by ["cell", "rooms"] [] := T.F_l_lamps_by.binds fun _ _ _ _ _ _ us hl => by obtain ⟨_, _, rfl⟩ := len_2 hl; rfl
def sp_l_lamps_by : Sp := fun vs H Q _ => ∃ c r : Int, vs = [.int c, .int r] ∧ 0 ≤ r ∧ r ≤ 1000 ∧ ∀ (a : Addr), H a = none → Q (.ref a) (upd H a (.lst ((lampsBy c r).map V.bl)))
theorem ok_l_lamps_by (T : Txt K mg t) : FnOk P w K mg base CX0 2 t.f_l_lamps_by t.fd_l_lamps_by ["cell", "rooms"] (sp_l_lamps_by) := by
  refine T.F_l_lamps_by.ok sc_l_lamps_by (fun vs H Q E h => ?_) (fun cdv A outer s H vs Q E hr h => ?_)
  · obtain ⟨c, r, rfl, _⟩ := h
    rfl
  · obtain ⟨c, r, rfl, hr0, hr1, q⟩ := h
    refine ⟨_, pss_one (ps_ret (pe_comp (N := ["cell", "rooms"]) (sc0 := (defScope s_l_lamps_by)) (N' := ["k", "cell"]) (caps := [none, some 0]) (by exact ⟨rfl, by decide +kernel, by decide +kernel, by decide +kernel, rfl, rfl, by decide +kernel⟩) rfl (pi_range1 rfl T.m_range (pa_cons (pv 1) (pa_nil))) (fun _ _ _ _ _ _ => pg_name (i := 0) (show List.Nodup (["k", "cell"] : List Str) from by decide +kernel) rfl (Or.inl rfl)) (fun _ _ _ _ _ _ => pe_cmpR op_eq (pe_call (ok_l_draw T) (hr.mono (by decide)) rfl T.mg_l_draw T.F_l_draw.kp (b_l_draw T) .nil pass0 (pa_cons (pv 1) (pa_cons (pv 0) (pa_cons (pe_int) (pa_nil))))) (pe_int) (nomark _)))), ?_⟩
    repeat walk_at "sx"
    refine ⟨_, rfl, by omega, by omega, ?_⟩
    refine comp_range (fun acc j ys H2 => ys = (List.range j).map (fun (k : Nat) => V.bl (decide (draw c (k : Int) 2 = 1))) ∧ H2 = upd H acc (.lst ys)) (fun acc hacc => ⟨rfl, rfl⟩) (fun acc j ys H2 hacc hj p => ?_) (fun acc ys H2 hacc p => ?_)
    · obtain ⟨rfl, rfl⟩ := p
      repeat walk_at "sx"
      refine ⟨Wk.set rfl, ?_⟩
      repeat walk_at "sx"
      refine ⟨_, _, _, rfl, by decide, ?_⟩
      repeat walk_at "sx"
      refine r_eq rfl ⟨upd_same, small1000 (by simp; omega), ?_, ?_⟩
      · rw [map_range_snoc, dec_int]; simp only [Int.zero_add]; rfl
      · rw [upd_upd]
    · obtain ⟨rfl, rfl⟩ := p
      have := q acc hacc
      unfold lampsBy at this
      rw [List.map_map] at this
      exact this
/-! #### l_whole -/
theorem sc_l_whole : FnScope ["found"] ["found"] (defScope s_l_whole) := ⟨rfl, rfl, rfl, by decide +kernel, rfl, by decide +kernel, by decide +kernel⟩
theorem b_l_whole (T : Txt K mg t) : Binds K t.fd_l_whole ["found"] [] := T.F_l_whole.binds fun _ _ _ _ _ _ us hl => by obtain ⟨_, rfl⟩ := len_1 hl; rfl
def sp_l_whole : Sp := fun vs H Q _ => ∃ i : Int, vs = [.int i] ∧ Q (.bl true) H
theorem ok_l_whole (T : Txt K mg t) : FnOk P w K mg base CX0 1 t.f_l_whole t.fd_l_whole ["found"] (sp_l_whole) := by
  refine T.F_l_whole.ok sc_l_whole (fun vs H Q E h => ?_) (fun cdv A outer s H vs Q E hr h => ?_)
  · obtain ⟨i, rfl, _⟩ := h
    rfl
  · obtain ⟨i, rfl, q⟩ := h
    refine ⟨_, pss_one (ps_ret (pe_and (pe_callB (call_isinstK K) rfl T.m_isinstance boot_isinstance (pa_cons (pv 0) (pa_cons (pe_bltn (v := .ty "int") rfl T.m_int boot_int rfl) (pa_nil)))) (pe_one (pe_not (pe_callB (call_isinstK K) rfl T.m_isinstance boot_isinstance (pa_cons (pv 0) (pa_cons (pe_bltn (v := .ty "bool") rfl T.m_bool boot_bool rfl) (pa_nil)))))))), ?_⟩
    repeat walk_at "sx"
    refine ⟨_, _, _, _, true, rfl, .int i, rfl, rfl, ?_⟩
    repeat walk_at "sx"
    refine r_iteP rfl ?_
    repeat walk_at "sx"
    refine ⟨_, _, _, _, false, rfl, .int i, rfl, ki_ib K, ?_⟩
    repeat walk_at "sx"
    exact q
/-! #### l_numbers -/
theorem sc_l_numbers : FnScope ["found", "due", "part"] ["found", "due"] (defScope s_l_numbers) := ⟨rfl, rfl, rfl, by decide +kernel, rfl, by decide +kernel, by decide +kernel⟩
theorem b_l_numbers (T : Txt K mg t) : Binds K t.fd_l_numbers ["found", "due"] [] := T.F_l_numbers.binds fun _ _ _ _ _ _ us hl => by obtain ⟨_, _, rfl⟩ := len_2 hl; rfl
def sp_l_numbers (K : PySem.W.Frag) : Sp := fun vs H Q _ => ∃ (a b : Addr) (ns ms : List Int), vs = [.ref a, .ref b] ∧ H a = some (.lst (ns.map V.int)) ∧ SqL K H b (ms.map V.int) ∧ Q (.bl (decide (ns = ms))) H
theorem ok_l_numbers (T : Txt K mg t) : FnOk P w K mg base CX0 2 t.f_l_numbers t.fd_l_numbers ["found", "due"] (sp_l_numbers K) := by
  refine T.F_l_numbers.ok sc_l_numbers (fun vs H Q E h => ?_) (fun cdv A outer s H vs Q E hr h => ?_)
  · obtain ⟨a, b, ns, ms, rfl, _⟩ := h
    rfl
  · obtain ⟨a, b, ns, ms, rfl, ha, hb, q⟩ := h
    refine ⟨_, pss_cons (ps_if (PW.pt (pw_or (pt_not (pt_val (pe_callB (call_isinstK K) rfl T.m_isinstance boot_isinstance (pa_cons (pv 0) (pa_cons (pe_bltn (v := .ty "list") rfl T.m_list boot_list rfl) (pa_nil)))))) (pw_or1 (pt_cmpR op_ne (pe_callB (call_len_seqK K) rfl T.m_len PySem.boot_len (pa_cons (pv 0) (pa_nil))) (pe_callB (call_len_seqK K) rfl T.m_len PySem.boot_len (pa_cons (pv 1) (pa_nil))) (nomark _)))))
 (pss_one (ps_ret (pe_bl)))
 (pss_nil))
 (pss_cons (ps_for PassesOwn.never rfl (pi_listK K (pv 0)) (pg_name (i := 2) sc_l_numbers.nd rfl (Or.inl rfl))
 (pss_one (ps_if (pt_not (pt_val (pe_call (ok_l_whole T) (hr.mono (by decide)) rfl T.mg_l_whole T.F_l_whole.kp (b_l_whole T) .nil pass0 (pa_cons (pv 2) (pa_nil)))))
 (pss_one (ps_ret (pe_bl)))
 (pss_nil))))
 (pss_one (ps_ret (pe_cmpR (op_eqIK K hr.units) (pv 0) (pv 1) (nomark _))))), ?_⟩
    repeat walk_at "sx"
    refine ⟨_, _, _, _, true, rfl, .lst ha, rfl, rfl, ?_⟩
    repeat walk_at "sx"
    refine r_iteN rfl ?_
    repeat walk_at "sx"
    refine ⟨a, _, rfl, .inl (SqL.of ha), ?_⟩
    repeat walk_at "sx"
    refine ⟨b, _, rfl, .inl hb, ?_⟩
    refine r_ne rfl ?_
    repeat walk_at "sx"
    rw [dec_int, List.length_map, List.length_map]
    refine r_ite (fun hc => ?_) (fun hc => ?_)
    · have hne : ¬ ns = ms := fun z => by subst z; simp at hc
      repeat walk_at "sx"
      rw [decide_eq_false hne] at q
      exact q
    · repeat walk_at "sx"
      refine ⟨a, rfl, ⟨_, SqL.of ha⟩, ?_⟩
      refine for_list (xs := ns.map V.int) (fun i σ H' => H' = H ∧ ∃ kv, σ = [some (.ref a), some (.ref b), kv]) ⟨rfl, none, rfl⟩ (fun i σ H' _ p => by rw [p.1]; exact SqL.of ha) (fun i x σ H' hx p => ?_) (fun σ H' p => ?_)
      · obtain ⟨rfl, kv, rfl⟩ := p
        have hx0 := int_map_inv hx
        clear hx
        obtain ⟨x, rfl, hx⟩ := hx0
        repeat walk_at "sx"
        refine ⟨x, rfl, ?_⟩
        repeat walk_at "sx"
        refine r_iteN rfl ?_
        repeat walk_at "sx"
        exact ⟨rfl, _, rfl⟩
      · obtain ⟨rfl, kv, rfl⟩ := p
        repeat walk_at "sx"
        exact ⟨a, b, ns, ms, rfl, rfl, SqL.of ha, hb, q⟩
/-! #### l_truths -/
theorem sc_l_truths : FnScope ["found", "due", "part"] ["found", "due"] (defScope s_l_truths) := ⟨rfl, rfl, rfl, by decide +kernel, rfl, by decide +kernel, by decide +kernel⟩
theorem b_l_truths (T : Txt K mg t) : Binds K t.fd_l_truths ["found", "due"] [] := T.F_l_truths.binds fun _ _ _ _ _ _ us hl => by obtain ⟨_, _, rfl⟩ := len_2 hl; rfl
def sp_l_truths (K : PySem.W.Frag) : Sp := fun vs H Q _ => ∃ (a b : Addr) (ns : List Bool), vs = [.ref a, .ref b] ∧ H a = some (.lst (ns.map V.bl)) ∧ SqL K H b (ns.map V.bl) ∧ Q (.bl true) H
theorem ok_l_truths (T : Txt K mg t) : FnOk P w K mg base CX0 1 t.f_l_truths t.fd_l_truths ["found", "due"] (sp_l_truths K) := by
  refine T.F_l_truths.ok sc_l_truths (fun vs H Q E h => ?_) (fun cdv A outer s H vs Q E hr h => ?_)
  · obtain ⟨a, b, ns, rfl, _⟩ := h
    rfl
  · obtain ⟨a, b, ns, rfl, ha, hb, q⟩ := h
    refine ⟨_, pss_cons (ps_if (PW.pt (pw_or (pt_not (pt_val (pe_callB (call_isinstK K) rfl T.m_isinstance boot_isinstance (pa_cons (pv 0) (pa_cons (pe_bltn (v := .ty "list") rfl T.m_list boot_list rfl) (pa_nil)))))) (pw_or1 (pt_cmpR op_ne (pe_callB (call_len_seqK K) rfl T.m_len PySem.boot_len (pa_cons (pv 0) (pa_nil))) (pe_callB (call_len_seqK K) rfl T.m_len PySem.boot_len (pa_cons (pv 1) (pa_nil))) (nomark _)))))
 (pss_one (ps_ret (pe_bl)))
 (pss_nil))
 (pss_cons (ps_for PassesOwn.never rfl (pi_listK K (pv 0)) (pg_name (i := 2) sc_l_truths.nd rfl (Or.inl rfl))
 (pss_one (ps_if (pt_not (pt_val (pe_callB (call_isinstK K) rfl T.m_isinstance boot_isinstance (pa_cons (pv 2) (pa_cons (pe_bltn (v := .ty "bool") rfl T.m_bool boot_bool rfl) (pa_nil))))))
 (pss_one (ps_ret (pe_bl)))
 (pss_nil))))
 (pss_one (ps_ret (pe_cmpR (op_eqDK K hr.units) (pv 0) (pv 1) (nomark _))))), ?_⟩
    repeat walk_at "sx"
    refine ⟨_, _, _, _, true, rfl, .lst ha, rfl, rfl, ?_⟩
    repeat walk_at "sx"
    refine r_iteN rfl ?_
    repeat walk_at "sx"
    refine ⟨a, _, rfl, .inl (SqL.of ha), ?_⟩
    repeat walk_at "sx"
    refine ⟨b, _, rfl, .inl hb, ?_⟩
    refine r_ne rfl ?_
    repeat walk_at "sx"
    refine r_iteN (by simp) ?_
    repeat walk_at "sx"
    refine ⟨a, rfl, ⟨_, SqL.of ha⟩, ?_⟩
    refine for_list (xs := ns.map V.bl) (fun i σ H' => H' = H ∧ ∃ kv, σ = [some (.ref a), some (.ref b), kv]) ⟨rfl, none, rfl⟩ (fun i σ H' _ p => by rw [p.1]; exact SqL.of ha) (fun i x σ H' hx p => ?_) (fun σ H' p => ?_)
    · obtain ⟨rfl, kv, rfl⟩ := p
      have hx0 := bl_map_inv hx
      clear hx
      obtain ⟨x, rfl, hx⟩ := hx0
      repeat walk_at "sx"
      refine ⟨_, _, _, _, true, rfl, .bl x, rfl, rfl, ?_⟩
      repeat walk_at "sx"
      refine r_iteN rfl ?_
      repeat walk_at "sx"
      exact ⟨rfl, _, rfl⟩
    · obtain ⟨rfl, kv, rfl⟩ := p
      repeat walk_at "sx"
      refine ⟨_, _, .lst (SqL.of ha) (dts_bl K _ ns), .lst hb (dts_bl K _ ns), shaped_bl ns, shaped_bl ns, ?_⟩
      have e : PyData.eqv (.list (ns.map PyData.bool)) (.list (ns.map PyData.bool)) = true := by simp [PyData.eqv, eqv_bl]
      rw [e]
      exact q
/-! #### l_house_is -/
theorem sc_l_house_is : FnScope ["found", "doors", "ways", "lamps", "k"] ["found", "doors", "ways", "lamps"] (defScope s_l_house_is) := ⟨rfl, rfl, rfl, by decide +kernel, rfl, by decide +kernel, by decide +kernel⟩
theorem b_l_house_is (T : Txt K mg t) : Binds K t.fd_l_house_is ["found", "doors", "ways", "lamps"] [] := T.F_l_house_is.binds fun _ _ _ _ _ _ us hl => by obtain ⟨_, _, _, _, rfl⟩ := len_4 hl; rfl
def sp_l_house_is (K : PySem.W.Frag) (C : Addr) : Sp := fun vs H Q _ => ∃ (p : Addr) (d : Int) (aw : Addr) (rs : List Addr) (rss : List (List Int)) (al : Addr) (ls : List Bool) (a2 : Addr) (rs2 : List Addr) (l2 : Addr), vs = [.ref p, .int d, .ref a2, .ref l2] ∧ HouseAt C H p d aw rs rss al ls ∧ Mat H a2 rs2 rss ∧ SqL K H l2 (ls.map V.bl) ∧ rss.length ≤ 1000 ∧ Q (.bl true) H
theorem ok_l_house_is (T : Txt K mg t) : FnOk P w K mg base CX0 3 t.f_l_house_is t.fd_l_house_is ["found", "doors", "ways", "lamps"] (sp_l_house_is K t.C_House) := by
  refine T.F_l_house_is.ok sc_l_house_is (fun vs H Q E h => ?_) (fun cdv A outer s H vs Q E hr h => ?_)
  · obtain ⟨p, d, aw, rs, rss, al, ls, a2, rs2, l2, rfl, _⟩ := h
    rfl
  · obtain ⟨p, d, aw, rs, rss, al, ls, a2, rs2, l2, rfl, hh, M2, hL2, hlen, q⟩ := h
    obtain ⟨dx, ho⟩ := hh.ob
    have e1 : (rs.map V.ref).length = rss.length := by rw [List.length_map, hh.ways.len]
    have e2 : (rs2.map V.ref).length = rss.length := by rw [List.length_map, M2.len]
    refine ⟨_, pss_cons (ps_if (PW.pt (pw_or (pt_not (pt_val (pe_callB (call_isinstK K) rfl T.m_isinstance boot_isinstance (pa_cons (pv 0) (pa_cons (pe_glob (v := .ref _) rfl T.mg_House rfl) (pa_nil)))))) (pw_or (pt_not (pt_val (pe_call (ok_l_whole T) (hr.mono (by decide)) rfl T.mg_l_whole T.F_l_whole.kp (b_l_whole T) .nil pass0 (pa_cons (pe_fldK K (pv 0) rfl) (pa_nil))))) (pw_or1 (pt_cmpR op_ne (pe_fldK K (pv 0) rfl) (pv 1) (nomark _))))))
 (pss_one (ps_ret (pe_bl)))
 (pss_nil))
 (pss_cons (ps_if (PW.pt (pw_or (pt_not (pt_val (pe_callB (call_isinstK K) rfl T.m_isinstance boot_isinstance (pa_cons (pe_fldK K (pv 0) rfl) (pa_cons (pe_bltn (v := .ty "list") rfl T.m_list boot_list rfl) (pa_nil)))))) (pw_or1 (pt_cmpR op_ne (pe_callB (call_len_seqK K) rfl T.m_len PySem.boot_len (pa_cons (pe_fldK K (pv 0) rfl) (pa_nil))) (pe_callB (call_len_seqK K) rfl T.m_len PySem.boot_len (pa_cons (pv 2) (pa_nil))) (nomark _)))))
 (pss_one (ps_ret (pe_bl)))
 (pss_nil))
 (pss_cons (ps_for PassesOwn.never rfl (pi_range1 rfl T.m_range (pa_cons (pe_callB (call_len_seqK K) rfl T.m_len PySem.boot_len (pa_cons (pv 2) (pa_nil))) (pa_nil))) (pg_name (i := 4) sc_l_house_is.nd rfl (Or.inl rfl))
 (pss_one (ps_if (pt_not (pt_val (pe_call (ok_l_numbers T) (hr.mono (by decide)) rfl T.mg_l_numbers T.F_l_numbers.kp (b_l_numbers T) .nil pass0 (pa_cons (pe_ix (ix_listK K) (pe_fldK K (pv 0) rfl) (pv 4) (fun _ _ => rfl)) (pa_cons (pe_ix (ix_listK K) (pv 2) (pv 4) (fun _ _ => rfl)) (pa_nil))))))
 (pss_one (ps_ret (pe_bl)))
 (pss_nil))))
 (pss_one (ps_ret (pe_call (ok_l_truths T) (hr.mono (by decide)) rfl T.mg_l_truths T.F_l_truths.kp (b_l_truths T) .nil pass0 (pa_cons (pe_fldK K (pv 0) rfl) (pa_cons (pv 3) (pa_nil)))))))), ?_⟩
    repeat walk_at "sx"
    refine ⟨_, _, _, _, true, rfl, .ins ho T.cl_House T.tc_House T.tg T.tt T.tm_House, rfl, ?_, ?_⟩
    · unfold PySem.W.kitOne; rw [if_pos (beq_self_eq_true _)]
    repeat walk_at "sx"
    refine r_iteN rfl ?_
    repeat walk_at "sx"
    refine ⟨_, rfl, p, _, dx, _, _, rfl, ho, T.cl_House, T.na_House_doors, hfs_doors _ _ _, ?_⟩
    repeat walk_at "sx"
    refine ⟨d, rfl, ?_⟩
    repeat walk_at "sx"
    refine r_iteN rfl ?_
    repeat walk_at "sx"
    refine ⟨_, rfl, p, _, dx, _, _, rfl, ho, T.cl_House, T.na_House_doors, hfs_doors _ _ _, ?_⟩
    repeat walk_at "sx"
    refine r_ne rfl ?_
    repeat walk_at "sx"
    refine r_iteN (by simp) ?_
    repeat walk_at "sx"
    refine ⟨_, rfl, p, _, dx, _, _, rfl, ho, T.cl_House, T.na_House_ways, hfs_ways _ _ _, ?_⟩
    repeat walk_at "sx"
    refine ⟨_, _, _, _, true, rfl, .lst hh.ways.top, rfl, rfl, ?_⟩
    repeat walk_at "sx"
    refine r_iteN rfl ?_
    repeat walk_at "sx"
    refine ⟨_, rfl, p, _, dx, _, _, rfl, ho, T.cl_House, T.na_House_ways, hfs_ways _ _ _, ?_⟩
    repeat walk_at "sx"
    refine ⟨aw, _, rfl, .inl (SqL.of hh.ways.top), ?_⟩
    repeat walk_at "sx"
    refine ⟨a2, _, rfl, .inl (SqL.of M2.top), ?_⟩
    refine r_ne rfl ?_
    repeat walk_at "sx"
    refine r_iteN (by rw [e1, e2]; simp) ?_
    repeat walk_at "sx"
    refine ⟨a2, _, rfl, .inl (SqL.of M2.top), ?_⟩
    rw [e2]
    repeat walk_at "sx"
    refine ⟨_, rfl, by omega, by omega, ?_⟩
    refine for_range (fun i σ H' => H' = H ∧ ∃ kv, σ = [some (.ref p), some (.int d), some (.ref a2), some (.ref l2), kv]) ⟨rfl, none, rfl⟩ (fun i σ H' hi pp => ?_) (fun σ H' pp => ?_)
    · obtain ⟨rfl, kv, rfl⟩ := pp
      have hi' : i < rss.length := by omega
      have eg := List.getElem?_eq_getElem hi'
      obtain ⟨r1, _, x1, y1⟩ := hh.ways.get eg
      obtain ⟨r2, _, x2, y2⟩ := M2.get eg
      repeat walk_at "sx"
      refine ⟨_, rfl, p, _, dx, _, _, rfl, ho, T.cl_House, T.na_House_ways, hfs_ways _ _ _, ?_⟩
      repeat walk_at "sx"
      refine r_ixL (SqL.of hh.ways.top) (atI_get' (by omega) (by rw [show ((0 : Int) + (i : Int)).toNat = i by omega]; exact x1)) ?_
      repeat walk_at "sx"
      refine r_ixL (SqL.of M2.top) (atI_get' (by omega) (by rw [show ((0 : Int) + (i : Int)).toNat = i by omega]; exact x2)) ?_
      repeat walk_at "sx"
      refine ⟨r1, r2, _, _, rfl, y1, SqL.of y2, ?_⟩
      repeat walk_at "sx"
      refine r_iteN (by simp) ?_
      repeat walk_at "sx"
      exact ⟨rfl, _, rfl⟩
    · obtain ⟨rfl, kv, rfl⟩ := pp
      repeat walk_at "sx"
      refine ⟨_, rfl, p, _, dx, _, _, rfl, ho, T.cl_House, T.na_House_lamps, hfs_lamps _ _ _, ?_⟩
      repeat walk_at "sx"
      exact ⟨al, l2, ls, rfl, hh.lamps, hL2, q⟩
/-! #### l_stands_under -/
theorem sc_l_stands_under : FnScope ["e"] ["e"] (defScope s_l_stands_under) := ⟨rfl, rfl, rfl, by decide +kernel, rfl, by decide +kernel, by decide +kernel⟩
theorem b_l_stands_under (T : Txt K mg t) : Binds K t.fd_l_stands_under ["e"] [] := T.F_l_stands_under.binds fun _ _ _ _ _ _ us hl => by obtain ⟨_, rfl⟩ := len_1 hl; rfl
def sp_l_stands_under (K : PySem.W.Frag) (CH : Addr) : Sp := fun vs H Q _ => ∃ (ea C : Addr) (x : Str), vs = [.ref ea] ∧ H ea = some (.ext (ExcAt ea C)) ∧ ExcK K x C ∧ PySem.W.kitOne K (.ref C) (.ref CH) = some true ∧ PySem.W.kitOne K (.ref C) (.type "ValueError") = some true ∧ Q (.bl true) H
theorem ok_l_stands_under (T : Txt K mg t) : FnOkH P w K mg base CX0 1 t.f_l_stands_under t.fd_l_stands_under ["e"] (sp_l_stands_under K t.C_HouseError) := by
  refine T.F_l_stands_under.okH sc_l_stands_under (fun vs H Q E h => ?_) (fun cdv A outer s H vs Q E hr h => ?_)
  · obtain ⟨ea, C, x, rfl, _⟩ := h
    rfl
  · obtain ⟨ea, C, x, rfl, he, O, k1, k2, q⟩ := h
    refine ⟨_, pss_one (ps_ret (pe_and (pe_callB (call_isinstX K) rfl T.m_isinstance boot_isinstance (pa_cons (pv 0) (pa_cons (pe_glob (v := .ref _) rfl T.mg_HouseError rfl) (pa_nil)))) (pe_one (pe_callB (call_isinstX K) rfl T.m_isinstance boot_isinstance (pa_cons (pv 0) (pa_cons (pe_bltn (v := .ty "ValueError") (u := .type "ValueError") rfl T.m_ValueError (by decide +kernel) rfl) (pa_nil))))))), ?_⟩
    repeat walk_at "sx"
    refine ⟨ea, C, x, _, _, true, rfl, he, O, rfl, k1, ?_⟩
    repeat walk_at "sx"
    refine r_iteP rfl ?_
    repeat walk_at "sx"
    exact ⟨ea, C, x, _, _, true, rfl, he, O, rfl, k2, q⟩
/-! #### l_refused -/
theorem sc_l_refused : FnScope ["text", "name", "under", "e"] ["text"] (defScope s_l_refused) := ⟨rfl, rfl, rfl, by decide +kernel, rfl, by decide +kernel, by decide +kernel⟩
theorem b_l_refused (T : Txt K mg t) : Binds K t.fd_l_refused ["text"] [] := T.F_l_refused.binds fun _ _ _ _ _ _ us hl => by obtain ⟨_, rfl⟩ := len_1 hl; rfl
def sp_l_refused (K : PySem.W.Frag) (C : Addr) : Sp := fun vs H Q _ => ∃ x : Str, vs = [.str x] ∧ SizeT x ∧ Bad x ∧ ∀ H', Same H H' → Q (.bl true) H'
theorem ok_l_refused (T : Txt K mg t) : FnOk P w K mg base CX0 6 t.f_l_refused t.fd_l_refused ["text"] (sp_l_refused K t.C_House) := by
  refine T.F_l_refused.ok sc_l_refused (fun vs H Q E h => ?_) (fun cdv A outer s H vs Q E hr h => ?_)
  · obtain ⟨x, rfl, _⟩ := h
    rfl
  · obtain ⟨x, rfl, sz, bad, q⟩ := h
    obtain ⟨z1, z2⟩ := size_rows sz
    refine ⟨_, pss_cons (ps_set (i := 1) sc_l_refused.nd rfl (Or.inl rfl) (pe_str))
 (pss_cons (ps_set (i := 2) sc_l_refused.nd rfl (Or.inl rfl) (pe_bl))
 (pss_cons (ps_try (i := 3) rfl rfl rfl T.mg_BadText T.ex_BadText sc_l_refused.nd rfl rfl (fun _ _ _ xp => pss_one (ps_expr (pe_call (ok_read T) (hr.mono (by decide)) rfl T.mg_read T.F_read.kp (b_read T) .nil xp.pass (pa_cons (pv 0) (pa_nil)))))
 (fun _ _ => pss_cons (ps_set (i := 1) sc_l_refused.nd rfl (Or.inl rfl) (pe_str))
 (pss_one (ps_set (i := 2) sc_l_refused.nd rfl (Or.inl rfl) (pe_and (pe_callH (ok_l_stands_under T) (roomH hr (by decide)) rfl T.mg_l_stands_under T.F_l_stands_under.kp (b_l_stands_under T) .nil pass0 (pa_cons (pv 3) (pa_nil))) (pe_one (pe_not (pe_callB (call_isinstXT K) rfl T.m_isinstance boot_isinstance (pa_cons (pv 3) (pa_cons (pe_tup (pa_cons (pe_glob (v := .ref _) rfl T.mg_BadHouse rfl) (pa_cons (pe_glob (v := .ref _) rfl T.mg_BadWord rfl) (pa_nil)))) (pa_nil)))))))))))
 (pss_one (ps_ret (pe_and (pe_cmpR op_eq (pv 1) (pe_str) (nomark _)) (pe_one (pv 2))))))), ?_⟩
    repeat walk_at "sx"
    refine ⟨x, rfl, sz.1, z1, z2, fun d rss ls Vd e => absurd e (bad d rss ls Vd), fun _ H0 s0 => ⟨rfl, fun ea hea => ?_⟩⟩
    have hs0 : Same H0 (upd H0 ea (.ext (ExcAt ea t.C_BadText))) := Same.upd_new hea
    have he1 : (upd H0 ea (.ext (ExcAt ea t.C_BadText))) ea = some (.ext (ExcAt ea t.C_BadText)) := upd_same
    generalize upd H0 ea (.ext (ExcAt ea t.C_BadText)) = H1 at hs0 he1 ⊢
    repeat walk_at "sx"
    refine ⟨ea, _, _, rfl, he1, T.ex_BadText, kit_sub (Ne.symm (ne_mro T.ms_HouseError T.mr_HouseError_BadText)) T.cl_HouseError T.ty_HouseError T.mr_BadText_HouseError, kit_val T.mv_BadText, ?_⟩
    repeat walk_at "sx"
    refine r_iteP rfl ?_
    repeat walk_at "sx"
    refine ⟨by show 2 ≤ sizeLine; decide, fun tp htp => ?_⟩
    have hs2 : Same H1 (upd H1 tp (.tup [.ref t.C_BadHouse, .ref t.C_BadWord])) := Same.upd_new htp
    refine ⟨ea, _, _, tp, [t.C_BadHouse, t.C_BadWord], false, rfl, hs2 _ _ he1, T.ex_BadText, upd_same, ?_, ?_⟩
    · have n1 := kit_sub (ne_mro T.ms_BadText T.mr_BadText_BadHouse) T.cl_BadHouse T.ty_BadHouse T.mr_BadText_BadHouse
      have n2 := kit_sub (ne_mro T.ms_BadText T.mr_BadText_BadWord) T.cl_BadWord T.ty_BadWord T.mr_BadText_BadWord
      show PySem.W.kitAny K _ [.ref _, .ref _] = _
      simp only [PySem.W.kitAny, n1, n2]
    generalize upd H1 tp (.tup [.ref t.C_BadHouse, .ref t.C_BadWord]) = H2 at hs2 ⊢
    repeat walk_at "sx"
    refine r_eq rfl ?_
    repeat walk_at "sx"
    refine r_iteP (by simp) ?_
    repeat walk_at "sx"
    exact q _ (s0.trans (hs0.trans hs2))
/-! #### l_odd_number -/
theorem sc_l_odd_number : FnScope ["cell", "figures", "rooms", "some"] ["cell", "figures", "rooms"] (defScope s_l_odd_number) := ⟨rfl, rfl, rfl, by decide +kernel, rfl, by decide +kernel, by decide +kernel⟩
theorem b_l_odd_number (T : Txt K mg t) : Binds K t.fd_l_odd_number ["cell", "figures", "rooms"] [] := T.F_l_odd_number.binds fun _ _ _ _ _ _ us hl => by obtain ⟨_, _, _, rfl⟩ := len_3 hl; rfl
theorem e_o0 : ("0" : Str) = c0 := by decide +kernel
theorem e_o1 : ("00" : Str) = ⟨#[48, 48]⟩ := by decide +kernel
theorem e_o2 : ("+" : Str) = ⟨#[43]⟩ := by decide +kernel
theorem e_o3 : ("-1" : Str) = ⟨#[45, 49]⟩ := by decide +kernel
theorem e_o4 : ("a" : Str) = ⟨#[97]⟩ := by decide +kernel
theorem e_o6 : ("" : Str) = ⟨#[]⟩ := by decide +kernel
theorem e_o8 : ("400" : Str) = ⟨#[52, 48, 48]⟩ := by decide +kernel
theorem e_o9 : ("4000" : Str) = ⟨#[52, 48, 48, 48]⟩ := by decide +kernel
theorem e_oa : ("." : Str) = ⟨#[46]⟩ := by decide +kernel
theorem e_ob : ("9" : Str) = ⟨#[57]⟩ := by decide +kernel
theorem e_oc : ("0x1" : Str) = ⟨#[48, 120, 49]⟩ := by decide +kernel
theorem e_od : ("1_0" : Str) = ⟨#[49, 95, 48]⟩ := by decide +kernel
def sp_l_odd_number (K : PySem.W.Frag) : Sp := fun vs H Q _ => ∃ (c w r : Int), vs = [.int c, .str (numS w), .int r] ∧ 0 ≤ w ∧ w < r ∧ r ≤ 15 ∧ ∀ H' x (n : Nat), Same H H' → 4 ≤ n → n ≤ 4400 → x ∈ oddS w r n → Q (.str x) H'
theorem ok_l_odd_number (T : Txt K mg t) : FnOk P w K mg base CX0 1 t.f_l_odd_number t.fd_l_odd_number ["cell", "figures", "rooms"] (sp_l_odd_number K) := by
  refine T.F_l_odd_number.ok sc_l_odd_number (fun vs H Q E h => ?_) (fun cdv A outer s H vs Q E hr h => ?_)
  · obtain ⟨c, w, r, rfl, _⟩ := h
    rfl
  · obtain ⟨c, wd, r, rfl, w0, w1, r15, q⟩ := h
    have big : ∀ n : Nat, n ≤ 30000 → n ≤ sizeLine := fun n h => Nat.le_trans h (by decide)
    have hwl := num_len w0 (by omega)
    refine ⟨_, pss_cons (ps_set (i := 3) sc_l_odd_number.nd rfl (Or.inl rfl) (pe_lst (pa_cons (pe_op op_add_str (pe_str) (pv 1)) (pa_cons (pe_str) (pa_cons (pe_op op_add_str (pe_str) (pv 1)) (pa_cons (pe_str) (pa_cons (pe_op op_add_str (pv 1) (pe_str)) (pa_cons (pe_str) (pa_cons (pe_str) (pa_cons (pe_callTy call_str_int rfl T.m_str boot_str (pa_cons (pv 2) (pa_nil))) (pa_cons (pe_str) (pa_cons (pe_str) (pa_nil)))))))))))))
 (pss_cons (ps_set (i := 3) sc_l_odd_number.nd rfl (Or.inl rfl) (pe_op op_cat (pv 3) (pe_lst (pa_cons (pe_op op_add_str (pe_op op_add_str (pv 1) (pe_str)) (pv 1)) (pa_cons (pe_op op_repS (pe_str) (pe_op op_add (pe_int) (pe_op op_mod (pe_op op_fdiv (pv 0) (pe_int)) (pe_int)))) (pa_cons (pe_str) (pa_cons (pe_str) (pa_nil))))))))
 (pss_one (ps_ret (pe_ix (ix_listK K) (pv 3) (pe_op op_mod (pv 0) (pe_int)) (fun _ _ => rfl))))), ?_⟩
    repeat walk_at "sx"
    rw [e_o0]
    refine ⟨_, _, rfl, rfl, big _ (by show 1 + (numS wd).length ≤ _; omega), ?_⟩
    repeat walk_at "sx"
    rw [e_o2]
    refine ⟨_, _, rfl, rfl, big _ (by show 1 + (numS wd).length ≤ _; omega), ?_⟩
    repeat walk_at "sx"
    rw [e_o4]
    refine ⟨_, _, rfl, rfl, big _ (by show (numS wd).length + 1 ≤ _; omega), ?_⟩
    repeat walk_at "sx"
    refine ⟨_, rfl, Nat.lt_of_lt_of_le (small_log (by omega) (by omega)) (by decide), ?_⟩
    repeat walk_at "sx"
    refine ⟨by show 10 ≤ sizeLine; decide, fun l1 h1 => ?_⟩
    rw [e_o1, e_o3, e_o6, e_o8, e_o9]
    have s1 : Same H (upd H l1 (.lst ((oddS wd r 0).take 10 |>.map V.str))) := Same.upd_new h1
    have a1 : (upd H l1 (.lst ((oddS wd r 0).take 10 |>.map V.str))) l1 = some (.lst ((oddS wd r 0).take 10 |>.map V.str)) := upd_same
    rw [show [V.str (c0 ++ numS wd), V.str ⟨#[48, 48]⟩, V.str (⟨#[43]⟩ ++ numS wd), V.str ⟨#[45, 49]⟩, V.str (numS wd ++ ⟨#[97]⟩), V.str ⟨#[97]⟩, V.str ⟨#[]⟩, V.str (Str.ofString (toString r)), V.str ⟨#[52, 48, 48]⟩, V.str ⟨#[52, 48, 48, 48]⟩] = ((oddS wd r 0).take 10).map V.str from rfl]
    generalize upd H l1 (.lst ((oddS wd r 0).take 10 |>.map V.str)) = H1 at s1 a1 ⊢
    repeat walk_at "sx"
    rw [e_oa]
    refine ⟨_, _, rfl, rfl, big _ (by show (numS wd).length + 1 ≤ _; omega), ?_⟩
    repeat walk_at "sx"
    refine ⟨_, _, rfl, rfl, big _ (by rw [str_lapp]; show (numS wd).length + 1 + (numS wd).length ≤ _; omega), ?_⟩
    repeat walk_at "sx"
    rw [e_ob, e_oc, e_od]
    refine ⟨_, _, rfl, rfl, by omega, by omega, rfl, ?_⟩
    repeat walk_at "sx"
    refine ⟨by show 4 ≤ sizeLine; decide, fun l2 h2 => ?_⟩
    obtain ⟨n, hn⟩ : ∃ n : Nat, n = (4 + c / 14 % 4397).toNat := ⟨_, rfl⟩
    rw [← hn]
    have n4 : 4 ≤ n := by omega
    have n44 : n ≤ 4400 := by omega
    refine ⟨l1, l2, _, _, rfl, rfl, Same.upd_new h2 _ _ a1, upd_same, by show 14 ≤ sizeLine; decide, fun l3 h3 => ?_⟩
    rw [show ((oddS wd r 0).take 10).map V.str ++ [V.str (numS wd ++ ⟨#[46]⟩ ++ numS wd), V.str (repS ⟨#[57]⟩ n), V.str ⟨#[48, 120, 49]⟩, V.str ⟨#[49, 95, 48]⟩] = (oddS wd r n).map V.str from rfl]
    have s3 := (s1.trans (Same.upd_new h2)).trans (Same.upd_new (o := .lst ((oddS wd r n).map V.str)) h3)
    have a3 : (upd (upd H1 l2 (.lst [V.str (numS wd ++ ⟨#[46]⟩ ++ numS wd), V.str (repS ⟨#[57]⟩ n), V.str ⟨#[48, 120, 49]⟩, V.str ⟨#[49, 95, 48]⟩])) l3 (.lst ((oddS wd r n).map V.str))) l3 = some (.lst ((oddS wd r n).map V.str)) := upd_same
    generalize upd (upd H1 l2 (.lst [V.str (numS wd ++ ⟨#[46]⟩ ++ numS wd), V.str (repS ⟨#[57]⟩ n), V.str ⟨#[48, 120, 49]⟩, V.str ⟨#[49, 95, 48]⟩])) l3 (.lst ((oddS wd r n).map V.str)) = H3 at s3 a3 ⊢
    repeat walk_at "sx"
    have hk : (c % 14).toNat < (oddS wd r n).length := by show _ < 14; omega
    have hg : ((oddS wd r n).map V.str)[(c % 14).toNat]? = some (V.str (oddS wd r n)[(c % 14).toNat]) := by rw [List.getElem?_map, List.getElem?_eq_getElem hk]; rfl
    rw [← Int.toNat_of_nonneg (show 0 ≤ c % 14 by omega)]
    refine r_ixL (SqL.of a3) (atI_nat hg) ?_
    repeat walk_at "sx"
    exact q H3 _ n s3 n4 n44 (List.getElem_mem hk)
/-! #### l_text_of -/
theorem sc_l_text_of : FnScope ["doors", "ways", "lamps", "rows", "k"] ["doors", "ways", "lamps"] (defScope s_l_text_of) := ⟨rfl, rfl, rfl, by decide +kernel, rfl, by decide +kernel, by decide +kernel⟩
theorem b_l_text_of (T : Txt K mg t) : Binds K t.fd_l_text_of ["doors", "ways", "lamps"] [] := T.F_l_text_of.binds fun _ _ _ _ _ _ us hl => by obtain ⟨_, _, _, rfl⟩ := len_3 hl; rfl
/-- rows of texts -/
structure Grid (H : Hp) (ra : Addr) (rs : List Addr) (g : List (List Str)) : Prop where
  top : H ra = some (.lst (rs.map V.ref))
  row : LsAt V.str H rs g
  nd : rs.Nodup
  out : ra ∉ rs
theorem Grid.same {H H' : Hp} {ra : Addr} {rs : List Addr} {g : List (List Str)} (G : Grid H ra rs g) (s : Same H H') : Grid H' ra rs g :=
  ⟨s _ _ G.top, ⟨G.row.len, fun i a r h1 h2 => s _ _ (G.row.row i a r h1 h2)⟩, G.nd, G.out⟩
theorem Grid.add {H H' : Hp} {ra : Addr} {rs : List Addr} {g : List (List Str)} (G : Grid H ra rs g) {b : Addr} {r : List Str} (hb : H b = none) (ht : H' ra = some (.lst ((rs ++ [b]).map V.ref))) (hr : H' b = some (.lst (r.map V.str))) (k : ∀ c o, c ≠ ra → H c = some o → H' c = some o) : Grid H' ra (rs ++ [b]) (g ++ [r]) := by
  have al : ∀ a ∈ rs, ∃ o, H a = some o := fun a ha => by
    obtain ⟨i, hi⟩ := List.getElem?_of_mem ha
    have hl : i < g.length := by rw [← G.row.len]; exact (List.getElem?_eq_some_iff.mp hi).1
    exact ⟨_, G.row.row i a _ hi (List.getElem?_eq_getElem hl)⟩
  have nb : b ∉ rs := fun z => by obtain ⟨o, e⟩ := al b z; rw [hb] at e; cases e
  have nab : ra ≠ b := fun z => by rw [← z, G.top] at hb; cases hb
  refine ⟨ht, ⟨by simp [G.row.len], fun i a q h1 h2 => ?_⟩, ?_, fun z => ?_⟩
  · by_cases hi : i < rs.length
    · rw [List.getElem?_append_left hi] at h1
      rw [List.getElem?_append_left (by rw [← G.row.len]; exact hi)] at h2
      exact k _ _ (fun z => G.out (z ▸ List.mem_of_getElem? h1)) (G.row.row i a q h1 h2)
    · have := (List.getElem?_eq_some_iff.mp h1).1
      rw [List.length_append, List.length_singleton] at this
      have ei : i = rs.length := by omega
      subst ei
      rw [List.getElem?_append_right (Nat.le_refl _), Nat.sub_self] at h1
      rw [G.row.len, List.getElem?_append_right (Nat.le_refl _), Nat.sub_self] at h2
      cases h1; cases h2
      exact hr
  · rw [List.nodup_append]
    exact ⟨G.nd, by simp, fun x hx y hy e => nb (by rw [← List.mem_singleton.mp hy, ← e]; exact hx)⟩
  · rcases List.mem_append.mp z with z | z
    · exact G.out z
    · exact nab (List.mem_singleton.mp z)
theorem grid_succ {d : Int} {ls : List Bool} {rss : List (List Int)} {k : Nat} {b : Bool} {ws : List Int} (h1 : ls[k]? = some b) (h2 : rss[k]? = some ws) : gridOf d (rss.take (k + 1)) (ls.take (k + 1)) = gridOf d (rss.take k) (ls.take k) ++ [partsS b ws] := by
  unfold gridOf
  rw [take_snocT h1, take_snocT h2, List.zipWith_append (by
    have g1 := (List.getElem?_eq_some_iff.mp h1).1
    have g2 := (List.getElem?_eq_some_iff.mp h2).1
    rw [List.length_take, List.length_take]; omega)]
  rfl
theorem e_dW : ("doors" : Str) = dW := by decide +kernel
def sp_l_text_of (K : PySem.W.Frag) : Sp := fun vs H Q _ => ∃ (d : Int) (aw : Addr) (rs : List Addr) (rss : List (List Int)) (al : Addr) (ls : List Bool), vs = [.int d, .ref aw, .ref al] ∧ Mat H aw rs rss ∧ H al = some (.lst (ls.map V.bl)) ∧ Valid d rss ls ∧
  ∀ H' ra rs', Same H H' → Grid H' ra rs' (gridOf d rss ls) → (∀ b ∈ ra :: rs', H b = none) → Q (.ref ra) H'
theorem ok_l_text_of (T : Txt K mg t) : FnOk P w K mg base CX0 1 t.f_l_text_of t.fd_l_text_of ["doors", "ways", "lamps"] (sp_l_text_of K) := by
  refine T.F_l_text_of.ok sc_l_text_of (fun vs H Q E h => ?_) (fun cdv A outer s H vs Q E hr h => ?_)
  · obtain ⟨d, aw, rs, rss, al, ls, rfl, _⟩ := h
    rfl
  · obtain ⟨d, aw, rs, rss, al, ls, rfl, M, hL, Vd, q⟩ := h
    have hd0 : 0 ≤ d := Int.le_trans (by decide) Vd.d1
    have hd4 : d < 400 := by have := Vd.d6; omega
    have hr4 := Vd.r400
    have hll := Vd.ll
    have h400 := valid_400 Vd
    have hlen : (rs.map V.ref).length = rss.length := by rw [List.length_map, M.len]
    have slog : ∀ x : Int, 0 ≤ x → x < 400 → x.natAbs.log2 < 1920 := fun x h1 h2 => Nat.lt_of_lt_of_le (small_log (by omega) (by omega)) (by decide)
    refine ⟨_, pss_cons (ps_set (i := 3) sc_l_text_of.nd rfl (Or.inl rfl) (pe_lst (pa_cons (pe_lst (pa_cons (pe_str) (pa_cons (pe_callTy call_str_int rfl T.m_str boot_str (pa_cons (pv 0) (pa_nil))) (pa_nil)))) (pa_nil) star_lst)))
 (pss_cons (ps_for PassesOwn.never rfl (pi_range1 rfl T.m_range (pa_cons (pe_callB (call_len_seqK K) rfl T.m_len PySem.boot_len (pa_cons (pv 1) (pa_nil))) (pa_nil))) (pg_name (i := 4) sc_l_text_of.nd rfl (Or.inl rfl))
 (pss_one (ps_expr (pe_bmK K PySem.F.plainAttrs_list PySem.F.slot_list_append PySem.F.type_list_append mt_append (pv 3) (pa_cons (pe_op op_cat (pe_lst (pa_cons (pe_ix (ix_listK K) (pe_lst (pa_cons (pe_str) (pa_cons (pe_str) (pa_nil)))) (pe_callTy call_int1 rfl T.m_int boot_int (pa_cons (pe_ix (ix_listK K) (pv 2) (pv 4) (fun _ _ => rfl)) (pa_nil))) (fun _ _ => rfl)) (pa_nil))) (pe_comp (N := ["doors", "ways", "lamps", "rows", "k"]) (sc0 := (defScope s_l_text_of)) (N' := ["to"]) (caps := [none]) (by exact ⟨rfl, by decide +kernel, by decide +kernel, by decide +kernel, rfl, rfl, by decide +kernel⟩) rfl (pi_listK K (pe_ix (ix_listK K) (pv 1) (pv 4) (fun _ _ => rfl))) (fun _ _ _ _ _ _ => pg_name (i := 0) (show List.Nodup (["to"] : List Str) from by decide +kernel) rfl (Or.inl rfl)) (fun _ _ _ _ _ _ => pe_callTy call_str_int rfl T.m_str boot_str (pa_cons (pv 0) (pa_nil))))) (pa_nil))))))
 (pss_one (ps_ret (pv 3)))), ?_⟩
    repeat walk_at "sx"
    refine ⟨_, rfl, slog d hd0 hd4, ?_⟩
    repeat walk_at "sx"
    rw [e_dW]
    refine ⟨by show 2 ≤ sizeLine; decide, fun r0 hr0 => ?_⟩
    rw [show [V.str dW, V.str (Str.ofString (toString d))] = [dW, numS d].map V.str from rfl]
    have s0 : Same H (upd H r0 (.lst ([dW, numS d].map V.str))) := Same.upd_new hr0
    have a0 : (upd H r0 (.lst ([dW, numS d].map V.str))) r0 = some (.lst ([dW, numS d].map V.str)) := upd_same
    generalize upd H r0 (.lst ([dW, numS d].map V.str)) = H0 at s0 a0 ⊢
    repeat walk_at "sx"
    refine ⟨by show 1 ≤ sizeLine; decide, fun ra hra => ?_⟩
    have hra' : H ra = none := s0.free hra
    have s1 : Same H (upd H0 ra (.lst [.ref r0])) := s0.trans (Same.upd_new hra)
    have G1 : Grid (upd H0 ra (.lst [.ref r0])) ra [r0] (gridOf d (rss.take 0) (ls.take 0)) := ⟨upd_same, ⟨by simp [gridOf], fun i a r h1 h2 => by
      cases i with
      | zero => cases h1; cases h2; exact Same.upd_new hra _ _ a0
      | succ i => simp at h1⟩, by simp, fun z => by rw [List.mem_singleton.mp z, a0] at hra; cases hra⟩
    generalize upd H0 ra (.lst [.ref r0]) = H1 at s1 G1 ⊢
    repeat walk_at "sx"
    refine ⟨aw, _, rfl, .inl (SqL.of (s1 _ _ M.top)), ?_⟩
    rw [hlen]
    repeat walk_at "sx"
    refine ⟨_, rfl, by omega, by omega, ?_⟩
    refine for_range (fun k σ H' => ∃ rs', Same H H' ∧ Grid H' ra rs' (gridOf d (rss.take k) (ls.take k)) ∧ (∀ b ∈ ra :: rs', H b = none) ∧ ∃ k4, σ = [some (.int d), some (.ref aw), some (.ref al), some (.ref ra), k4]) ⟨[r0], s1, G1, fun b hb => by
      rcases List.mem_cons.mp hb with rfl | hb
      · exact hra'
      · rw [List.mem_singleton.mp hb]; exact hr0, _, rfl⟩ (fun k σ H' hk pp => ?_) (fun σ H' pp => ?_)
    · obtain ⟨rs', s2, G2, new2, k4, rfl⟩ := pp
      have e0 : (0 : Int) + (k : Int) = (k : Int) := by omega
      rw [e0]
      have hkr : k < rss.length := by omega
      have hkl : k < ls.length := by omega
      have hr := List.getElem?_eq_getElem hkr
      have hl := List.getElem?_eq_getElem hkl
      have hwx := h400 _ (List.getElem_mem hkr)
      have hw6 : (rss[k]).length ≤ 6 := by have h1 := (Vd.row _ (List.getElem_mem hkr)).1; have h6 := Vd.d6; omega
      obtain ⟨rr, _, hr2, hr3⟩ := M.get hr
      rw [grid_succ hl hr]
      have hrs : rs'.length ≤ 500 := by
        rw [G2.row.len]; unfold gridOf; rw [List.length_cons, List.length_zipWith, List.length_take, List.length_take]; omega
      generalize gridOf d (rss.take k) (ls.take k) = g at G2 ⊢
      generalize ls[k] = b at hl ⊢
      generalize rss[k] = ws at hr hr3 hwx hw6 ⊢
      repeat walk_at "sx"
      refine ⟨.inl ⟨rfl, _, SqL.of G2.top⟩, ?_⟩
      repeat walk_at "sx"
      rw [e_dark, e_lit]
      refine ⟨by show 2 ≤ sizeLine; decide, fun l1 h1 => ?_⟩
      have s3 : Same H' (upd H' l1 (.lst [.str darkT, .str litT])) := Same.upd_new h1
      have a3 : (upd H' l1 (.lst [.str darkT, .str litT])) l1 = some (.lst [.str darkT, .str litT]) := upd_same
      generalize upd H' l1 (.lst [.str darkT, .str litT]) = H3 at s3 a3 ⊢
      repeat walk_at "sx"
      refine r_ixL (SqL.of (s3 _ _ (s2 _ _ hL))) (atI_nat (j := k) (bl_map_get hl)) ?_
      repeat walk_at "sx"
      refine .inr ⟨b, rfl, ?_⟩
      refine r_ixL (SqL.of a3) (v := .str (lampS b)) (by cases b <;> rfl) ?_
      repeat walk_at "sx"
      refine ⟨by show 1 ≤ sizeLine; decide, fun l2 h2 => ?_⟩
      have s4 : Same H' (upd H3 l2 (.lst [.str (lampS b)])) := s3.trans (Same.upd_new h2)
      have a4 : (upd H3 l2 (.lst [.str (lampS b)])) l2 = some (.lst [.str (lampS b)]) := upd_same
      generalize upd H3 l2 (.lst [.str (lampS b)]) = H4 at s4 a4 ⊢
      repeat walk_at "sx"
      refine r_ixL (SqL.of (s4 _ _ (s2 _ _ M.top))) (atI_nat (j := k) hr2) ?_
      repeat walk_at "sx"
      have hrow4 := s4 _ _ (s2 _ _ hr3)
      refine ⟨rr, rfl, ⟨_, SqL.of hrow4⟩, ?_⟩
      refine comp_list (xs := ws.map V.int) (fun acc i ys H' => H' = upd H4 acc (.lst ys) ∧ ys = ((ws.take i).map numS).map V.str) (fun acc hacc => ⟨rfl, rfl⟩) (fun acc i ys H' hacc _ pp => by rw [pp.1]; exact SqL.of (Same.upd_new hacc _ _ hrow4)) (fun acc i x ys H' hacc hx pp => ?_) (fun acc ys H' hacc pp => ?_)
      · obtain ⟨rfl, rfl⟩ := pp
        have hx0 := int_map_inv hx
        clear hx
        obtain ⟨x, rfl, hx⟩ := hx0
        obtain ⟨x0, x1⟩ := hwx x (List.mem_of_getElem? hx)
        repeat walk_at "sx"
        refine ⟨Wk.set rfl, ?_⟩
        repeat walk_at "sx"
        refine ⟨_, rfl, slog x x0 x1, ?_⟩
        refine ⟨upd_same, small1000 (by rw [List.length_map, List.length_map, List.length_take]; omega), ?_, ?_⟩
        · rw [upd_upd]
        · rw [take_snocT hx, List.map_append, List.map_append]; rfl
      · obtain ⟨rfl, rfl⟩ := pp
        rw [List.length_map, List.take_length]
        have s5 : Same H4 (upd H4 acc (.lst ((ws.map numS).map V.str))) := Same.upd_new hacc
        have a5 : (upd H4 acc (.lst ((ws.map numS).map V.str))) acc = some (.lst ((ws.map numS).map V.str)) := upd_same
        generalize upd H4 acc (.lst ((ws.map numS).map V.str)) = H5 at s5 a5 ⊢
        refine ⟨l2, acc, _, _, rfl, rfl, s5 _ _ a4, a5, Nat.le_trans (by rw [List.length_map, List.length_map]; show 1 + ws.length ≤ 30000; omega) (show 30000 ≤ sizeLine by decide), fun l3 h3 => ?_⟩
        rw [show [V.str (lampS b)] ++ (ws.map numS).map V.str = (partsS b ws).map V.str from rfl]
        have s6 : Same H' (upd H5 l3 (.lst ((partsS b ws).map V.str))) := (s4.trans s5).trans (Same.upd_new h3)
        have a6 : (upd H5 l3 (.lst ((partsS b ws).map V.str))) l3 = some (.lst ((partsS b ws).map V.str)) := upd_same
        have n6 : H' l3 = none := (s4.trans s5).free h3
        generalize upd H5 l3 (.lst ((partsS b ws).map V.str)) = H6 at s6 a6 ⊢
        have nra : l3 ≠ ra := fun z => by rw [z, G2.top] at n6; cases n6
        repeat walk_at "sx"
        refine ⟨ra, _, _, rfl, rfl, s6 _ _ G2.top, small1000 (by rw [List.length_map]; omega), ?_⟩
        have G7 : Grid (upd H6 ra (.lst (rs'.map V.ref ++ [.ref l3]))) ra (rs' ++ [l3]) (g ++ [partsS b ws]) := G2.add n6 (by rw [upd_same, List.map_append]; rfl) (by rw [upd_ne nra]; exact a6) (fun c o hc e => by rw [upd_ne hc]; exact s6 _ _ e)
        refine ⟨rs' ++ [l3], (s2.trans s6).upd_fresh hra', G7, fun c hc => ?_, _, rfl⟩
        rcases List.mem_cons.mp hc with rfl | hc
        · exact hra'
        · rcases List.mem_append.mp hc with hc | hc
          · exact new2 c (List.mem_cons_of_mem _ hc)
          · rw [List.mem_singleton.mp hc]; exact s2.free n6
    · obtain ⟨rs', s2, G2, new2, k4, rfl⟩ := pp
      rw [Int.toNat_natCast, List.take_length, ← hll, List.take_length] at G2
      repeat walk_at "sx"
      exact q _ _ _ s2 G2 new2
/-! #### law -/
theorem sc_law : FnScope ["script", "doors", "rooms", "ways", "lamps", "rows", "way", "cell", "at", "door", "text", "place", "some"] ["script"] (defScope s_law) := ⟨rfl, rfl, rfl, by decide +kernel, rfl, by decide +kernel, by decide +kernel⟩
theorem star_con {c : PySem.Const} {k : Nat} {p : PySem.Pos} {es : List PySem.Expr} {env : PySem.Env} : PySem.starEach (.Constant c k p :: es) env = (false, PySem.eval (.Constant c k p) env) :: PySem.starEach es env := rfl
theorem swaps_lst {es : List PySem.Expr} {p : PySem.Pos} {tg : Option PySem.Expr} {l : Nat} {env : PySem.Env} : PySem.swapsWith (.List es p) tg l env = pure false := rfl
theorem pe_s9 {X : Cx} {a0 a1 a2 a3 a4 a5 a6 a7 a8 : Str} {k0 k1 k2 k3 k4 k5 k6 k7 k8 : Nat} {p0 p1 p2 p3 p4 p5 p6 p7 p8 p : PySem.Pos} : PE X (.List [.Constant (.str a0) k0 p0, .Constant (.str a1) k1 p1, .Constant (.str a2) k2 p2, .Constant (.str a3) k3 p3, .Constant (.str a4) k4 p4, .Constant (.str a5) k5 p5, .Constant (.str a6) k6 p6, .Constant (.str a7) k7 p7, .Constant (.str a8) k8 p8] p) (tLst (tCons (tC (.str a0)) (tCons (tC (.str a1)) (tCons (tC (.str a2)) (tCons (tC (.str a3)) (tCons (tC (.str a4)) (tCons (tC (.str a5)) (tCons (tC (.str a6)) (tCons (tC (.str a7)) (tCons (tC (.str a8)) (tNil))))))))))) := pe_lst (pa_cons pe_str (pa_cons pe_str (pa_cons pe_str (pa_cons pe_str (pa_cons pe_str (pa_cons pe_str (pa_cons pe_str (pa_cons pe_str (pa_cons pe_str (pa_nil))))))))))
theorem Grid.set {H : Hp} {ra : Addr} {rs : List Addr} {g : List (List Str)} (G : Grid H ra rs g) {i : Nat} {b : Addr} (hb : rs[i]? = some b) (r : List Str) : Grid (upd H b (.lst (r.map V.str))) ra rs (g.set i r) := by
  have hn : ra ≠ b := fun z => G.out (z ▸ List.mem_of_getElem? hb)
  refine ⟨by rw [upd_ne hn]; exact G.top, ⟨by rw [List.length_set]; exact G.row.len, fun j a q h1 h2 => ?_⟩, G.nd, G.out⟩
  by_cases hj : j = i
  · subst hj
    rw [hb] at h1; cases h1
    have hl : j < g.length := by rw [← G.row.len]; exact (List.getElem?_eq_some_iff.mp hb).1
    rw [List.getElem?_set_self hl] at h2
    cases h2
    exact upd_same
  · rw [List.getElem?_set_ne (fun z => hj z.symm)] at h2
    have hab : a ≠ b := fun z => by
      subst z
      obtain ⟨l1, e1⟩ := List.getElem?_eq_some_iff.mp h1
      obtain ⟨l2, e2⟩ := List.getElem?_eq_some_iff.mp hb
      exact hj ((List.getElem_inj (h₀ := l1) (h₁ := l2) G.nd).mp (by rw [e1, e2]))
    rw [upd_ne hab]
    exact G.row.row j a q h1 h2
theorem Grid.put {H H' : Hp} {ra : Addr} {rs : List Addr} {g : List (List Str)} (G : Grid H ra rs g) {b : Addr} {r : List Str} (hb : H b = none) {i : Nat} (hi : i < g.length) (ht : H' ra = some (.lst ((rs.set i b).map V.ref))) (hr : H' b = some (.lst (r.map V.str))) (k : ∀ c o, c ≠ ra → H c = some o → H' c = some o) : Grid H' ra (rs.set i b) (g.set i r) := by
  have al : ∀ a ∈ rs, ∃ o, H a = some o := fun a ha => by
    obtain ⟨i, hi⟩ := List.getElem?_of_mem ha
    have hl : i < g.length := by rw [← G.row.len]; exact (List.getElem?_eq_some_iff.mp hi).1
    exact ⟨_, G.row.row i a _ hi (List.getElem?_eq_getElem hl)⟩
  have nb : b ∉ rs := fun z => by obtain ⟨o, e⟩ := al b z; rw [hb] at e; cases e
  have nab : ra ≠ b := fun z => by rw [← z, G.top] at hb; cases hb
  have hir : i < rs.length := by rw [G.row.len]; exact hi
  refine ⟨ht, ⟨by simp [G.row.len], fun j a q h1 h2 => ?_⟩, ?_, fun z => ?_⟩
  · by_cases hj : j = i
    · subst hj
      rw [List.getElem?_set_self hir] at h1
      rw [List.getElem?_set_self hi] at h2
      cases h1; cases h2
      exact hr
    · rw [List.getElem?_set_ne (fun z => hj z.symm)] at h1 h2
      exact k _ _ (fun z => G.out (z ▸ List.mem_of_getElem? h1)) (G.row.row j a q h1 h2)
  · have key : ∀ (l : List Addr) (i : Nat), l.Nodup → b ∉ l → (l.set i b).Nodup := fun l => by
      induction l with
      | nil => intro i _ _; simp
      | cons x l ih =>
        intro i h1 h2
        rw [List.nodup_cons] at h1
        rw [List.mem_cons] at h2
        cases i with
        | zero => rw [List.set_cons_zero, List.nodup_cons]; exact ⟨fun z => h2 (.inr z), h1.2⟩
        | succ i =>
          rw [List.set_cons_succ, List.nodup_cons]
          refine ⟨fun z => ?_, ih i h1.2 fun z => h2 (.inr z)⟩
          rcases List.mem_or_eq_of_mem_set z with z | z
          · exact h1.1 z
          · exact h2 (.inl z.symm)
    exact key rs i G.nd nb
  · rcases List.mem_or_eq_of_mem_set z with z | z
    · exact G.out z
    · exact nab z
theorem gridOf_at {d : Int} {rss : List (List Int)} {ls : List Bool} {i : Nat} {ws : List Int} {b : Bool} (h1 : rss[i]? = some ws) (h2 : ls[i]? = some b) : (gridOf d rss ls)[i + 1]? = some (partsS b ws) := by
  unfold gridOf
  rw [List.getElem?_cons_succ, List.getElem?_zipWith_eq_some]
  exact ⟨_, _, h2, h1, rfl⟩
/-- what the first turns left -/
def Turn (d : Int) (rss : List (List Int)) (ls : List Bool) (way n : Int) (g : List (List Str)) : Prop := (1 ≤ way ∧ way ≤ n → Bad (gridT g) ∧ FineG g) ∧ (¬ (1 ≤ way ∧ way ≤ n) → g = gridOf d rss ls)
def TurnX (d : Int) (rss : List (List Int)) (ls : List Bool) (way n : Int) (x : Str) : Prop := SizeT x ∧ (1 ≤ way ∧ way ≤ n → Bad x) ∧ (¬ (1 ≤ way ∧ way ≤ n) → x = textS d rss ls)
/-- the row that is turned -/
theorem row_at {H : Hp} {ra : Addr} {rg : List Addr} {d r a6 : Int} {rss : List (List Int)} {ls : List Bool} (Vd : Valid d rss ls) (hr : r = rss.length) (G : Grid H ra rg (gridOf d rss ls)) (h6 : 1 ≤ a6) (h7 : a6 ≤ r) :
    ∃ (i : Nat) (b : Addr) (bb : Bool) (ws : List Int), a6 = ((i + 1 : Nat) : Int) ∧ i < rss.length ∧ rss[i]? = some ws ∧ ls[i]? = some bb ∧ rg[i + 1]? = some b ∧ (rg.map V.ref)[i + 1]? = some (.ref b) ∧ H b = some (.lst ((partsS bb ws).map V.str)) ∧ partsS bb ws ∈ gridOf d rss ls := by
  have hi : (a6 - 1).toNat < rss.length := by omega
  have hl := Vd.ll
  have e1 := List.getElem?_eq_getElem hi
  have e2 := List.getElem?_eq_getElem (show (a6 - 1).toNat < ls.length by omega)
  have e3 := gridOf_at (d := d) e1 e2
  have hg : (a6 - 1).toNat + 1 < rg.length := by rw [G.row.len, gridOf_len Vd]; omega
  have e4 := List.getElem?_eq_getElem hg
  exact ⟨_, _, _, _, by omega, hi, e1, e2, e4, by rw [List.getElem?_map, e4]; rfl, G.row.row _ _ _ e4 e3, List.mem_of_getElem? e3⟩
theorem ixN_nat {n k : Nat} (h : k < n) : ixN n (k : Int) = some k := by
  unfold ixN
  rw [if_pos (by omega), if_pos (by omega), Int.toNat_natCast]
theorem st1 {K : PySem.W.Frag} {D : Ends} {H2 H : Hp} {a aw al ra : Addr} {rg : List Addr} {d r way c a6 dr : Int} {rss : List (List Int)} {ls : List Bool} {x10 x11 x12 : Option V}
    (Vd : Valid d rss ls) (hr : r = rss.length) (h15 : r ≤ 15) (s3 : Same H2 H) (G : Grid H ra rg (gridOf d rss ls)) (new : ∀ b ∈ ra :: rg, H2 b = none) (h6 : 1 ≤ a6) (h7 : a6 ≤ r) (hd1 : 1 ≤ dr) (hd2 : dr ≤ d)
    (k : ∀ H' g, Same H2 H' → Grid H' ra rg g → Turn d rss ls way 2 g → D.nx [some (.ref a), some (.int d), some (.int r), some (.ref aw), some (.ref al), some (.ref ra), some (.int way), some (.int c), some (.int a6), some (.int dr), x10, x11, x12] H') :
    tJoin (tIfS (tOr (tTest (tOp rEq (tVar 6) (tC (V.int 1)))) (tTest (tOp rEq (tVar 6) (tC (V.int 2))))) (tAsg (tCall (sp_l_odd_number K) [] E0 (tCons (tVar 7) (tCons (tOp (rIxL K) (tOp (rIxL K) (tVar 5) (tVar 8)) (tVar 9)) (tCons (tVar 2) tNil)))) (gSub (tOp (rIxL K) (tVar 5) (tVar 8)) (tVar 9) rSetL)) tNext) D [some (.ref a), some (.int d), some (.int r), some (.ref aw), some (.ref al), some (.ref ra), some (.int way), some (.int c), some (.int a6), some (.int dr), x10, x11, x12] H := by
  refine r_join (fun σ' H' => σ' = [some (.ref a), some (.int d), some (.int r), some (.ref aw), some (.ref al), some (.ref ra), some (.int way), some (.int c), some (.int a6), some (.int dr), x10, x11, x12] ∧ ∃ g, Same H2 H' ∧ Grid H' ra rg g ∧ Turn d rss ls way 2 g) ?_ (by rintro σ' H' ⟨rfl, g, s, G, T⟩; exact k H' g s G T)
  have body : way = 1 ∨ way = 2 → (tAsg (tCall (sp_l_odd_number K) [] E0 (tCons (tVar 7) (tCons (tOp (rIxL K) (tOp (rIxL K) (tVar 5) (tVar 8)) (tVar 9)) (tCons (tVar 2) tNil)))) (gSub (tOp (rIxL K) (tVar 5) (tVar 8)) (tVar 9) rSetL)) { D with nx := fun σ' H' => σ' = [some (.ref a), some (.int d), some (.int r), some (.ref aw), some (.ref al), some (.ref ra), some (.int way), some (.int c), some (.int a6), some (.int dr), x10, x11, x12] ∧ ∃ g, Same H2 H' ∧ Grid H' ra rg g ∧ Turn d rss ls way 2 g } [some (.ref a), some (.int d), some (.int r), some (.ref aw), some (.ref al), some (.ref ra), some (.int way), some (.int c), some (.int a6), some (.int dr), x10, x11, x12] H := fun hw => by
    obtain ⟨i, b, bb, ws, e6, hi, e1, e2, e3, e3', e4, e5⟩ := row_at Vd hr G h6 h7
    have hwr := Vd.row ws (List.mem_of_getElem? e1)
    obtain ⟨j, hj, ej⟩ : ∃ j : Nat, j < ws.length ∧ dr = ((j + 1 : Nat) : Int) := ⟨(dr - 1).toNat, by omega, by omega⟩
    have ew := List.getElem?_eq_getElem hj
    have hx := hwr.2 _ (List.getElem_mem hj)
    rw [e6, ej]
    generalize ws[j] = wd at ew hx
    repeat walk_at "sx"
    refine r_ixL (SqL.of G.top) (atI_nat e3') ?_
    repeat walk_at "sx"
    refine r_ixL (SqL.of e4) (v := .str (numS wd)) (atI_nat (by rw [List.getElem?_map]; show Option.map V.str (ws.map numS)[j]? = _; rw [List.getElem?_map, ew]; rfl)) ?_
    repeat walk_at "sx"
    refine ⟨c, wd, r, rfl, hx.1, by omega, by omega, fun H3 x n s4 n4 n44 hxo => ?_⟩
    repeat walk_at "sx"
    refine r_ixL (SqL.of (s4 _ _ G.top)) (atI_nat e3') ?_
    repeat walk_at "sx"
    obtain ⟨o1, o2, o3⟩ := odd_ok hx.1 (show wd < r by omega) (by omega) n4 n44 hxo
    refine ⟨b, _, _, j + 1, rfl, rfl, s4 _ _ e4, ixN_nat (by rw [List.length_map]; show j + 1 < (ws.map numS).length + 1; rw [List.length_map]; omega), ?_⟩
    have es : ((partsS bb ws).map V.str).set (j + 1) (.str x) = (lampS bb :: (ws.map numS).set j x).map V.str := by
      rw [← List.map_set]; rfl
    rw [es]
    refine ⟨rfl, _, (s3.trans s4).upd_fresh (new b (List.mem_cons_of_mem _ (List.mem_of_getElem? e3))), (G.same s4).set e3 _, fun _ => ⟨?_, ?_⟩, fun hn => absurd (by omega) hn⟩
    · refine bad_row Vd hi (fun p hp => ?_) (fun b' ws' k1 k2 k3 k4 => ?_)
      · rcases List.mem_cons.mp hp with rfl | hp
        · exact lamp_free2 bb
        · rcases List.mem_or_eq_of_mem_set hp with hp | rfl
          · exact gridOf_nl Vd e5 p (List.mem_cons_of_mem _ hp)
          · exact o2
      · have k5 : (ws'.map numS)[j]? = some x := by rw [← k2, List.getElem?_set_self (by rw [List.length_map]; exact hj)]
        rw [List.getElem?_map] at k5
        obtain ⟨v, hv, ev⟩ := Option.map_eq_some_iff.mp k5
        have := k4 v (List.mem_of_getElem? hv)
        exact o1 v this.1 (by omega) ev.symm
    · refine fine_set Vd (by omega) _ (by simp) (p := x) ⟨o3, by rw [cntS_zero o2.1]; omega, by rw [cntS_zero o2.2]; omega⟩ (fun f F => ?_)
      have h1 := row_sum Vd e5 F
      have h2 := rsum_set (f := f) (partsS bb ws) (j + 1) x
      rw [show (partsS bb ws).set (j + 1) x = lampS bb :: (ws.map numS).set j x from rfl] at h2
      omega
  repeat walk_at "sx"
  refine r_eq rfl ?_
  repeat walk_at "sx"
  refine r_ite (fun hc => ?_) (fun hc => ?_)
  · repeat walk_at "sx"
    refine r_iteP rfl ?_
    exact body (.inl (by simpa using hc))
  · repeat walk_at "sx"
    refine r_eq rfl ?_
    repeat walk_at "sx"
    refine r_ite (fun hc2 => ?_) (fun hc2 => ?_)
    · exact body (.inr (by simpa using hc2))
    · repeat walk_at "sx"
      exact ⟨rfl, _, s3, G, fun hn => absurd hn (by simp at hc hc2; omega), fun _ => rfl⟩
theorem st3 {K : PySem.W.Frag} {D : Ends} {H2 H : Hp} {a aw al ra : Addr} {rg : List Addr} {d r way c a6 dr : Int} {rss : List (List Int)} {ls : List Bool} {x10 x11 x12 : Option V} {g : List (List Str)}
    (Vd : Valid d rss ls) (hr : r = rss.length) (h15 : r ≤ 15) (s3 : Same H2 H) (G : Grid H ra rg g) (tg : Turn d rss ls way 2 g) (new : ∀ b ∈ ra :: rg, H2 b = none) (h6 : 1 ≤ a6) (h7 : a6 ≤ r)
    (k : ∀ H' g, Same H2 H' → Grid H' ra rg g → Turn d rss ls way 3 g → D.nx [some (.ref a), some (.int d), some (.int r), some (.ref aw), some (.ref al), some (.ref ra), some (.int way), some (.int c), some (.int a6), some (.int dr), x10, x11, x12] H') :
    tJoin (tIfS (tTest (tOp rEq (tVar 6) (tC (V.int 3)))) (tDrop (tBM K "list" rAppend (tOp (rIxL K) (tVar 5) (tVar 8)) (tCons (tCB (fun xs H Q => ∃ i, xs = [V.int i] ∧ i.natAbs.log2 < 1920 ∧ Q (V.str (Str.ofString (toString i))) H) (tCons (tOp (rI (fun x j => 0 < j) fun i j => V.int (i % j)) (tVar 7) (tVar 2)) tNil)) tNil))) tNext) D [some (.ref a), some (.int d), some (.int r), some (.ref aw), some (.ref al), some (.ref ra), some (.int way), some (.int c), some (.int a6), some (.int dr), x10, x11, x12] H := by
  refine r_join (fun σ' H' => σ' = [some (.ref a), some (.int d), some (.int r), some (.ref aw), some (.ref al), some (.ref ra), some (.int way), some (.int c), some (.int a6), some (.int dr), x10, x11, x12] ∧ ∃ g, Same H2 H' ∧ Grid H' ra rg g ∧ Turn d rss ls way 3 g) ?_ (by rintro σ' H' ⟨rfl, g, s, G, T⟩; exact k H' g s G T)
  repeat walk_at "sx"
  refine r_eq rfl ?_
  repeat walk_at "sx"
  refine r_ite (fun hc => ?_) (fun hc => ?_)
  · have hw : way = 3 := by simpa using hc
    have eg := tg.2 (by omega)
    subst eg
    obtain ⟨i, b, bb, ws, e6, hi, e1, e2, e3, e3', e4, e5⟩ := row_at Vd hr G h6 h7
    have hwr := Vd.row ws (List.mem_of_getElem? e1)
    have hd1 := Vd.d1
    have hd6 := Vd.d6
    rw [e6]
    repeat walk_at "sx"
    refine r_ixL (SqL.of G.top) (atI_nat e3') ?_
    refine ⟨.inl ⟨rfl, _, SqL.of e4⟩, ?_⟩
    repeat walk_at "sx"
    have hm : 0 ≤ c % r ∧ c % r < 400 := by
      have := Int.emod_nonneg c (show r ≠ 0 by omega)
      have := Int.emod_lt_of_pos c (show 0 < r by omega)
      omega
    refine ⟨_, rfl, Nat.lt_of_lt_of_le (small_log (by omega) (by omega)) (by decide), ?_⟩
    repeat walk_at "sx"
    rw [show Str.ofString (toString (c % r)) = numS (c % r) from rfl]
    have hnf := num_free hm.1 hm.2
    have hnl := num_len hm.1 hm.2
    generalize numS (c % r) = x at hnf hnl
    refine ⟨b, _, _, rfl, rfl, e4, small1000 (by rw [List.length_map]; show (ws.map numS).length + 1 ≤ _; rw [List.length_map]; omega), ?_⟩
    have es : (partsS bb ws).map V.str ++ [.str x] = (lampS bb :: (ws.map numS ++ [x])).map V.str := by simp [partsS]
    rw [es]
    refine ⟨rfl, _, s3.upd_fresh (new b (List.mem_cons_of_mem _ (List.mem_of_getElem? e3))), G.set e3 _, fun _ => ⟨?_, ?_⟩, fun hn => absurd (by omega) hn⟩
    · refine bad_row Vd hi (fun p hp => ?_) (fun b' ws' k1 k2 k3 k4 => ?_)
      · rcases List.mem_cons.mp hp with rfl | hp
        · exact lamp_free2 bb
        · rcases List.mem_append.mp hp with hp | hp
          · exact gridOf_nl Vd e5 p (List.mem_cons_of_mem _ hp)
          · rw [List.mem_singleton.mp hp]; exact hnf
      · have := congrArg List.length k2
        simp only [List.length_append, List.length_map, List.length_singleton] at this
        omega
    · refine fine_set Vd (by omega) _ (by simp) (p := x) ⟨by omega, by rw [cntS_zero hnf.1]; omega, by rw [cntS_zero hnf.2]; omega⟩ (fun f F => ?_)
      have h1 := row_sum Vd e5 F
      have h2 := rsum_app (f := f) (partsS bb ws) x
      rw [show partsS bb ws ++ [x] = lampS bb :: (ws.map numS ++ [x]) from rfl] at h2
      omega
  · repeat walk_at "sx"
    have hw : way ≠ 3 := by simpa using hc
    exact ⟨rfl, g, s3, G, fun hn => tg.1 (by omega), fun hn => tg.2 (by omega)⟩
theorem st4 {K : PySem.W.Frag} {D : Ends} {H2 H : Hp} {a aw al ra : Addr} {rg : List Addr} {d r way c a6 dr : Int} {rss : List (List Int)} {ls : List Bool} {x10 x11 x12 : Option V} {g : List (List Str)}
    (Vd : Valid d rss ls) (hr : r = rss.length) (h15 : r ≤ 15) (s3 : Same H2 H) (G : Grid H ra rg g) (tg : Turn d rss ls way 3 g) (new : ∀ b ∈ ra :: rg, H2 b = none) (h6 : 1 ≤ a6) (h7 : a6 ≤ r)
    (k : ∀ H' g, Same H2 H' → Grid H' ra rg g → Turn d rss ls way 4 g → D.nx [some (.ref a), some (.int d), some (.int r), some (.ref aw), some (.ref al), some (.ref ra), some (.int way), some (.int c), some (.int a6), some (.int dr), x10, x11, x12] H') :
    tJoin (tIfS (tTest (tOp rEq (tVar 6) (tC (V.int 4)))) (tDrop (tBM0 K "list" rPop (tOp (rIxL K) (tVar 5) (tVar 8)))) tNext) D [some (.ref a), some (.int d), some (.int r), some (.ref aw), some (.ref al), some (.ref ra), some (.int way), some (.int c), some (.int a6), some (.int dr), x10, x11, x12] H := by
  refine r_join (fun σ' H' => σ' = [some (.ref a), some (.int d), some (.int r), some (.ref aw), some (.ref al), some (.ref ra), some (.int way), some (.int c), some (.int a6), some (.int dr), x10, x11, x12] ∧ ∃ g, Same H2 H' ∧ Grid H' ra rg g ∧ Turn d rss ls way 4 g) ?_ (by rintro σ' H' ⟨rfl, g, s, G, T⟩; exact k H' g s G T)
  repeat walk_at "sx"
  refine r_eq rfl ?_
  repeat walk_at "sx"
  refine r_ite (fun hc => ?_) (fun hc => ?_)
  · have hw : way = 4 := by simpa using hc
    have eg := tg.2 (by omega)
    subst eg
    obtain ⟨i, b, bb, ws, e6, hi, e1, e2, e3, e3', e4, e5⟩ := row_at Vd hr G h6 h7
    have hwr := Vd.row ws (List.mem_of_getElem? e1)
    have hd1 := Vd.d1
    have hd6 := Vd.d6
    rw [e6]
    repeat walk_at "sx"
    refine r_ixL (SqL.of G.top) (atI_nat e3') ?_
    refine ⟨.inl ⟨rfl, _, SqL.of e4⟩, ?_⟩
    have hl : ((partsS bb ws).map V.str).length = ws.length + 1 := by simp [partsS]
    have hlt : ((partsS bb ws).map V.str).length - 1 < ((partsS bb ws).map V.str).length := by omega
    refine ⟨b, _, _, rfl, rfl, e4, List.getElem?_eq_getElem hlt, ?_⟩
    have hne : ws.map numS ≠ [] := fun z => by have := congrArg List.length z; rw [List.length_map] at this; simp at this; rw [this] at hwr; simp at hwr; omega
    have es : ((partsS bb ws).map V.str).dropLast = (lampS bb :: (ws.map numS).dropLast).map V.str := by
      rw [← List.map_dropLast]; unfold partsS; rw [List.dropLast_cons_of_ne_nil hne]
    rw [es]
    refine ⟨rfl, _, s3.upd_fresh (new b (List.mem_cons_of_mem _ (List.mem_of_getElem? e3))), G.set e3 _, fun _ => ⟨?_, ?_⟩, fun hn => absurd (by omega) hn⟩
    · refine bad_row Vd hi (fun p hp => ?_) (fun b' ws' k1 k2 k3 k4 => ?_)
      · rcases List.mem_cons.mp hp with rfl | hp
        · exact lamp_free2 bb
        · exact gridOf_nl Vd e5 p (List.mem_cons_of_mem _ (List.dropLast_subset _ hp))
      · have := congrArg List.length k2
        rw [List.length_dropLast, List.length_map, List.length_map] at this
        omega
    · refine fine_set Vd (by omega) _ (by simp) (p := blT) ⟨by decide, by decide, by decide⟩ (fun f F => ?_)
      have h1 := row_sum Vd e5 F
      have h2 := rsum_drop (f := f) (partsS bb ws)
      rw [show (partsS bb ws).dropLast = lampS bb :: (ws.map numS).dropLast by unfold partsS; rw [List.dropLast_cons_of_ne_nil hne]] at h2
      omega
  · repeat walk_at "sx"
    have hw : way ≠ 4 := by simpa using hc
    exact ⟨rfl, g, s3, G, fun hn => tg.1 (by omega), fun hn => tg.2 (by omega)⟩
def badLamps : List Str := [Str.ofString "Lit", Str.ofString "DARK", Str.ofString "", Str.ofString "light", Str.ofString "li", Str.ofString "lit,", Str.ofString "darkk", Str.ofString "doors"]
theorem badLamp_ok : ∀ x ∈ badLamps, x ≠ litT ∧ x ≠ darkT ∧ (10 ∉ x.cps.toList ∧ 32 ∉ x.cps.toList) ∧ x.length ≤ 10 := by decide +kernel
theorem st5 {K : PySem.W.Frag} {D : Ends} {H2 H : Hp} {a aw al ra : Addr} {rg : List Addr} {d r way c a6 dr : Int} {rss : List (List Int)} {ls : List Bool} {x10 x11 x12 : Option V} {g : List (List Str)}
    (Vd : Valid d rss ls) (hr : r = rss.length) (h15 : r ≤ 15) (s3 : Same H2 H) (G : Grid H ra rg g) (tg : Turn d rss ls way 4 g) (new : ∀ b ∈ ra :: rg, H2 b = none) (h6 : 1 ≤ a6) (h7 : a6 ≤ r)
    (k : ∀ H' g, Same H2 H' → Grid H' ra rg g → Turn d rss ls way 5 g → D.nx [some (.ref a), some (.int d), some (.int r), some (.ref aw), some (.ref al), some (.ref ra), some (.int way), some (.int c), some (.int a6), some (.int dr), x10, x11, x12] H') :
    tJoin (tIfS (tTest (tOp rEq (tVar 6) (tC (V.int 5)))) (tAsg (tOp (rIxL K) (tLst (tCons (tC (V.str (Str.ofString "Lit"))) (tCons (tC (V.str (Str.ofString "DARK"))) (tCons (tC (V.str (Str.ofString ""))) (tCons (tC (V.str (Str.ofString "light"))) (tCons (tC (V.str (Str.ofString "li"))) (tCons (tC (V.str (Str.ofString "lit,"))) (tCons (tC (V.str (Str.ofString "darkk"))) (tCons (tC (V.str (Str.ofString "doors"))) (tNil)))))))))) (tOp (rI (fun x j => 0 < j) fun i j => V.int (i % j)) (tVar 7) (tC (V.int 8)))) (gSub (tOp (rIxL K) (tVar 5) (tVar 8)) (tC (V.int 0)) rSetL)) tNext) D [some (.ref a), some (.int d), some (.int r), some (.ref aw), some (.ref al), some (.ref ra), some (.int way), some (.int c), some (.int a6), some (.int dr), x10, x11, x12] H := by
  refine r_join (fun σ' H' => σ' = [some (.ref a), some (.int d), some (.int r), some (.ref aw), some (.ref al), some (.ref ra), some (.int way), some (.int c), some (.int a6), some (.int dr), x10, x11, x12] ∧ ∃ g, Same H2 H' ∧ Grid H' ra rg g ∧ Turn d rss ls way 5 g) ?_ (by rintro σ' H' ⟨rfl, g, s, G, T⟩; exact k H' g s G T)
  repeat walk_at "sx"
  refine r_eq rfl ?_
  repeat walk_at "sx"
  refine r_ite (fun hc => ?_) (fun hc => ?_)
  · have hw : way = 5 := by simpa using hc
    have eg := tg.2 (by omega)
    subst eg
    obtain ⟨i, b, bb, ws, e6, hi, e1, e2, e3, e3', e4, e5⟩ := row_at Vd hr G h6 h7
    have hwr := Vd.row ws (List.mem_of_getElem? e1)
    have hd1 := Vd.d1
    have hd6 := Vd.d6
    rw [e6]
    repeat walk_at "sx"
    refine ⟨by show 8 ≤ sizeLine; decide, fun l1 h1 => ?_⟩
    rw [show [V.str (Str.ofString "Lit"), V.str (Str.ofString "DARK"), V.str (Str.ofString ""), V.str (Str.ofString "light"), V.str (Str.ofString "li"), V.str (Str.ofString "lit,"), V.str (Str.ofString "darkk"), V.str (Str.ofString "doors")] = badLamps.map V.str from rfl]
    have s4 : Same H (upd H l1 (.lst (badLamps.map V.str))) := Same.upd_new h1
    have a4 : (upd H l1 (.lst (badLamps.map V.str))) l1 = some (.lst (badLamps.map V.str)) := upd_same
    generalize upd H l1 (.lst (badLamps.map V.str)) = H4 at s4 a4 ⊢
    repeat walk_at "sx"
    have hk : (c % 8).toNat < badLamps.length := by show _ < 8; omega
    have hg : (badLamps.map V.str)[(c % 8).toNat]? = some (V.str badLamps[(c % 8).toNat]) := by rw [List.getElem?_map, List.getElem?_eq_getElem hk]; rfl
    rw [← Int.toNat_of_nonneg (show 0 ≤ c % 8 by omega)]
    refine r_ixL (SqL.of a4) (atI_nat hg) ?_
    obtain ⟨o1, o2, o3, o4⟩ := badLamp_ok _ (List.getElem_mem hk)
    generalize badLamps[(c % 8).toNat] = x at o1 o2 o3 o4
    repeat walk_at "sx"
    refine r_ixL (SqL.of (s4 _ _ G.top)) (atI_nat e3') ?_
    repeat walk_at "sx"
    refine ⟨b, _, _, 0, rfl, rfl, s4 _ _ e4, ixN_nat (k := 0) (by simp [partsS]), ?_⟩
    rw [show ((partsS bb ws).map V.str).set 0 (.str x) = (x :: ws.map numS).map V.str from rfl]
    refine ⟨rfl, _, (s3.trans s4).upd_fresh (new b (List.mem_cons_of_mem _ (List.mem_of_getElem? e3))), (G.same s4).set e3 _, fun _ => ⟨?_, ?_⟩, fun hn => absurd (by omega) hn⟩
    · refine bad_row Vd hi (fun p hp => ?_) (fun b' ws' k1 k2 k3 k4 => ?_)
      · rcases List.mem_cons.mp hp with rfl | hp
        · exact o3
        · exact gridOf_nl Vd e5 p (List.mem_cons_of_mem _ hp)
      · cases b' with
        | true => exact o1 k1
        | false => exact o2 k1
    · refine fine_set Vd (by omega) _ (by simp) (p := x) ⟨by omega, by rw [cntS_zero o3.1]; omega, by rw [cntS_zero o3.2]; omega⟩ (fun f F => ?_)
      have h1 := row_sum Vd e5 F
      have h2 := rsum_set (f := f) (partsS bb ws) 0 x
      rw [show (partsS bb ws).set 0 x = x :: ws.map numS from rfl] at h2
      omega
  · repeat walk_at "sx"
    have hw : way ≠ 5 := by simpa using hc
    exact ⟨rfl, g, s3, G, fun hn => tg.1 (by omega), fun hn => tg.2 (by omega)⟩
theorem gsum_mem {f : Str → Nat} : ∀ {g : List (List Str)} {r : List Str}, r ∈ g → rsum f r + 1 ≤ gsum f g
  | [], r, h => by simp at h
  | a :: g, r, h => by
    unfold gsum
    rw [List.map_cons, List.sum_cons]
    rcases List.mem_cons.mp h with rfl | h
    · omega
    · have := gsum_mem (f := f) h
      unfold gsum at this
      omega
theorem gsum_len {f : Str → Nat} : ∀ (g : List (List Str)), g.length ≤ gsum f g
  | [] => Nat.zero_le _
  | a :: g => by
    have := gsum_len (f := f) g
    unfold gsum at this ⊢
    rw [List.map_cons, List.sum_cons, List.length_cons]
    omega
theorem stT {K : PySem.W.Frag} {H : Hp} {Q : VK} {ra : Addr} {rg : List Addr} {g : List (List Str)} {y0 y1 y2 y3 y4 y6 y7 y8 y9 y10 y11 y12 : Option V} (G : Grid H ra rg g) (F : FineG g) (q : ∀ H', Same H H' → Q (.str (gridT g)) H') :
    (tBM K "str" (rJoin K) (tC (V.str (Str.ofString "\n"))) (tCons (tComp (iList K (tVar 5)) (gName 0) (tBM K "str" (rJoin K) (tC (V.str (Str.ofString " "))) (tCons (tVar 0) tNil)) [none]) tNil) : TE) [y0, y1, y2, y3, y4, some (.ref ra), y6, y7, y8, y9, y10, y11, y12] H Q := by
  have hgl : g.length ≤ 400 := Nat.le_trans (gsum_len (f := cntS 10) g) F.s1
  have hsl := F.sl
  repeat walk_at "sx"
  refine ⟨rfl, ?_⟩
  repeat walk_at "sx"
  refine ⟨ra, rfl, ⟨_, SqL.of G.top⟩, ?_⟩
  refine comp_list (xs := rg.map V.ref) (fun acc i ys H' => H' = upd H acc (.lst ys) ∧ ys = ((g.take i).map (Txt.join blT)).map V.str) (fun acc hacc => ⟨rfl, rfl⟩) (fun acc i ys H' hacc _ pp => by rw [pp.1]; exact SqL.of (Same.upd_new hacc _ _ G.top)) (fun acc i x ys H' hacc hx pp => ?_) (fun acc ys H' hacc pp => ?_)
  · obtain ⟨rfl, rfl⟩ := pp
    have hx0 := ref_map_inv hx
    clear hx
    obtain ⟨b, rfl, hb⟩ := hx0
    have hi : i < g.length := by rw [← G.row.len]; exact (List.getElem?_eq_some_iff.mp hb).1
    have hg := List.getElem?_eq_getElem hi
    have hrow := G.row.row i b _ hb hg
    have hm := gsum_mem (f := fun x => x.length) (List.getElem_mem hi)
    generalize g[i] = row at hg hrow hm
    unfold rsum at hm
    rw [sum_succ] at hm
    repeat walk_at "sx"
    refine ⟨Wk.set rfl, ?_⟩
    repeat walk_at "sx"
    refine ⟨rfl, ?_⟩
    repeat walk_at "sx"
    rw [e_bl]
    refine ⟨_, b, row, rfl, rfl, SqL.of (Same.upd_new hacc _ _ hrow), by decide, by omega, ?_⟩
    refine ⟨upd_same, small1000 (by rw [List.length_map, List.length_map, List.length_take]; omega), ?_, ?_⟩
    · rw [upd_upd]
    · rw [take_snocT hg, List.map_append, List.map_append]; rfl
  · obtain ⟨rfl, rfl⟩ := pp
    have hgr := G.row.len
    rw [List.length_map, hgr, List.take_length]
    repeat walk_at "sx"
    rw [e_nl]
    have hr : rsum (fun x => x.length) (g.map (Txt.join blT)) ≤ gsum (fun x => x.length) g := gsum_rows few_len.1 few_len.2.1 F.rn
    unfold rsum at hr
    rw [sum_succ] at hr
    refine ⟨_, acc, _, rfl, rfl, SqL.of upd_same, by decide, by omega, ?_⟩
    exact q _ (Same.upd_new hacc)
theorem text_size {d : Int} {rss : List (List Int)} {ls : List Bool} (Vd : Valid d rss ls) (h15 : rss.length ≤ 15) : (textS d rss ls).length ≤ 444 ∧ cntS 10 (textS d rss ls) ≤ 15 ∧ cntS 32 (textS d rss ls) ≤ 91 := by
  have h1 := Vd.d1
  have h6 := Vd.d6
  refine ⟨?_, by rw [text_nl Vd]; exact h15, ?_⟩
  · have := text_len (d := d) (rss := rss) (ls := ls) (by omega) (by omega) (fun ws hw => ⟨by have := (Vd.row ws hw).1; omega, valid_400 Vd ws hw⟩)
    omega
  · rw [text_bl Vd]
    have : rss.length * d.toNat ≤ 15 * 6 := Nat.mul_le_mul h15 (by omega)
    omega
theorem put_len (x y : Str) (p : Nat) : (putS x p y).length = x.length + y.length := by
  unfold putS
  rw [str_lapp, str_lapp, str_len (takeS x p), str_len (dropS x p), take_cps, drop_cps, List.length_take, List.length_drop, ← str_len]
  omega
theorem st6 {K : PySem.W.Frag} {D : Ends} {H : Hp} {a aw al ra : Addr} {ns : List Int} {d r way c a6 dr : Int} {rss : List (List Int)} {ls : List Bool} {x11 x12 : Option V} {x : Str}
    (Vd : Valid d rss ls) (h15 : rss.length ≤ 15) (hS : SqL K H a (ns.map V.int)) (tx : TurnX d rss ls way 5 x)
    (k : ∀ H' x' x11', Same H H' → TurnX d rss ls way 6 x' → D.nx [some (.ref a), some (.int d), some (.int r), some (.ref aw), some (.ref al), some (.ref ra), some (.int way), some (.int c), some (.int a6), some (.int dr), some (.str x'), x11', x12] H') :
    tJoin (tIfS (tTest (tOp rEq (tVar 6) (tC (V.int 6)))) (tSeq (tAsg (tOp (rI (fun x j => 0 < j) fun i j => V.int (i % j)) (tCall (sp_l_cell_at K) [] E0 (tCons (tVar 0) (tCons (tC (V.int 8)) tNil))) (tOp (rI0 fun i j => V.int (i + j)) (tCB (fun xs H Q => ∃ z, xs = [V.str z] ∧ z.length ≤ sizeLine ∧ Q (V.int z.length) H) (tCons (tVar 10) tNil)) (tC (V.int 1)))) (gName 11))
      (tAsg (tOp (fun x y H Q => ∃ i j, x = V.str i ∧ y = V.str j ∧ i.length + j.length ≤ sizeLine ∧ Q (V.str (i ++ j)) H) (tOp (fun x y H Q => ∃ i j, x = V.str i ∧ y = V.str j ∧ i.length + j.length ≤ sizeLine ∧ Q (V.str (i ++ j)) H) (tSl rSl2 (tVar 10) tNoPart (tPart (tVar 11))) (tOp (rIxL K) (tLst (tCons (tC (V.str (Str.ofString " "))) (tCons (tC (V.str (Str.ofString "\n"))) tNil))) (tOp (rI (fun x j => 0 < j) fun i j => V.int (i % j)) (tVar 7) (tC (V.int 2))))) (tSl rSl2 (tVar 10) (tPart (tVar 11)) tNoPart)) (gName 10))) tNext) D [some (.ref a), some (.int d), some (.int r), some (.ref aw), some (.ref al), some (.ref ra), some (.int way), some (.int c), some (.int a6), some (.int dr), some (.str x), x11, x12] H := by
  refine r_join (fun σ' H' => Same H H' ∧ ∃ x' x11', σ' = [some (.ref a), some (.int d), some (.int r), some (.ref aw), some (.ref al), some (.ref ra), some (.int way), some (.int c), some (.int a6), some (.int dr), some (.str x'), x11', x12] ∧ TurnX d rss ls way 6 x') ?_ (by rintro σ' H' ⟨s, x', x11', rfl, t⟩; exact k H' x' x11' s t)
  repeat walk_at "sx"
  refine r_eq rfl ?_
  repeat walk_at "sx"
  refine r_ite (fun hc => ?_) (fun hc => ?_)
  · have hw : way = 6 := by simpa using hc
    have ex := tx.2.2 (by omega)
    obtain ⟨z1, z2, z3⟩ := text_size Vd h15
    have key := fun p hp y hy => bad_put Vd (p := p) hp (y := y) hy
    rw [← ex] at z1 z2 z3 key
    have big : ∀ n : Nat, n ≤ 30000 → n ≤ sizeLine := fun n h => Nat.le_trans h (by decide)
    repeat walk_at "sx"
    refine ⟨a, ns, 8, rfl, hS, by decide, ?_⟩
    repeat walk_at "sx"
    refine ⟨x, rfl, big _ (by omega), ?_⟩
    repeat walk_at "sx"
    obtain ⟨pn, hpn⟩ : ∃ n : Nat, cellv ns 8 % ((x.length : Int) + 1) = (n : Int) := ⟨(cellv ns 8 % ((x.length : Int) + 1)).toNat, (Int.toNat_of_nonneg (Int.emod_nonneg _ (by omega))).symm⟩
    have hp : pn ≤ x.length := by have := Int.emod_lt_of_pos (cellv ns 8) (show 0 < (x.length : Int) + 1 by omega); omega
    have ht : (takeS x pn).length ≤ 444 := by rw [str_len, take_cps, List.length_take]; rw [str_len] at z1; omega
    have hdp : (dropS x pn).length ≤ 444 := by rw [str_len, drop_cps, List.length_drop]; rw [str_len] at z1; omega
    rw [hpn]
    refine ⟨_, rfl, x, pn, rfl, hp, by omega, .inr ⟨rfl, rfl, ?_⟩⟩
    repeat walk_at "sx"
    rw [e_bl, e_nl]
    refine ⟨by show 2 ≤ sizeLine; decide, fun l1 h1 => ?_⟩
    have s1 : Same H (upd H l1 (.lst [.str blT, .str nlT])) := Same.upd_new h1
    have a1 : (upd H l1 (.lst [.str blT, .str nlT])) l1 = some (.lst [.str blT, .str nlT]) := upd_same
    generalize upd H l1 (.lst [.str blT, .str nlT]) = H1 at s1 a1 ⊢
    repeat walk_at "sx"
    obtain ⟨y, hy, ey⟩ : ∃ y, (y = blT ∨ y = nlT) ∧ atI [V.str blT, V.str nlT] (c % 2) = some (.str y) := by
      rcases (show c % 2 = 0 ∨ c % 2 = 1 by omega) with z | z
      · exact ⟨blT, .inl rfl, by rw [z]; rfl⟩
      · exact ⟨nlT, .inr rfl, by rw [z]; rfl⟩
    have hy1 : y.length = 1 := by rcases hy with rfl | rfl <;> rfl
    refine r_ixL (SqL.of a1) ey ?_
    refine ⟨_, _, rfl, rfl, big _ (by omega), ?_⟩
    repeat walk_at "sx"
    refine ⟨_, rfl, x, pn, rfl, hp, by omega, .inl ⟨rfl, rfl, ?_⟩⟩
    refine ⟨_, _, rfl, rfl, big _ (by rw [str_lapp]; omega), ?_⟩
    repeat walk_at "sx"
    exact ⟨s1, putS x pn y, _, rfl, ⟨by rw [put_len]; omega, by rw [cntS_put]; have := cntS_len 10 y; omega, by rw [cntS_put]; have := cntS_len 32 y; omega⟩, fun _ => key pn hp y hy, fun hn => absurd (by omega) hn⟩
  · repeat walk_at "sx"
    have hw : way ≠ 6 := by simpa using hc
    exact ⟨Same.refl _, x, x11, rfl, tx.1, fun hn => tx.2.1 (by omega), fun hn => tx.2.2 (by omega)⟩
def badHeads : List Str := [Str.ofString "doors", Str.ofString "door 2", Str.ofString "doors 0", Str.ofString "doors 7", Str.ofString "doors 01", Str.ofString "Doors 1", Str.ofString "doors 1 1", Str.ofString "", Str.ofString " doors 1", Str.ofString "doors +1", Str.ofString "doors 1_", Str.ofString "doors 1 ", Str.ofString "doors 1.", Str.ofString "doors 1_0"]
def badHeads1 : List Str := [Str.ofString "doors", Str.ofString "door 2", Str.ofString "doors 0", Str.ofString "doors 7", Str.ofString "doors 01", Str.ofString "Doors 1", Str.ofString "doors 1 1", Str.ofString "", Str.ofString " doors 1"]
theorem badHead_ok : ∀ x ∈ badHeads, (∀ e : Nat, e ≤ 6 → 1 ≤ e → x ≠ headS (e : Int)) ∧ 10 ∉ x.cps.toList ∧ x.length ≤ 10 := by decide +kernel
theorem st7 {K : PySem.W.Frag} {D : Ends} {H : Hp} {a aw al ra : Addr} {rg : List Addr} {g : List (List Str)} {d r way c a6 dr : Int} {rss : List (List Int)} {ls : List Bool} {x11 x12 : Option V} {x : Str}
    (Vd : Valid d rss ls) (h15 : rss.length ≤ 15) (G : Grid H ra rg g) (tg : Turn d rss ls way 5 g) (tx : TurnX d rss ls way 6 x) {H0 : Hp} (s0 : Same H0 H) (hra : H0 ra = none)
    (k : ∀ H' x' x12', Same H0 H' → TurnX d rss ls way 7 x' → D.nx [some (.ref a), some (.int d), some (.int r), some (.ref aw), some (.ref al), some (.ref ra), some (.int way), some (.int c), some (.int a6), some (.int dr), some (.str x'), x11, x12'] H') :
    tJoin (tIfS (tTest (tOp rEq (tVar 6) (tC (V.int 7)))) (tSeq (tAsg (tLst (tCons (tC (V.str (Str.ofString "doors"))) (tCons (tC (V.str (Str.ofString "door 2"))) (tCons (tC (V.str (Str.ofString "doors 0"))) (tCons (tC (V.str (Str.ofString "doors 7"))) (tCons (tC (V.str (Str.ofString "doors 01"))) (tCons (tC (V.str (Str.ofString "Doors 1"))) (tCons (tC (V.str (Str.ofString "doors 1 1"))) (tCons (tC (V.str (Str.ofString ""))) (tCons (tC (V.str (Str.ofString " doors 1"))) (tNil))))))))))) (gName 12)) (tSeq (tAsg (tOp rCat (tVar 12) (tLst (tCons (tC (V.str (Str.ofString "doors +1"))) (tCons (tC (V.str (Str.ofString "doors 1_"))) (tCons (tC (V.str (Str.ofString "doors 1 "))) (tCons (tC (V.str (Str.ofString "doors 1."))) (tCons (tC (V.str (Str.ofString "doors 1_0"))) (tNil)))))))) (gName 12))
      (tSeq (tAsg (tLst (tCons (tOp (rIxL K) (tVar 12) (tOp (rI (fun x j => 0 < j) fun i j => V.int (i % j)) (tVar 7) (tC (V.int 14)))) tNil)) (gSub (tVar 5) (tC (V.int 0)) rSetL)) (tAsg (tBM K "str" (rJoin K) (tC (V.str (Str.ofString "\n"))) (tCons (tComp (iList K (tVar 5)) (gName 0) (tBM K "str" (rJoin K) (tC (V.str (Str.ofString " "))) (tCons (tVar 0) tNil)) [none]) tNil)) (gName 10))))) tNext) D [some (.ref a), some (.int d), some (.int r), some (.ref aw), some (.ref al), some (.ref ra), some (.int way), some (.int c), some (.int a6), some (.int dr), some (.str x), x11, x12] H := by
  refine r_join (fun σ' H' => Same H0 H' ∧ ∃ x' x12', σ' = [some (.ref a), some (.int d), some (.int r), some (.ref aw), some (.ref al), some (.ref ra), some (.int way), some (.int c), some (.int a6), some (.int dr), some (.str x'), x11, x12'] ∧ TurnX d rss ls way 7 x') ?_ (by rintro σ' H' ⟨s, x', x12', rfl, t⟩; exact k H' x' x12' s t)
  repeat walk_at "sx"
  refine r_eq rfl ?_
  repeat walk_at "sx"
  refine r_ite (fun hc => ?_) (fun hc => ?_)
  · have hw : way = 7 := by simpa using hc
    have eg := tg.2 (by omega)
    subst eg
    repeat walk_at "sx"
    refine ⟨by show 9 ≤ sizeLine; decide, fun l1 h1 => ?_⟩
    rw [show [V.str (Str.ofString "doors"), V.str (Str.ofString "door 2"), V.str (Str.ofString "doors 0"), V.str (Str.ofString "doors 7"), V.str (Str.ofString "doors 01"), V.str (Str.ofString "Doors 1"), V.str (Str.ofString "doors 1 1"), V.str (Str.ofString ""), V.str (Str.ofString " doors 1")] = badHeads1.map V.str from rfl]
    have s1 : Same H (upd H l1 (.lst (badHeads1.map V.str))) := Same.upd_new h1
    have a1 : (upd H l1 (.lst (badHeads1.map V.str))) l1 = some (.lst (badHeads1.map V.str)) := upd_same
    generalize upd H l1 (.lst (badHeads1.map V.str)) = H1 at s1 a1 ⊢
    repeat walk_at "sx"
    refine ⟨by show 5 ≤ sizeLine; decide, fun l2 h2 => ?_⟩
    refine ⟨l1, l2, _, _, rfl, rfl, Same.upd_new h2 _ _ a1, upd_same, by show 14 ≤ sizeLine; decide, fun l3 h3 => ?_⟩
    rw [show badHeads1.map V.str ++ [V.str (Str.ofString "doors +1"), V.str (Str.ofString "doors 1_"), V.str (Str.ofString "doors 1 "), V.str (Str.ofString "doors 1."), V.str (Str.ofString "doors 1_0")] = badHeads.map V.str from rfl]
    have s3 := (s1.trans (Same.upd_new h2)).trans (Same.upd_new (o := .lst (badHeads.map V.str)) h3)
    have a3 : (upd (upd H1 l2 (.lst [V.str (Str.ofString "doors +1"), V.str (Str.ofString "doors 1_"), V.str (Str.ofString "doors 1 "), V.str (Str.ofString "doors 1."), V.str (Str.ofString "doors 1_0")])) l3 (.lst (badHeads.map V.str))) l3 = some (.lst (badHeads.map V.str)) := upd_same
    generalize upd (upd H1 l2 (.lst [V.str (Str.ofString "doors +1"), V.str (Str.ofString "doors 1_"), V.str (Str.ofString "doors 1 "), V.str (Str.ofString "doors 1."), V.str (Str.ofString "doors 1_0")])) l3 (.lst (badHeads.map V.str)) = H3 at s3 a3 ⊢
    repeat walk_at "sx"
    have hk : (c % 14).toNat < badHeads.length := by show _ < 14; omega
    have hg : (badHeads.map V.str)[(c % 14).toNat]? = some (V.str badHeads[(c % 14).toNat]) := by rw [List.getElem?_map, List.getElem?_eq_getElem hk]; rfl
    rw [← Int.toNat_of_nonneg (show 0 ≤ c % 14 by omega)]
    refine r_ixL (SqL.of a3) (atI_nat hg) ?_
    obtain ⟨o1, o2, o3⟩ := badHead_ok _ (List.getElem_mem hk)
    generalize badHeads[(c % 14).toNat] = y at o1 o2 o3
    repeat walk_at "sx"
    refine ⟨by show 1 ≤ sizeLine; decide, fun l4 h4 => ?_⟩
    have n4 : H l4 = none := s3.free h4
    have s4 : Same H (upd H3 l4 (.lst [.str y])) := s3.trans (Same.upd_new h4)
    have a4 : (upd H3 l4 (.lst [.str y])) l4 = some (.lst ([y].map V.str)) := upd_same
    generalize upd H3 l4 (.lst [.str y]) = H4 at s4 a4 ⊢
    have nra : l4 ≠ ra := fun z => by rw [z, G.top] at n4; cases n4
    repeat walk_at "sx"
    refine ⟨ra, _, _, 0, rfl, rfl, s4 _ _ G.top, ixN_nat (k := 0) (by rw [List.length_map, G.row.len, gridOf_len Vd]; omega), ?_⟩
    have G5 : Grid (upd H4 ra (.lst ((rg.map V.ref).set 0 (.ref l4)))) ra (rg.set 0 l4) ((gridOf d rss ls).set 0 [y]) := G.put n4 (by rw [gridOf_len Vd]; omega) (by rw [upd_same, List.map_set]) (by rw [upd_ne nra]; exact a4) (fun c o hc e => by rw [upd_ne hc]; exact s4 _ _ e)
    have s5 : Same H0 (upd H4 ra (.lst ((rg.map V.ref).set 0 (.ref l4)))) := (s0.trans s4).upd_fresh hra
    generalize upd H4 ra (.lst ((rg.map V.ref).set 0 (.ref l4))) = H5 at G5 s5 ⊢
    have F5 : FineG ((gridOf d rss ls).set 0 [y]) := fine_set Vd h15 0 (by simp) (p := y) ⟨by omega, by have := cntS_len 10 y; omega, by have := cntS_len 32 y; omega⟩ (fun f F => by unfold rsum; simp)
    have B5 := bad_head (rss := rss) (ls := ls) Vd (x := y) o2 o1
    repeat walk_at "sx"
    refine stT G5 F5 (fun H6 s6 => ?_)
    repeat walk_at "sx"
    exact ⟨s5.trans s6, _, _, rfl, F5.size, fun _ => B5, fun hn => absurd (by omega) hn⟩
  · repeat walk_at "sx"
    have hw : way ≠ 7 := by simpa using hc
    exact ⟨s0, x, x12, rfl, tx.1, fun hn => tx.2.1 (by omega), fun hn => tx.2.2 (by omega)⟩
theorem st8 {D : Ends} {H : Hp} {a aw al ra : Addr} {d r way c a6 dr : Int} {rss : List (List Int)} {ls : List Bool} {x11 x12 : Option V} {x : Str}
    (Vd : Valid d rss ls) (tx : TurnX d rss ls way 7 x)
    (k : ∀ x', TurnX d rss ls way 8 x' → D.nx [some (.ref a), some (.int d), some (.int r), some (.ref aw), some (.ref al), some (.ref ra), some (.int way), some (.int c), some (.int a6), some (.int dr), some (.str x'), x11, x12] H) :
    tJoin (tIfS (tTest (tOp rEq (tVar 6) (tC (V.int 8)))) (tAsg (tOp (fun x y H Q => ∃ i j, x = V.str i ∧ y = V.str j ∧ i.length + j.length ≤ sizeLine ∧ Q (V.str (i ++ j)) H) (tC (V.str (Str.ofString "doors "))) (tCB (fun xs H Q => ∃ i, xs = [V.int i] ∧ i.natAbs.log2 < 1920 ∧ Q (V.str (Str.ofString (toString i))) H) (tCons (tVar 1) tNil))) (gName 10)) tNext) D [some (.ref a), some (.int d), some (.int r), some (.ref aw), some (.ref al), some (.ref ra), some (.int way), some (.int c), some (.int a6), some (.int dr), some (.str x), x11, x12] H := by
  have h1 := Vd.d1
  have h6 := Vd.d6
  refine r_join (fun σ' H' => H = H' ∧ ∃ x', σ' = [some (.ref a), some (.int d), some (.int r), some (.ref aw), some (.ref al), some (.ref ra), some (.int way), some (.int c), some (.int a6), some (.int dr), some (.str x'), x11, x12] ∧ TurnX d rss ls way 8 x') ?_ (by rintro σ' H' ⟨rfl, x', rfl, t⟩; exact k x' t)
  repeat walk_at "sx"
  refine r_eq rfl ?_
  repeat walk_at "sx"
  refine r_ite (fun hc => ?_) (fun hc => ?_)
  · have hw : way = 8 := by simpa using hc
    repeat walk_at "sx"
    refine ⟨_, rfl, Nat.lt_of_lt_of_le (small_log (by omega) (by omega)) (by decide), ?_⟩
    rw [e_dr]
    have hl := head_len (d := d) (by omega) (by omega)
    refine ⟨_, _, rfl, rfl, Nat.le_trans (by have := num_len (n := d) (by omega) (by omega); have : drT.length = 6 := rfl; show drT.length + (numS d).length ≤ 30000; omega) (show 30000 ≤ sizeLine by decide), ?_⟩
    rw [show drT ++ Str.ofString (toString d) = headS d from rfl]
    repeat walk_at "sx"
    exact ⟨rfl, _, rfl, ⟨by omega, by have := cntS_len 10 (headS d); omega, by have := cntS_len 32 (headS d); omega⟩, fun _ => bad_short h1 h6, fun hn => absurd (by omega) hn⟩
  · repeat walk_at "sx"
    have hw : way ≠ 8 := by simpa using hc
    exact ⟨rfl, x, rfl, tx.1, fun hn => tx.2.1 (by omega), fun hn => tx.2.2 (by omega)⟩
theorem stE {K : PySem.W.Frag} {C CT : Addr} {D : Ends} {H : Hp} {a aw al ra : Addr} {rs : List Addr} {d r way c a6 dr : Int} {rss : List (List Int)} {ls : List Bool} {x11 x12 : Option V} {x : Str}
    (Vd : Valid d rss ls) (tx : TurnX d rss ls way 8 x) (h8 : 0 ≤ way ∧ way ≤ 8) (M : Mat H aw rs rss) (hL : H al = some (.lst (ls.map V.bl))) (q : ∀ H', D.rt (.bl true) H') :
    tSeq (tIfS (tTest (tOp rEq (tVar 6) (tC (V.int 0)))) (tRet (tCall (sp_l_house_is K C) [] E0 (tCons (tCall (sp_read K C CT) [] E0 (tCons (tVar 10) tNil)) (tCons (tVar 1) (tCons (tVar 3) (tCons (tVar 4) tNil)))))) tNext) (tRet (tCall (sp_l_refused K C) [] E0 (tCons (tVar 10) tNil))) D [some (.ref a), some (.int d), some (.int r), some (.ref aw), some (.ref al), some (.ref ra), some (.int way), some (.int c), some (.int a6), some (.int dr), some (.str x), x11, x12] H := by
  have hr4 := Vd.r400
  repeat walk_at "sx"
  refine r_eq rfl ?_
  repeat walk_at "sx"
  refine r_ite (fun hc => ?_) (fun hc => ?_)
  · have hw : way = 0 := by simpa using hc
    have ex := tx.2.2 (by omega)
    obtain ⟨z1, z2⟩ := size_rows tx.1
    repeat walk_at "sx"
    refine ⟨x, rfl, tx.1.1, z1, z2, fun d' rss' ls' Vd' e H1 p aw1 rs1 al1 s1 hh => ?_, fun hn => absurd ex (hn d rss ls Vd)⟩
    have e2 := ex.symm.trans e
    have hs := split_text (rss := rss) (ls := ls) (show 0 ≤ d by have := Vd.d1; omega) (by have := Vd.d6; omega) (valid_400 Vd)
    obtain ⟨t1, t2⟩ := text_rows hs Vd' e2
    have h1 := Vd'.d1
    have h6 := Vd'.d6
    have ed := head_inj (show 0 ≤ d by have := Vd.d1; omega) (by have := Vd.d6; omega) (show 0 ≤ d' by omega) (by omega) t1
    subst ed
    have R : Rd15 (rowsS ls rss) (rowsS ls rss).length rss ls := ⟨(rowsS_len Vd).symm, by rw [rowsS_len Vd, Vd.ll], fun j ws b g1 g2 => by unfold rowsS; rw [List.getElem?_zipWith_eq_some]; exact ⟨_, _, g2, g1, rfl⟩, fun ws hw => ⟨by have := (Vd.row ws hw).1; have := Vd.d6; omega, valid_400 Vd ws hw⟩⟩
    obtain ⟨rfl, rfl⟩ := R.uniq Vd' t2
    repeat walk_at "sx"
    exact ⟨p, d, aw1, rs1, _, al1, _, aw, rs, al, rfl, hh, M.same s1, SqL.of (s1 _ _ hL), by omega, q _⟩
  · have hw : way ≠ 0 := by simpa using hc
    repeat walk_at "sx"
    exact ⟨x, rfl, tx.1, tx.2.1 (by omega), fun H' _ => q H'⟩
def sp_law (K : PySem.W.Frag) : Sp := fun vs H Q _ => ∃ (a : Addr) (ns : List Int), vs = [.ref a] ∧ SqL K H a (ns.map V.int) ∧ ns.length ≤ 63 ∧ ∀ H', Q (.bl true) H'
set_option maxHeartbeats 0 in
theorem ok_law (T : Txt K mg t) : FnOk P w K mg base CX0 8 t.f_law t.fd_law ["script"] (sp_law K) := by
  refine T.F_law.ok sc_law (fun vs H Q E h => ?_) (fun cdv A outer s H vs Q E hr h => ?_)
  · obtain ⟨a, ns, rfl, _⟩ := h
    rfl
  · obtain ⟨a, ns, rfl, hS, hlen, q⟩ := h
    refine' ⟨_, ?term, ?main⟩
    case term =>
     refine' @pss_cons _ _ _ _ _ (ps_set (i := 1) sc_law.nd rfl (Or.inl rfl) (pe_op op_add (pe_int) (pe_op op_mod (pe_call (ok_l_cell_at T) (hr.mono (by decide)) rfl T.mg_l_cell_at T.F_l_cell_at.kp (b_l_cell_at T) .nil pass0 (pa_cons (pv 0) (pa_cons (pe_int) (pa_nil) star_con))) (pe_int)))) ?rest1
     case rest1 =>
      refine' @pss_cons _ _ _ _ _ (ps_set (i := 2) sc_law.nd rfl (Or.inl rfl) (pe_op op_add (pe_int) (pe_op op_mod (pe_call (ok_l_cell_at T) (hr.mono (by decide)) rfl T.mg_l_cell_at T.F_l_cell_at.kp (b_l_cell_at T) .nil pass0 (pa_cons (pv 0) (pa_cons (pe_int) (pa_nil) star_con))) (pe_int)))) ?rest2
      case rest2 =>
       refine' @pss_cons _ _ _ _ _ (ps_set (i := 3) sc_law.nd rfl (Or.inl rfl) (pe_call (ok_l_ways_by T) (hr.mono (by decide)) rfl T.mg_l_ways_by T.F_l_ways_by.kp (b_l_ways_by T) .nil pass0 (pa_cons (pe_call (ok_l_cell_at T) (hr.mono (by decide)) rfl T.mg_l_cell_at T.F_l_cell_at.kp (b_l_cell_at T) .nil pass0 (pa_cons (pv 0) (pa_cons (pe_int) (pa_nil) star_con))) (pa_cons (pv 1) (pa_cons (pv 2) (pa_nil)))))) ?rest3
       case rest3 =>
        refine' @pss_cons _ _ _ _ _ (ps_set (i := 4) sc_law.nd rfl (Or.inl rfl) (pe_call (ok_l_lamps_by T) (hr.mono (by decide)) rfl T.mg_l_lamps_by T.F_l_lamps_by.kp (b_l_lamps_by T) .nil pass0 (pa_cons (pe_call (ok_l_cell_at T) (hr.mono (by decide)) rfl T.mg_l_cell_at T.F_l_cell_at.kp (b_l_cell_at T) .nil pass0 (pa_cons (pv 0) (pa_cons (pe_int) (pa_nil) star_con))) (pa_cons (pv 2) (pa_nil))))) ?rest4
        case rest4 =>
         refine' @pss_cons _ _ _ _ _ (ps_set (i := 5) sc_law.nd rfl (Or.inl rfl) (pe_call (ok_l_text_of T) (hr.mono (by decide)) rfl T.mg_l_text_of T.F_l_text_of.kp (b_l_text_of T) .nil pass0 (pa_cons (pv 1) (pa_cons (pv 3) (pa_cons (pv 4) (pa_nil)))))) ?rest5
         case rest5 =>
          refine' @pss_cons _ _ _ _ _ (ps_set (i := 6) sc_law.nd rfl (Or.inl rfl) (pe_op op_mod (pe_call (ok_l_cell_at T) (hr.mono (by decide)) rfl T.mg_l_cell_at T.F_l_cell_at.kp (b_l_cell_at T) .nil pass0 (pa_cons (pv 0) (pa_cons (pe_int) (pa_nil) star_con))) (pe_int))) ?rest6
          case rest6 =>
           refine' @pss_cons _ _ _ _ _ (ps_set (i := 7) sc_law.nd rfl (Or.inl rfl) (pe_call (ok_l_cell_at T) (hr.mono (by decide)) rfl T.mg_l_cell_at T.F_l_cell_at.kp (b_l_cell_at T) .nil pass0 (pa_cons (pv 0) (pa_cons (pe_int) (pa_nil) star_con)))) ?rest7
           case rest7 =>
            refine' @pss_cons _ _ _ _ _ (ps_set (i := 8) sc_law.nd rfl (Or.inl rfl) (pe_op op_add (pe_int) (pe_op op_mod (pe_call (ok_l_cell_at T) (hr.mono (by decide)) rfl T.mg_l_cell_at T.F_l_cell_at.kp (b_l_cell_at T) .nil pass0 (pa_cons (pv 0) (pa_cons (pe_int) (pa_nil) star_con))) (pv 2)))) ?rest8
            case rest8 =>
             refine' @pss_cons _ _ _ _ _ (ps_set (i := 9) sc_law.nd rfl (Or.inl rfl) (pe_op op_add (pe_int) (pe_op op_mod (pe_call (ok_l_cell_at T) (hr.mono (by decide)) rfl T.mg_l_cell_at T.F_l_cell_at.kp (b_l_cell_at T) .nil pass0 (pa_cons (pv 0) (pa_cons (pe_int) (pa_nil) star_con))) (pv 1)))) ?rest9
             case rest9 =>
              refine' @pss_cons _ _ _ _ _ (ps_join (ps_if (PW.pt (pw_or (pt_cmpR op_eq (pv 6) (pe_int) (nomark _)) (pw_or1 (pt_cmpR op_eq (pv 6) (pe_int) (nomark _))))) ?bt10 ?be10)) ?rest10
              case bt10 =>
               refine' @pss_one _ _ _ (ps_asg (pe_call (ok_l_odd_number T) (hr.mono (by decide)) rfl T.mg_l_odd_number T.F_l_odd_number.kp (b_l_odd_number T) .nil pass0 (pa_cons (pv 7) (pa_cons (pe_ix (ix_listK K) (pe_ix (ix_listK K) (pv 5) (pv 8) (fun _ _ => rfl)) (pv 9) (fun _ _ => rfl)) (pa_cons (pv 2) (pa_nil))))) (pg_sub (pe_ix (ix_listK K) (pv 5) (pv 8) (fun _ _ => rfl)) (pv 9) set_list))
              case be10 =>
               exact pss_nil
              case rest10 =>
               refine' @pss_cons _ _ _ _ _ (ps_join (ps_if (pt_cmpR op_eq (pv 6) (pe_int) (nomark _)) ?bt12 ?be12)) ?rest12
               case bt12 =>
                refine' @pss_one _ _ _ (ps_expr (pe_bmK K PySem.F.plainAttrs_list PySem.F.slot_list_append PySem.F.type_list_append mt_append (pe_ix (ix_listK K) (pv 5) (pv 8) (fun _ _ => rfl)) (pa_cons (pe_callTy call_str_int rfl T.m_str boot_str (pa_cons (pe_op op_mod (pv 7) (pv 2)) (pa_nil))) (pa_nil))))
               case be12 =>
                exact pss_nil
               case rest12 =>
                refine' @pss_cons _ _ _ _ _ (ps_join (ps_if (pt_cmpR op_eq (pv 6) (pe_int) (nomark _)) ?bt14 ?be14)) ?rest14
                case bt14 =>
                 refine' @pss_one _ _ _ (ps_expr (pe_bm0K K PySem.F.plainAttrs_list PySem.F.slot_list_pop PySem.F.type_list_pop mt_pop (pe_ix (ix_listK K) (pv 5) (pv 8) (fun _ _ => rfl))))
                case be14 =>
                 exact pss_nil
                case rest14 =>
                 refine' @pss_cons _ _ _ _ _ (ps_join (ps_if (pt_cmpR op_eq (pv 6) (pe_int) (nomark _)) ?bt16 ?be16)) ?rest16
                 case bt16 =>
                  refine' @pss_one _ _ _ (ps_asg (pe_ix (ix_listK K) (pe_lst (pa_cons (pe_str) (pa_cons (pe_str) (pa_cons (pe_str) (pa_cons (pe_str) (pa_cons (pe_str) (pa_cons (pe_str) (pa_cons (pe_str) (pa_cons (pe_str) (pa_nil) star_con) star_con) star_con) star_con) star_con) star_con) star_con) star_con)) (pe_op op_mod (pv 7) (pe_int)) (fun _ _ => rfl)) (pg_sub (pe_ix (ix_listK K) (pv 5) (pv 8) (fun _ _ => rfl)) (pe_int) set_list))
                 case be16 =>
                  exact pss_nil
                 case rest16 =>
                  refine' @pss_cons _ _ _ _ _ (ps_set (i := 10) sc_law.nd rfl (Or.inl rfl) (pe_bmK K PySem.F.plainAttrs_str PySem.F.slot_str_join PySem.F.type_str_join (mt_join K) (pe_str) (pa_cons (pe_comp (N := ["script", "doors", "rooms", "ways", "lamps", "rows", "way", "cell", "at", "door", "text", "place", "some"]) (sc0 := (defScope s_law)) (N' := ["row"]) (caps := [none]) (by exact ⟨rfl, by decide +kernel, by decide +kernel, by decide +kernel, rfl, rfl, by decide +kernel⟩) rfl (pi_listK K (pv 5)) (fun _ _ _ _ _ _ => pg_name (i := 0) (show List.Nodup (["row"] : List Str) from by decide +kernel) rfl (Or.inl rfl)) (fun _ _ _ _ _ _ => pe_bmK K PySem.F.plainAttrs_str PySem.F.slot_str_join PySem.F.type_str_join (mt_join K) (pe_str) (pa_cons (pv 0) (pa_nil)))) (pa_nil)))) ?rest18
                  case rest18 =>
                   refine' @pss_cons _ _ _ _ _ (ps_join (ps_if (pt_cmpR op_eq (pv 6) (pe_int) (nomark _)) ?bt19 ?be19)) ?rest19
                   case bt19 =>
                    refine' @pss_cons _ _ _ _ _ (ps_set (i := 11) sc_law.nd rfl (Or.inl rfl) (pe_op op_mod (pe_call (ok_l_cell_at T) (hr.mono (by decide)) rfl T.mg_l_cell_at T.F_l_cell_at.kp (b_l_cell_at T) .nil pass0 (pa_cons (pv 0) (pa_cons (pe_int) (pa_nil) star_con))) (pe_op op_add (pe_callB call_len_str rfl T.m_len PySem.boot_len (pa_cons (pv 10) (pa_nil))) (pe_int)))) ?rest20
                    case rest20 =>
                     refine' @pss_one _ _ _ (ps_set (i := 10) sc_law.nd rfl (Or.inl rfl) (pe_op op_add_str (pe_op op_add_str (pe_slice sl_str2 (pv 10) (po_none) (po_some (pv 11))) (pe_ix (ix_listK K) (pe_lst (pa_cons (pe_str) (pa_cons (pe_str) (pa_nil) star_con) star_con)) (pe_op op_mod (pv 7) (pe_int)) (fun _ _ => rfl))) (pe_slice sl_str2 (pv 10) (po_some (pv 11)) (po_none))))
                   case be19 =>
                    exact pss_nil
                   case rest19 =>
                    refine' @pss_cons _ _ _ _ _ (ps_join (ps_if (pt_cmpR op_eq (pv 6) (pe_int) (nomark _)) ?bt22 ?be22)) ?rest22
                    case bt22 =>
                     refine' @pss_cons _ _ _ _ _ (@ps_set _ _ 12 _ _ _ _ sc_law.nd rfl (Or.inl rfl) (@pe_s9 _ _ _ _ _ _ _ _ _ _ _ _ _ _ _ _ _ _ _ _ _ _ _ _ _ _ _ _ _) (@swaps_lst _ _ _ _ _) (Or.inr rfl)) ?rest23
                     case rest23 =>
                      refine' @pss_cons _ _ _ _ _ (ps_set (i := 12) sc_law.nd rfl (Or.inl rfl) (pe_op op_cat (pv 12) (pe_lst (pa_cons (pe_str) (pa_cons (pe_str) (pa_cons (pe_str) (pa_cons (pe_str) (pa_cons (pe_str) (pa_nil) star_con) star_con) star_con) star_con) star_con)))) ?rest24
                      case rest24 =>
                       refine' @pss_cons _ _ _ _ _ (ps_asg (pe_lst (pa_cons (pe_ix (ix_listK K) (pv 12) (pe_op op_mod (pv 7) (pe_int)) (fun _ _ => rfl)) (pa_nil))) (pg_sub (pv 5) (pe_int) set_list)) ?rest25
                       case rest25 =>
                        refine' @pss_one _ _ _ (ps_set (i := 10) sc_law.nd rfl (Or.inl rfl) (pe_bmK K PySem.F.plainAttrs_str PySem.F.slot_str_join PySem.F.type_str_join (mt_join K) (pe_str) (pa_cons (pe_comp (N := ["script", "doors", "rooms", "ways", "lamps", "rows", "way", "cell", "at", "door", "text", "place", "some"]) (sc0 := (defScope s_law)) (N' := ["row"]) (caps := [none]) (by exact ⟨rfl, by decide +kernel, by decide +kernel, by decide +kernel, rfl, rfl, by decide +kernel⟩) rfl (pi_listK K (pv 5)) (fun _ _ _ _ _ _ => pg_name (i := 0) (show List.Nodup (["row"] : List Str) from by decide +kernel) rfl (Or.inl rfl)) (fun _ _ _ _ _ _ => pe_bmK K PySem.F.plainAttrs_str PySem.F.slot_str_join PySem.F.type_str_join (mt_join K) (pe_str) (pa_cons (pv 0) (pa_nil)))) (pa_nil))))
                    case be22 =>
                     exact pss_nil
                    case rest22 =>
                     refine' @pss_cons _ _ _ _ _ (ps_join (ps_if (pt_cmpR op_eq (pv 6) (pe_int) (nomark _)) ?bt27 ?be27)) ?rest27
                     case bt27 =>
                      refine' @pss_one _ _ _ (ps_set (i := 10) sc_law.nd rfl (Or.inl rfl) (pe_op op_add_str (pe_str) (pe_callTy call_str_int rfl T.m_str boot_str (pa_cons (pv 1) (pa_nil)))))
                     case be27 =>
                      exact pss_nil
                     case rest27 =>
                      refine' @pss_cons _ _ _ _ _ (ps_if (pt_cmpR op_eq (pv 6) (pe_int) (nomark _)) ?bt29 ?be29) ?rest29
                      case bt29 =>
                       refine' @pss_one _ _ _ (ps_ret (pe_call (ok_l_house_is T) (hr.mono (by decide)) rfl T.mg_l_house_is T.F_l_house_is.kp (b_l_house_is T) .nil pass0 (pa_cons (pe_call (ok_read T) (hr.mono (by decide)) rfl T.mg_read T.F_read.kp (b_read T) .nil pass0X (pa_cons (pv 10) (pa_nil))) (pa_cons (pv 1) (pa_cons (pv 3) (pa_cons (pv 4) (pa_nil)))))))
                      case be29 =>
                       exact pss_nil
                      case rest29 =>
                       refine' @pss_one _ _ _ (ps_ret (pe_call (ok_l_refused T) (hr.mono (by decide)) rfl T.mg_l_refused T.F_l_refused.kp (b_l_refused T) .nil pass0 (pa_cons (pv 10) (pa_nil))))
    repeat walk_at "sx"
    refine ⟨a, ns, 0, rfl, hS, by decide, ?_⟩
    repeat walk_at "sx"
    refine ⟨a, ns, 1, rfl, hS, by decide, ?_⟩
    repeat walk_at "sx"
    obtain ⟨d, hd⟩ : ∃ d, d = 1 + cellv ns 0 % 6 := ⟨_, rfl⟩
    obtain ⟨r, hr⟩ : ∃ r, r = 1 + cellv ns 1 % 15 := ⟨_, rfl⟩
    have hd1 : 1 ≤ d := by omega
    have hd6 : d ≤ 6 := by omega
    have hr1 : 1 ≤ r := by omega
    have hr2 : r ≤ 15 := by omega
    rw [← hd, ← hr]
    refine ⟨a, ns, 2, rfl, hS, by decide, ?_⟩
    repeat walk_at "sx"
    refine ⟨_, d, r, rfl, by omega, by omega, by omega, by omega, fun aw rs H1 hs1 M1 new1 => ?_⟩
    repeat walk_at "sx"
    refine ⟨a, ns, 3, rfl, sqL_same hs1 hS, by decide, ?_⟩
    repeat walk_at "sx"
    refine ⟨_, r, rfl, by omega, by omega, fun al hal => ?_⟩
    repeat walk_at "sx"
    have hs2 : Same H1 (upd H1 al (.lst ((lampsBy (cellv ns 3) r).map V.bl))) := Same.upd_new hal
    have al2 : (upd H1 al (.lst ((lampsBy (cellv ns 3) r).map V.bl))) al = some (.lst ((lampsBy (cellv ns 3) r).map V.bl)) := upd_same
    generalize upd H1 al (.lst ((lampsBy (cellv ns 3) r).map V.bl)) = H2 at hs2 al2 ⊢
    have M2 : Mat H2 aw rs (waysBy (cellv ns 2) d r) := M1.same hs2
    have hW : Ways d (waysBy (cellv ns 2) d r) := waysBy_ok _ (by omega) (by omega)
    have hWl : (waysBy (cellv ns 2) d r).length = r.toNat := waysBy_len _ _ _
    have hLl : (lampsBy (cellv ns 3) r).length = r.toNat := lampsBy_len _ _
    generalize waysBy (cellv ns 2) d r = rss at M2 hW hWl ⊢
    generalize lampsBy (cellv ns 3) r = ls at al2 hLl ⊢
    have Vd : Valid d rss ls := { row := hW.row, d1 := hd1, d6 := hd6, r1 := by omega, r400 := by omega, ll := by omega }
    have h15 : rss.length ≤ 15 := by omega
    clear M1 new1
    refine ⟨d, aw, rs, rss, al, ls, rfl, M2, al2, Vd, fun H3 ra rg s3 G3 new3 => ?_⟩
    have hS2 : SqL K H2 a (ns.map V.int) := sqL_same (hs1.trans hs2) hS
    repeat walk_at "sx"
    refine ⟨a, ns, 4, rfl, sqL_same s3 hS2, by decide, ?_⟩
    repeat walk_at "sx"
    refine ⟨a, ns, 5, rfl, sqL_same s3 hS2, by decide, ?_⟩
    repeat walk_at "sx"
    refine ⟨a, ns, 6, rfl, sqL_same s3 hS2, by decide, ?_⟩
    repeat walk_at "sx"
    refine ⟨a, ns, 7, rfl, sqL_same s3 hS2, by decide, ?_⟩
    repeat walk_at "sx"
    have hrl : r = rss.length := by omega
    have b6 : 0 ≤ cellv ns 6 % r := Int.emod_nonneg _ (by omega)
    have b6' := Int.emod_lt_of_pos (cellv ns 6) (show 0 < r by omega)
    have b7 : 0 ≤ cellv ns 7 % d := Int.emod_nonneg _ (by omega)
    have b7' := Int.emod_lt_of_pos (cellv ns 7) (show 0 < d by omega)
    refine st1 Vd hrl hr2 s3 G3 new3 (by omega) (by omega) (by omega) (by omega) (fun H4 g4 s4 G4 t4 => ?_)
    repeat walk_at "sx"
    refine st3 Vd hrl hr2 s4 G4 t4 new3 (by omega) (by omega) (fun H5 g5 s5 G5 t5 => ?_)
    repeat walk_at "sx"
    refine st4 Vd hrl hr2 s5 G5 t5 new3 (by omega) (by omega) (fun H6 g6 s6 G6 t6 => ?_)
    repeat walk_at "sx"
    refine st5 Vd hrl hr2 s6 G6 t6 new3 (by omega) (by omega) (fun H7 g7 s7 G7 t7 => ?_)
    have F7 : FineG g7 := by
      by_cases h : 1 ≤ cellv ns 4 % 9 ∧ cellv ns 4 % 9 ≤ 5
      · exact (t7.1 h).2
      · rw [t7.2 h]; exact gridOf_fine Vd h15
    (first | with_reducible refine r_snx ?_ | with_reducible refine r_nx ?_)
    with_reducible refine r_seq ?_
    with_reducible refine r_asg ?_
    refine stT G7 F7 (fun H8 s8 => ?_)
    have t8 : TurnX d rss ls (cellv ns 4 % 9) 5 (gridT g7) := ⟨F7.size, fun h => (t7.1 h).1, fun h => by rw [t7.2 h, grid_text]⟩
    generalize gridT g7 = x8 at t8 ⊢
    repeat walk_at "sx"
    refine st6 Vd h15 (sqL_same (s7.trans s8) hS2) t8 (fun H9 x9 y11 s9 t9 => ?_)
    repeat walk_at "sx"
    have s29 := (s7.trans s8).trans s9
    refine st7 Vd h15 (G7.same (s8.trans s9)) t7 t9 s29 (new3 ra (by simp)) (fun Ha xa y12 sa ta => ?_)
    repeat walk_at "sx"
    refine st8 Vd ta (fun xb tb => ?_)
    (first | with_reducible refine r_snx ?_ | with_reducible refine r_nx ?_)
    exact stE Vd tb ⟨by omega, by omega⟩ (M2.same sa) (sa _ _ al2) q
end
theorem txt_mk {K : PySem.W.Frag} {h : Heap} {mg : Str → Option Value} (X : K.In h) (G : h.Ns mainGlobals mg) {tk_MOST_DOORS : Tok} {tk_MOST_ROOMS : Tok} {tk_HEADING : Tok} {C_House : Addr} {C_HouseError : Addr} {C_BadHouse : Addr} {C_BadWord : Addr} {C_BadText : Addr} {f_check_doors : Addr} {oc_check_doors kV_check_doors dc_check_doors pm_check_doors cd_check_doors ct_check_doors : Value} {od_check_doors an_check_doors : Option Addr} {sl_check_doors : Array (Option Value)} {f_check_house : Addr} {oc_check_house kV_check_house dc_check_house pm_check_house cd_check_house ct_check_house : Value} {od_check_house an_check_house : Option Addr} {sl_check_house : Array (Option Value)} {f_House_init : Addr} {oc_House_init kV_House_init dc_House_init pm_House_init cd_House_init ct_House_init : Value} {od_House_init an_House_init : Option Addr} {sl_House_init : Array (Option Value)} {f_House_rooms : Addr} {oc_House_rooms kV_House_rooms dc_House_rooms pm_House_rooms cd_House_rooms ct_House_rooms : Value} {od_House_rooms an_House_rooms : Option Addr} {sl_House_rooms : Array (Option Value)} {f_written_numbers : Addr} {oc_written_numbers kV_written_numbers dc_written_numbers pm_written_numbers cd_written_numbers ct_written_numbers : Value} {od_written_numbers an_written_numbers : Option Addr} {sl_written_numbers : Array (Option Value)} {f_number_of : Addr} {oc_number_of kV_number_of dc_number_of pm_number_of cd_number_of ct_number_of : Value} {od_number_of an_number_of : Option Addr} {sl_number_of : Array (Option Value)} {f_lamp_of : Addr} {oc_lamp_of kV_lamp_of dc_lamp_of pm_lamp_of cd_lamp_of ct_lamp_of : Value} {od_lamp_of an_lamp_of : Option Addr} {sl_lamp_of : Array (Option Value)} {f_doors_of : Addr} {oc_doors_of kV_doors_of dc_doors_of pm_doors_of cd_doors_of ct_doors_of : Value} {od_doors_of an_doors_of : Option Addr} {sl_doors_of : Array (Option Value)} {f_read : Addr} {oc_read kV_read dc_read pm_read cd_read ct_read : Value} {od_read an_read : Option Addr} {sl_read : Array (Option Value)} {f_l_cell_at : Addr} {oc_l_cell_at kV_l_cell_at dc_l_cell_at pm_l_cell_at cd_l_cell_at ct_l_cell_at : Value} {od_l_cell_at an_l_cell_at : Option Addr} {sl_l_cell_at : Array (Option Value)} {f_l_draw : Addr} {oc_l_draw kV_l_draw dc_l_draw pm_l_draw cd_l_draw ct_l_draw : Value} {od_l_draw an_l_draw : Option Addr} {sl_l_draw : Array (Option Value)} {f_l_ways_by : Addr} {oc_l_ways_by kV_l_ways_by dc_l_ways_by pm_l_ways_by cd_l_ways_by ct_l_ways_by : Value} {od_l_ways_by an_l_ways_by : Option Addr} {sl_l_ways_by : Array (Option Value)} {f_l_lamps_by : Addr} {oc_l_lamps_by kV_l_lamps_by dc_l_lamps_by pm_l_lamps_by cd_l_lamps_by ct_l_lamps_by : Value} {od_l_lamps_by an_l_lamps_by : Option Addr} {sl_l_lamps_by : Array (Option Value)} {f_l_whole : Addr} {oc_l_whole kV_l_whole dc_l_whole pm_l_whole cd_l_whole ct_l_whole : Value} {od_l_whole an_l_whole : Option Addr} {sl_l_whole : Array (Option Value)} {f_l_numbers : Addr} {oc_l_numbers kV_l_numbers dc_l_numbers pm_l_numbers cd_l_numbers ct_l_numbers : Value} {od_l_numbers an_l_numbers : Option Addr} {sl_l_numbers : Array (Option Value)} {f_l_truths : Addr} {oc_l_truths kV_l_truths dc_l_truths pm_l_truths cd_l_truths ct_l_truths : Value} {od_l_truths an_l_truths : Option Addr} {sl_l_truths : Array (Option Value)} {f_l_house_is : Addr} {oc_l_house_is kV_l_house_is dc_l_house_is pm_l_house_is cd_l_house_is ct_l_house_is : Value} {od_l_house_is an_l_house_is : Option Addr} {sl_l_house_is : Array (Option Value)} {f_l_stands_under : Addr} {oc_l_stands_under kV_l_stands_under dc_l_stands_under pm_l_stands_under cd_l_stands_under ct_l_stands_under : Value} {od_l_stands_under an_l_stands_under : Option Addr} {sl_l_stands_under : Array (Option Value)} {f_l_refused : Addr} {oc_l_refused kV_l_refused dc_l_refused pm_l_refused cd_l_refused ct_l_refused : Value} {od_l_refused an_l_refused : Option Addr} {sl_l_refused : Array (Option Value)} {f_l_odd_number : Addr} {oc_l_odd_number kV_l_odd_number dc_l_odd_number pm_l_odd_number cd_l_odd_number ct_l_odd_number : Value} {od_l_odd_number an_l_odd_number : Option Addr} {sl_l_odd_number : Array (Option Value)} {f_l_text_of : Addr} {oc_l_text_of kV_l_text_of dc_l_text_of pm_l_text_of cd_l_text_of ct_l_text_of : Value} {od_l_text_of an_l_text_of : Option Addr} {sl_l_text_of : Array (Option Value)} {f_law : Addr} {oc_law kV_law dc_law pm_law cd_law ct_law : Value} {od_law an_law : Option Addr} {sl_law : Array (Option Value)}
    (z_len : PySem.W.nsIn K mainGlobals "len" = some none)
    (z_range : PySem.W.nsIn K mainGlobals "range" = some none)
    (z_isinstance : PySem.W.nsIn K mainGlobals "isinstance" = some none)
    (z_list : PySem.W.nsIn K mainGlobals "list" = some none)
    (z_int : PySem.W.nsIn K mainGlobals "int" = some none)
    (z_bool : PySem.W.nsIn K mainGlobals "bool" = some none)
    (z_enumerate : PySem.W.nsIn K mainGlobals "enumerate" = some none)
    (z_str : PySem.W.nsIn K mainGlobals "str" = some none)
    (z_ValueError : PySem.W.nsIn K mainGlobals "ValueError" = some none)
    (c_MOST_DOORS : PySem.W.nsIn K mainGlobals "MOST_DOORS" = some (some (.int 6 tk_MOST_DOORS)))
    (c_MOST_ROOMS : PySem.W.nsIn K mainGlobals "MOST_ROOMS" = some (some (.int 400 tk_MOST_ROOMS)))
    (c_HEADING : PySem.W.nsIn K mainGlobals "HEADING" = some (some (.str "doors " tk_HEADING)))
    (a_House : PySem.W.nsIn K mainGlobals "House" = some (some (.ref C_House)))
    (pg_House : PySem.W.plainGet K C_House Str.empty = true)
    (hd_House : PySem.W.hasDictIn K C_House = true)
    (po_House : PySem.W.plainOver K C_House = true)
    (sa_House : PySem.W.findIn K (.ref C_House) "__setattr__" = some (some (.builtin "object.__setattr__")))
    (mk_House : PySem.W.makesIn K C_House = true)
    (kc_House : PySem.W.keepIn K (.ref C_House) = true)
    (tc_House : PySem.W.findIn K (.ref C_House) "__class__" = some (some (.builtin "object.__class__")))
    (tm_House : PySem.W.mroIn K C_House (.type "object") = some true)
    (n_House_doors : PySem.W.findIn K (.ref C_House) "doors" = some none)
    (n_House_ways : PySem.W.findIn K (.ref C_House) "ways" = some none)
    (n_House_lamps : PySem.W.findIn K (.ref C_House) "lamps" = some none)
    (a_HouseError : PySem.W.nsIn K mainGlobals "HouseError" = some (some (.ref C_HouseError)))
    (x_HouseError : PySem.W.excIn K C_HouseError bmV "ValueError.__new__" = true)
    (g1_HouseError : PySem.W.findIn K (.ref C_HouseError) "__getattribute__" = some (some (.builtin "BaseException.__getattribute__")))
    (g2_HouseError : PySem.W.findIn K (.ref C_HouseError) "__getattr__" = some none)
    (g3_HouseError : PySem.W.findIn K (.ref C_HouseError) "__class__" = some (some (.builtin "object.__class__")))
    (g4_HouseError : PySem.W.isClsIn K C_HouseError = true)
    (ty_HouseError : PySem.W.typeIn K (.ref C_HouseError) = some (.type "type"))
    (mv_HouseError : PySem.W.mroIn K C_HouseError (.type "ValueError") = some true)
    (ms_HouseError : PySem.W.mroIn K C_HouseError (.ref C_HouseError) = some true)
    (a_BadHouse : PySem.W.nsIn K mainGlobals "BadHouse" = some (some (.ref C_BadHouse)))
    (x_BadHouse : PySem.W.excIn K C_BadHouse bmV "ValueError.__new__" = true)
    (g1_BadHouse : PySem.W.findIn K (.ref C_BadHouse) "__getattribute__" = some (some (.builtin "BaseException.__getattribute__")))
    (g2_BadHouse : PySem.W.findIn K (.ref C_BadHouse) "__getattr__" = some none)
    (g3_BadHouse : PySem.W.findIn K (.ref C_BadHouse) "__class__" = some (some (.builtin "object.__class__")))
    (g4_BadHouse : PySem.W.isClsIn K C_BadHouse = true)
    (ty_BadHouse : PySem.W.typeIn K (.ref C_BadHouse) = some (.type "type"))
    (mv_BadHouse : PySem.W.mroIn K C_BadHouse (.type "ValueError") = some true)
    (ms_BadHouse : PySem.W.mroIn K C_BadHouse (.ref C_BadHouse) = some true)
    (a_BadWord : PySem.W.nsIn K mainGlobals "BadWord" = some (some (.ref C_BadWord)))
    (x_BadWord : PySem.W.excIn K C_BadWord bmV "ValueError.__new__" = true)
    (g1_BadWord : PySem.W.findIn K (.ref C_BadWord) "__getattribute__" = some (some (.builtin "BaseException.__getattribute__")))
    (g2_BadWord : PySem.W.findIn K (.ref C_BadWord) "__getattr__" = some none)
    (g3_BadWord : PySem.W.findIn K (.ref C_BadWord) "__class__" = some (some (.builtin "object.__class__")))
    (g4_BadWord : PySem.W.isClsIn K C_BadWord = true)
    (ty_BadWord : PySem.W.typeIn K (.ref C_BadWord) = some (.type "type"))
    (mv_BadWord : PySem.W.mroIn K C_BadWord (.type "ValueError") = some true)
    (ms_BadWord : PySem.W.mroIn K C_BadWord (.ref C_BadWord) = some true)
    (a_BadText : PySem.W.nsIn K mainGlobals "BadText" = some (some (.ref C_BadText)))
    (x_BadText : PySem.W.excIn K C_BadText bmV "ValueError.__new__" = true)
    (g1_BadText : PySem.W.findIn K (.ref C_BadText) "__getattribute__" = some (some (.builtin "BaseException.__getattribute__")))
    (g2_BadText : PySem.W.findIn K (.ref C_BadText) "__getattr__" = some none)
    (g3_BadText : PySem.W.findIn K (.ref C_BadText) "__class__" = some (some (.builtin "object.__class__")))
    (g4_BadText : PySem.W.isClsIn K C_BadText = true)
    (ty_BadText : PySem.W.typeIn K (.ref C_BadText) = some (.type "type"))
    (mv_BadText : PySem.W.mroIn K C_BadText (.type "ValueError") = some true)
    (ms_BadText : PySem.W.mroIn K C_BadText (.ref C_BadText) = some true)
    (mr_BadText_HouseError : PySem.W.mroIn K C_BadText (.ref C_HouseError) = some true)
    (mr_HouseError_BadText : PySem.W.mroIn K C_HouseError (.ref C_BadText) = some false)
    (mr_BadText_BadHouse : PySem.W.mroIn K C_BadText (.ref C_BadHouse) = some false)
    (mr_BadText_BadWord : PySem.W.mroIn K C_BadText (.ref C_BadWord) = some false)
    (tg : PySem.W.specialIn K (.builtin "object.__class__") "__get__" = some (some (.builtin "getset_descriptor.__get__")))
    (tt : PySem.W.takesIn K (.builtin "object.__class__") = some true)
    (a_check_doors : PySem.W.nsIn K mainGlobals "check_doors" = some (some (.ref f_check_doors)))
    (l_check_doors : K.lookup f_check_doors = some ⟨oc_check_doors, od_check_doors, .func (PySem.W.fnOf "check_doors" "check_doors" (defArgs s_check_doors) (defBody s_check_doors) (defScope s_check_doors) .none kV_check_doors dc_check_doors pm_check_doors an_check_doors cd_check_doors ct_check_doors), sl_check_doors⟩)
    (c_check_doors : PySem.W.codeIn K cd_check_doors "check_doors" = true)
    (k_check_doors : PySem.W.keepIn K (.ref f_check_doors) = true)
    (a_check_house : PySem.W.nsIn K mainGlobals "check_house" = some (some (.ref f_check_house)))
    (l_check_house : K.lookup f_check_house = some ⟨oc_check_house, od_check_house, .func (PySem.W.fnOf "check_house" "check_house" (defArgs s_check_house) (defBody s_check_house) (defScope s_check_house) .none kV_check_house dc_check_house pm_check_house an_check_house cd_check_house ct_check_house), sl_check_house⟩)
    (c_check_house : PySem.W.codeIn K cd_check_house "check_house" = true)
    (k_check_house : PySem.W.keepIn K (.ref f_check_house) = true)
    (a_House_init : PySem.W.findIn K (.ref C_House) "__init__" = some (some (.ref f_House_init)))
    (i_House_init : PySem.W.isFn K (.ref f_House_init) = true)
    (l_House_init : K.lookup f_House_init = some ⟨oc_House_init, od_House_init, .func (PySem.W.fnOf "__init__" "House.__init__" (defArgs s_House_init) (defBody s_House_init) (defScope s_House_init) .none kV_House_init dc_House_init pm_House_init an_House_init cd_House_init ct_House_init), sl_House_init⟩)
    (c_House_init : PySem.W.codeIn K cd_House_init "House.__init__" = true)
    (k_House_init : PySem.W.keepIn K (.ref f_House_init) = true)
    (a_House_rooms : PySem.W.findIn K (.ref C_House) "rooms" = some (some (.ref f_House_rooms)))
    (i_House_rooms : PySem.W.isFn K (.ref f_House_rooms) = true)
    (l_House_rooms : K.lookup f_House_rooms = some ⟨oc_House_rooms, od_House_rooms, .func (PySem.W.fnOf "rooms" "House.rooms" (defArgs s_House_rooms) (defBody s_House_rooms) (defScope s_House_rooms) .none kV_House_rooms dc_House_rooms pm_House_rooms an_House_rooms cd_House_rooms ct_House_rooms), sl_House_rooms⟩)
    (c_House_rooms : PySem.W.codeIn K cd_House_rooms "House.rooms" = true)
    (k_House_rooms : PySem.W.keepIn K (.ref f_House_rooms) = true)
    (a_written_numbers : PySem.W.nsIn K mainGlobals "written_numbers" = some (some (.ref f_written_numbers)))
    (l_written_numbers : K.lookup f_written_numbers = some ⟨oc_written_numbers, od_written_numbers, .func (PySem.W.fnOf "written_numbers" "written_numbers" (defArgs s_written_numbers) (defBody s_written_numbers) (defScope s_written_numbers) .none kV_written_numbers dc_written_numbers pm_written_numbers an_written_numbers cd_written_numbers ct_written_numbers), sl_written_numbers⟩)
    (c_written_numbers : PySem.W.codeIn K cd_written_numbers "written_numbers" = true)
    (k_written_numbers : PySem.W.keepIn K (.ref f_written_numbers) = true)
    (a_number_of : PySem.W.nsIn K mainGlobals "number_of" = some (some (.ref f_number_of)))
    (l_number_of : K.lookup f_number_of = some ⟨oc_number_of, od_number_of, .func (PySem.W.fnOf "number_of" "number_of" (defArgs s_number_of) (defBody s_number_of) (defScope s_number_of) .none kV_number_of dc_number_of pm_number_of an_number_of cd_number_of ct_number_of), sl_number_of⟩)
    (c_number_of : PySem.W.codeIn K cd_number_of "number_of" = true)
    (k_number_of : PySem.W.keepIn K (.ref f_number_of) = true)
    (a_lamp_of : PySem.W.nsIn K mainGlobals "lamp_of" = some (some (.ref f_lamp_of)))
    (l_lamp_of : K.lookup f_lamp_of = some ⟨oc_lamp_of, od_lamp_of, .func (PySem.W.fnOf "lamp_of" "lamp_of" (defArgs s_lamp_of) (defBody s_lamp_of) (defScope s_lamp_of) .none kV_lamp_of dc_lamp_of pm_lamp_of an_lamp_of cd_lamp_of ct_lamp_of), sl_lamp_of⟩)
    (c_lamp_of : PySem.W.codeIn K cd_lamp_of "lamp_of" = true)
    (k_lamp_of : PySem.W.keepIn K (.ref f_lamp_of) = true)
    (a_doors_of : PySem.W.nsIn K mainGlobals "doors_of" = some (some (.ref f_doors_of)))
    (l_doors_of : K.lookup f_doors_of = some ⟨oc_doors_of, od_doors_of, .func (PySem.W.fnOf "doors_of" "doors_of" (defArgs s_doors_of) (defBody s_doors_of) (defScope s_doors_of) .none kV_doors_of dc_doors_of pm_doors_of an_doors_of cd_doors_of ct_doors_of), sl_doors_of⟩)
    (c_doors_of : PySem.W.codeIn K cd_doors_of "doors_of" = true)
    (k_doors_of : PySem.W.keepIn K (.ref f_doors_of) = true)
    (a_read : PySem.W.nsIn K mainGlobals "read" = some (some (.ref f_read)))
    (l_read : K.lookup f_read = some ⟨oc_read, od_read, .func (PySem.W.fnOf "read" "read" (defArgs s_read) (defBody s_read) (defScope s_read) .none kV_read dc_read pm_read an_read cd_read ct_read), sl_read⟩)
    (c_read : PySem.W.codeIn K cd_read "read" = true)
    (k_read : PySem.W.keepIn K (.ref f_read) = true)
    (a_l_cell_at : PySem.W.nsIn K mainGlobals "_law_cell_at" = some (some (.ref f_l_cell_at)))
    (l_l_cell_at : K.lookup f_l_cell_at = some ⟨oc_l_cell_at, od_l_cell_at, .func (PySem.W.fnOf "_law_cell_at" "_law_cell_at" (defArgs s_l_cell_at) (defBody s_l_cell_at) (defScope s_l_cell_at) .none kV_l_cell_at dc_l_cell_at pm_l_cell_at an_l_cell_at cd_l_cell_at ct_l_cell_at), sl_l_cell_at⟩)
    (c_l_cell_at : PySem.W.codeIn K cd_l_cell_at "_law_cell_at" = true)
    (k_l_cell_at : PySem.W.keepIn K (.ref f_l_cell_at) = true)
    (a_l_draw : PySem.W.nsIn K mainGlobals "_law_draw" = some (some (.ref f_l_draw)))
    (l_l_draw : K.lookup f_l_draw = some ⟨oc_l_draw, od_l_draw, .func (PySem.W.fnOf "_law_draw" "_law_draw" (defArgs s_l_draw) (defBody s_l_draw) (defScope s_l_draw) .none kV_l_draw dc_l_draw pm_l_draw an_l_draw cd_l_draw ct_l_draw), sl_l_draw⟩)
    (c_l_draw : PySem.W.codeIn K cd_l_draw "_law_draw" = true)
    (k_l_draw : PySem.W.keepIn K (.ref f_l_draw) = true)
    (a_l_ways_by : PySem.W.nsIn K mainGlobals "_law_ways_by" = some (some (.ref f_l_ways_by)))
    (l_l_ways_by : K.lookup f_l_ways_by = some ⟨oc_l_ways_by, od_l_ways_by, .func (PySem.W.fnOf "_law_ways_by" "_law_ways_by" (defArgs s_l_ways_by) (defBody s_l_ways_by) (defScope s_l_ways_by) .none kV_l_ways_by dc_l_ways_by pm_l_ways_by an_l_ways_by cd_l_ways_by ct_l_ways_by), sl_l_ways_by⟩)
    (c_l_ways_by : PySem.W.codeIn K cd_l_ways_by "_law_ways_by" = true)
    (k_l_ways_by : PySem.W.keepIn K (.ref f_l_ways_by) = true)
    (a_l_lamps_by : PySem.W.nsIn K mainGlobals "_law_lamps_by" = some (some (.ref f_l_lamps_by)))
    (l_l_lamps_by : K.lookup f_l_lamps_by = some ⟨oc_l_lamps_by, od_l_lamps_by, .func (PySem.W.fnOf "_law_lamps_by" "_law_lamps_by" (defArgs s_l_lamps_by) (defBody s_l_lamps_by) (defScope s_l_lamps_by) .none kV_l_lamps_by dc_l_lamps_by pm_l_lamps_by an_l_lamps_by cd_l_lamps_by ct_l_lamps_by), sl_l_lamps_by⟩)
    (c_l_lamps_by : PySem.W.codeIn K cd_l_lamps_by "_law_lamps_by" = true)
    (k_l_lamps_by : PySem.W.keepIn K (.ref f_l_lamps_by) = true)
    (a_l_whole : PySem.W.nsIn K mainGlobals "_law_whole" = some (some (.ref f_l_whole)))
    (l_l_whole : K.lookup f_l_whole = some ⟨oc_l_whole, od_l_whole, .func (PySem.W.fnOf "_law_whole" "_law_whole" (defArgs s_l_whole) (defBody s_l_whole) (defScope s_l_whole) .none kV_l_whole dc_l_whole pm_l_whole an_l_whole cd_l_whole ct_l_whole), sl_l_whole⟩)
    (c_l_whole : PySem.W.codeIn K cd_l_whole "_law_whole" = true)
    (k_l_whole : PySem.W.keepIn K (.ref f_l_whole) = true)
    (a_l_numbers : PySem.W.nsIn K mainGlobals "_law_numbers" = some (some (.ref f_l_numbers)))
    (l_l_numbers : K.lookup f_l_numbers = some ⟨oc_l_numbers, od_l_numbers, .func (PySem.W.fnOf "_law_numbers" "_law_numbers" (defArgs s_l_numbers) (defBody s_l_numbers) (defScope s_l_numbers) .none kV_l_numbers dc_l_numbers pm_l_numbers an_l_numbers cd_l_numbers ct_l_numbers), sl_l_numbers⟩)
    (c_l_numbers : PySem.W.codeIn K cd_l_numbers "_law_numbers" = true)
    (k_l_numbers : PySem.W.keepIn K (.ref f_l_numbers) = true)
    (a_l_truths : PySem.W.nsIn K mainGlobals "_law_truths" = some (some (.ref f_l_truths)))
    (l_l_truths : K.lookup f_l_truths = some ⟨oc_l_truths, od_l_truths, .func (PySem.W.fnOf "_law_truths" "_law_truths" (defArgs s_l_truths) (defBody s_l_truths) (defScope s_l_truths) .none kV_l_truths dc_l_truths pm_l_truths an_l_truths cd_l_truths ct_l_truths), sl_l_truths⟩)
    (c_l_truths : PySem.W.codeIn K cd_l_truths "_law_truths" = true)
    (k_l_truths : PySem.W.keepIn K (.ref f_l_truths) = true)
    (a_l_house_is : PySem.W.nsIn K mainGlobals "_law_house_is" = some (some (.ref f_l_house_is)))
    (l_l_house_is : K.lookup f_l_house_is = some ⟨oc_l_house_is, od_l_house_is, .func (PySem.W.fnOf "_law_house_is" "_law_house_is" (defArgs s_l_house_is) (defBody s_l_house_is) (defScope s_l_house_is) .none kV_l_house_is dc_l_house_is pm_l_house_is an_l_house_is cd_l_house_is ct_l_house_is), sl_l_house_is⟩)
    (c_l_house_is : PySem.W.codeIn K cd_l_house_is "_law_house_is" = true)
    (k_l_house_is : PySem.W.keepIn K (.ref f_l_house_is) = true)
    (a_l_stands_under : PySem.W.nsIn K mainGlobals "_law_stands_under" = some (some (.ref f_l_stands_under)))
    (l_l_stands_under : K.lookup f_l_stands_under = some ⟨oc_l_stands_under, od_l_stands_under, .func (PySem.W.fnOf "_law_stands_under" "_law_stands_under" (defArgs s_l_stands_under) (defBody s_l_stands_under) (defScope s_l_stands_under) .none kV_l_stands_under dc_l_stands_under pm_l_stands_under an_l_stands_under cd_l_stands_under ct_l_stands_under), sl_l_stands_under⟩)
    (c_l_stands_under : PySem.W.codeIn K cd_l_stands_under "_law_stands_under" = true)
    (k_l_stands_under : PySem.W.keepIn K (.ref f_l_stands_under) = true)
    (a_l_refused : PySem.W.nsIn K mainGlobals "_law_refused" = some (some (.ref f_l_refused)))
    (l_l_refused : K.lookup f_l_refused = some ⟨oc_l_refused, od_l_refused, .func (PySem.W.fnOf "_law_refused" "_law_refused" (defArgs s_l_refused) (defBody s_l_refused) (defScope s_l_refused) .none kV_l_refused dc_l_refused pm_l_refused an_l_refused cd_l_refused ct_l_refused), sl_l_refused⟩)
    (c_l_refused : PySem.W.codeIn K cd_l_refused "_law_refused" = true)
    (k_l_refused : PySem.W.keepIn K (.ref f_l_refused) = true)
    (a_l_odd_number : PySem.W.nsIn K mainGlobals "_law_odd_number" = some (some (.ref f_l_odd_number)))
    (l_l_odd_number : K.lookup f_l_odd_number = some ⟨oc_l_odd_number, od_l_odd_number, .func (PySem.W.fnOf "_law_odd_number" "_law_odd_number" (defArgs s_l_odd_number) (defBody s_l_odd_number) (defScope s_l_odd_number) .none kV_l_odd_number dc_l_odd_number pm_l_odd_number an_l_odd_number cd_l_odd_number ct_l_odd_number), sl_l_odd_number⟩)
    (c_l_odd_number : PySem.W.codeIn K cd_l_odd_number "_law_odd_number" = true)
    (k_l_odd_number : PySem.W.keepIn K (.ref f_l_odd_number) = true)
    (a_l_text_of : PySem.W.nsIn K mainGlobals "_law_text_of" = some (some (.ref f_l_text_of)))
    (l_l_text_of : K.lookup f_l_text_of = some ⟨oc_l_text_of, od_l_text_of, .func (PySem.W.fnOf "_law_text_of" "_law_text_of" (defArgs s_l_text_of) (defBody s_l_text_of) (defScope s_l_text_of) .none kV_l_text_of dc_l_text_of pm_l_text_of an_l_text_of cd_l_text_of ct_l_text_of), sl_l_text_of⟩)
    (c_l_text_of : PySem.W.codeIn K cd_l_text_of "_law_text_of" = true)
    (k_l_text_of : PySem.W.keepIn K (.ref f_l_text_of) = true)
    (a_law : PySem.W.nsIn K mainGlobals "law" = some (some (.ref f_law)))
    (l_law : K.lookup f_law = some ⟨oc_law, od_law, .func (PySem.W.fnOf "law" "law" (defArgs s_law) (defBody s_law) (defScope s_law) .none kV_law dc_law pm_law an_law cd_law ct_law), sl_law⟩)
    (c_law : PySem.W.codeIn K cd_law "law" = true)
    (k_law : PySem.W.keepIn K (.ref f_law) = true)
    : ∃ t, Txt K mg t :=
  ⟨{ C_House := C_House, C_HouseError := C_HouseError, C_BadHouse := C_BadHouse, C_BadWord := C_BadWord, C_BadText := C_BadText, f_check_doors := f_check_doors, fd_check_doors := PySem.W.fnOf "check_doors" "check_doors" (defArgs s_check_doors) (defBody s_check_doors) (defScope s_check_doors) .none kV_check_doors dc_check_doors pm_check_doors an_check_doors cd_check_doors ct_check_doors, f_check_house := f_check_house, fd_check_house := PySem.W.fnOf "check_house" "check_house" (defArgs s_check_house) (defBody s_check_house) (defScope s_check_house) .none kV_check_house dc_check_house pm_check_house an_check_house cd_check_house ct_check_house, f_House_init := f_House_init, fd_House_init := PySem.W.fnOf "__init__" "House.__init__" (defArgs s_House_init) (defBody s_House_init) (defScope s_House_init) .none kV_House_init dc_House_init pm_House_init an_House_init cd_House_init ct_House_init, f_House_rooms := f_House_rooms, fd_House_rooms := PySem.W.fnOf "rooms" "House.rooms" (defArgs s_House_rooms) (defBody s_House_rooms) (defScope s_House_rooms) .none kV_House_rooms dc_House_rooms pm_House_rooms an_House_rooms cd_House_rooms ct_House_rooms, f_written_numbers := f_written_numbers, fd_written_numbers := PySem.W.fnOf "written_numbers" "written_numbers" (defArgs s_written_numbers) (defBody s_written_numbers) (defScope s_written_numbers) .none kV_written_numbers dc_written_numbers pm_written_numbers an_written_numbers cd_written_numbers ct_written_numbers, f_number_of := f_number_of, fd_number_of := PySem.W.fnOf "number_of" "number_of" (defArgs s_number_of) (defBody s_number_of) (defScope s_number_of) .none kV_number_of dc_number_of pm_number_of an_number_of cd_number_of ct_number_of, f_lamp_of := f_lamp_of, fd_lamp_of := PySem.W.fnOf "lamp_of" "lamp_of" (defArgs s_lamp_of) (defBody s_lamp_of) (defScope s_lamp_of) .none kV_lamp_of dc_lamp_of pm_lamp_of an_lamp_of cd_lamp_of ct_lamp_of, f_doors_of := f_doors_of, fd_doors_of := PySem.W.fnOf "doors_of" "doors_of" (defArgs s_doors_of) (defBody s_doors_of) (defScope s_doors_of) .none kV_doors_of dc_doors_of pm_doors_of an_doors_of cd_doors_of ct_doors_of, f_read := f_read, fd_read := PySem.W.fnOf "read" "read" (defArgs s_read) (defBody s_read) (defScope s_read) .none kV_read dc_read pm_read an_read cd_read ct_read, f_l_cell_at := f_l_cell_at, fd_l_cell_at := PySem.W.fnOf "_law_cell_at" "_law_cell_at" (defArgs s_l_cell_at) (defBody s_l_cell_at) (defScope s_l_cell_at) .none kV_l_cell_at dc_l_cell_at pm_l_cell_at an_l_cell_at cd_l_cell_at ct_l_cell_at, f_l_draw := f_l_draw, fd_l_draw := PySem.W.fnOf "_law_draw" "_law_draw" (defArgs s_l_draw) (defBody s_l_draw) (defScope s_l_draw) .none kV_l_draw dc_l_draw pm_l_draw an_l_draw cd_l_draw ct_l_draw, f_l_ways_by := f_l_ways_by, fd_l_ways_by := PySem.W.fnOf "_law_ways_by" "_law_ways_by" (defArgs s_l_ways_by) (defBody s_l_ways_by) (defScope s_l_ways_by) .none kV_l_ways_by dc_l_ways_by pm_l_ways_by an_l_ways_by cd_l_ways_by ct_l_ways_by, f_l_lamps_by := f_l_lamps_by, fd_l_lamps_by := PySem.W.fnOf "_law_lamps_by" "_law_lamps_by" (defArgs s_l_lamps_by) (defBody s_l_lamps_by) (defScope s_l_lamps_by) .none kV_l_lamps_by dc_l_lamps_by pm_l_lamps_by an_l_lamps_by cd_l_lamps_by ct_l_lamps_by, f_l_whole := f_l_whole, fd_l_whole := PySem.W.fnOf "_law_whole" "_law_whole" (defArgs s_l_whole) (defBody s_l_whole) (defScope s_l_whole) .none kV_l_whole dc_l_whole pm_l_whole an_l_whole cd_l_whole ct_l_whole, f_l_numbers := f_l_numbers, fd_l_numbers := PySem.W.fnOf "_law_numbers" "_law_numbers" (defArgs s_l_numbers) (defBody s_l_numbers) (defScope s_l_numbers) .none kV_l_numbers dc_l_numbers pm_l_numbers an_l_numbers cd_l_numbers ct_l_numbers, f_l_truths := f_l_truths, fd_l_truths := PySem.W.fnOf "_law_truths" "_law_truths" (defArgs s_l_truths) (defBody s_l_truths) (defScope s_l_truths) .none kV_l_truths dc_l_truths pm_l_truths an_l_truths cd_l_truths ct_l_truths, f_l_house_is := f_l_house_is, fd_l_house_is := PySem.W.fnOf "_law_house_is" "_law_house_is" (defArgs s_l_house_is) (defBody s_l_house_is) (defScope s_l_house_is) .none kV_l_house_is dc_l_house_is pm_l_house_is an_l_house_is cd_l_house_is ct_l_house_is, f_l_stands_under := f_l_stands_under, fd_l_stands_under := PySem.W.fnOf "_law_stands_under" "_law_stands_under" (defArgs s_l_stands_under) (defBody s_l_stands_under) (defScope s_l_stands_under) .none kV_l_stands_under dc_l_stands_under pm_l_stands_under an_l_stands_under cd_l_stands_under ct_l_stands_under, f_l_refused := f_l_refused, fd_l_refused := PySem.W.fnOf "_law_refused" "_law_refused" (defArgs s_l_refused) (defBody s_l_refused) (defScope s_l_refused) .none kV_l_refused dc_l_refused pm_l_refused an_l_refused cd_l_refused ct_l_refused, f_l_odd_number := f_l_odd_number, fd_l_odd_number := PySem.W.fnOf "_law_odd_number" "_law_odd_number" (defArgs s_l_odd_number) (defBody s_l_odd_number) (defScope s_l_odd_number) .none kV_l_odd_number dc_l_odd_number pm_l_odd_number an_l_odd_number cd_l_odd_number ct_l_odd_number, f_l_text_of := f_l_text_of, fd_l_text_of := PySem.W.fnOf "_law_text_of" "_law_text_of" (defArgs s_l_text_of) (defBody s_l_text_of) (defScope s_l_text_of) .none kV_l_text_of dc_l_text_of pm_l_text_of an_l_text_of cd_l_text_of ct_l_text_of, f_law := f_law, fd_law := PySem.W.fnOf "law" "law" (defArgs s_law) (defBody s_law) (defScope s_law) .none kV_law dc_law pm_law an_law cd_law ct_law },
   ⟨PySem.W.mg_none_of X G z_len, PySem.W.mg_none_of X G z_range, PySem.W.mg_none_of X G z_isinstance, PySem.W.mg_none_of X G z_list, PySem.W.mg_none_of X G z_int, PySem.W.mg_none_of X G z_bool, PySem.W.mg_none_of X G z_enumerate, PySem.W.mg_none_of X G z_str, PySem.W.mg_none_of X G z_ValueError, ⟨_, PySem.W.mg_of X G c_MOST_DOORS⟩, ⟨_, PySem.W.mg_of X G c_MOST_ROOMS⟩, ⟨_, PySem.W.mg_of X G c_HEADING⟩, PySem.W.mg_of X G a_House, ⟨pg_House, hd_House, po_House, sa_House⟩, tc_House, tm_House, n_House_doors, n_House_ways, n_House_lamps, PySem.W.mg_of X G a_HouseError, ⟨⟨a_HouseError, x_HouseError⟩, g1_HouseError, g2_HouseError, g3_HouseError, g4_HouseError⟩, g4_HouseError, ty_HouseError, mv_HouseError, ms_HouseError, PySem.W.mg_of X G a_BadHouse, ⟨⟨a_BadHouse, x_BadHouse⟩, g1_BadHouse, g2_BadHouse, g3_BadHouse, g4_BadHouse⟩, g4_BadHouse, ty_BadHouse, mv_BadHouse, ms_BadHouse, PySem.W.mg_of X G a_BadWord, ⟨⟨a_BadWord, x_BadWord⟩, g1_BadWord, g2_BadWord, g3_BadWord, g4_BadWord⟩, g4_BadWord, ty_BadWord, mv_BadWord, ms_BadWord, PySem.W.mg_of X G a_BadText, ⟨⟨a_BadText, x_BadText⟩, g1_BadText, g2_BadText, g3_BadText, g4_BadText⟩, g4_BadText, ty_BadText, mv_BadText, ms_BadText, mr_BadText_HouseError, mr_HouseError_BadText, mr_BadText_BadHouse, mr_BadText_BadWord, tg, tt, PySem.W.mg_of X G a_check_doors, fun_mk (st := s_check_doors) l_check_doors c_check_doors k_check_doors, PySem.W.mg_of X G a_check_house, fun_mk (st := s_check_house) l_check_house c_check_house k_check_house, fun_mk (st := s_House_init) l_House_init c_House_init k_House_init, ⟨mk_House, a_House_init, i_House_init, kc_House⟩, fun_mk (st := s_House_rooms) l_House_rooms c_House_rooms k_House_rooms, ⟨a_House_rooms, i_House_rooms, k_House_rooms⟩, PySem.W.mg_of X G a_written_numbers, fun_mk (st := s_written_numbers) l_written_numbers c_written_numbers k_written_numbers, PySem.W.mg_of X G a_number_of, fun_mk (st := s_number_of) l_number_of c_number_of k_number_of, PySem.W.mg_of X G a_lamp_of, fun_mk (st := s_lamp_of) l_lamp_of c_lamp_of k_lamp_of, PySem.W.mg_of X G a_doors_of, fun_mk (st := s_doors_of) l_doors_of c_doors_of k_doors_of, PySem.W.mg_of X G a_read, fun_mk (st := s_read) l_read c_read k_read, PySem.W.mg_of X G a_l_cell_at, fun_mk (st := s_l_cell_at) l_l_cell_at c_l_cell_at k_l_cell_at, PySem.W.mg_of X G a_l_draw, fun_mk (st := s_l_draw) l_l_draw c_l_draw k_l_draw, PySem.W.mg_of X G a_l_ways_by, fun_mk (st := s_l_ways_by) l_l_ways_by c_l_ways_by k_l_ways_by, PySem.W.mg_of X G a_l_lamps_by, fun_mk (st := s_l_lamps_by) l_l_lamps_by c_l_lamps_by k_l_lamps_by, PySem.W.mg_of X G a_l_whole, fun_mk (st := s_l_whole) l_l_whole c_l_whole k_l_whole, PySem.W.mg_of X G a_l_numbers, fun_mk (st := s_l_numbers) l_l_numbers c_l_numbers k_l_numbers, PySem.W.mg_of X G a_l_truths, fun_mk (st := s_l_truths) l_l_truths c_l_truths k_l_truths, PySem.W.mg_of X G a_l_house_is, fun_mk (st := s_l_house_is) l_l_house_is c_l_house_is k_l_house_is, PySem.W.mg_of X G a_l_stands_under, fun_mk (st := s_l_stands_under) l_l_stands_under c_l_stands_under k_l_stands_under, PySem.W.mg_of X G a_l_refused, fun_mk (st := s_l_refused) l_l_refused c_l_refused k_l_refused, PySem.W.mg_of X G a_l_odd_number, fun_mk (st := s_l_odd_number) l_l_odd_number c_l_odd_number k_l_odd_number, PySem.W.mg_of X G a_l_text_of, fun_mk (st := s_l_text_of) l_l_text_of c_l_text_of k_l_text_of, PySem.W.mg_of X G a_law, fun_mk (st := s_law) l_law c_law k_law⟩⟩
end My
open PySem PySem.W PyProof.Rows
def _root_.PySem.W.Fast.tw13010094575453810469 : Unit := ()
def _root_.PySem.W.Fast.tw5680606823875804414 : Unit := ()
def _root_.PySem.W.Fast.tw17781856852146607104 : Unit := ()
def _root_.PySem.W.Fast.tw2162843851433638799 : Unit := ()
def _root_.PySem.W.Fast.tw17167864810335233646 : Unit := ()
def _root_.PySem.W.Fast.tw5547790982521669377 : Unit := ()
def _root_.PySem.W.Fast.tw13057554013052930582 : Unit := ()
def _root_.PySem.W.Fast.tw15910557403052835486 : Unit := ()
def _root_.PySem.W.Fast.tw9403747797642780511 : Unit := ()
def _root_.PySem.W.Fast.tw11526614592710052985 : Unit := ()
def _root_.PySem.W.Fast.tw9853212196385197149 : Unit := ()
def _root_.PySem.W.Fast.tw6923351315330584414 : Unit := ()
def _root_.PySem.W.Fast.tw240084178480108800 : Unit := ()
def _root_.PySem.W.Fast.tw9304081969126144074 : Unit := ()
def _root_.PySem.W.Fast.tw4982553364894167910 : Unit := ()
def _root_.PySem.W.Fast.tw13650122180270670482 : Unit := ()
def _root_.PySem.W.Fast.tw6785645777810311941 : Unit := ()
def _root_.PySem.W.Fast.tw5852929765676200950 : Unit := ()
def _root_.PySem.W.Fast.tw8353675141323044310 : Unit := ()
def _root_.PySem.W.Fast.tw18392193511826885781 : Unit := ()
def _root_.PySem.W.Fast.tw17812695567759758847 : Unit := ()
def _root_.PySem.W.Fast.tw18197995113073154430 : Unit := ()
def _root_.PySem.W.Fast.tw5431497318306396954 : Unit := ()
def _root_.PySem.W.Fast.tw11703248739348241578 : Unit := ()
def _root_.PySem.W.Fast.tw10819134439044658743 : Unit := ()
def _root_.PySem.W.Fast.tw4272256113469080775 : Unit := ()
def _root_.PySem.W.Fast.tw4352856092153276256 : Unit := ()
def _root_.PySem.W.Fast.tw4764848685111559702 : Unit := ()
def _root_.PySem.W.Fast.tw6965182232825751004 : Unit := ()
def _root_.PySem.W.Fast.tw6612131732839506911 : Unit := ()
def _root_.PySem.W.Fast.tw1333707401396257200 : Unit := ()
def _root_.PySem.W.Fast.tw17218520866962113398 : Unit := ()
def _root_.PySem.W.Fast.tw2767000917371178036 : Unit := ()
def _root_.PySem.W.Fast.tw4880018215284647022 : Unit := ()
def _root_.PySem.W.Fast.tw4644270018064648927 : Unit := ()
def _root_.PySem.W.Fast.tw14769924163725485194 : Unit := ()
def _root_.PySem.W.Fast.tw3753152006014591223 : Unit := ()
def _root_.PySem.W.Fast.tw4036370236825559997 : Unit := ()
def _root_.PySem.W.Fast.tw3960020705935977465 : Unit := ()
def _root_.PySem.W.Fast.tw17384355843233336884 : Unit := ()
def _root_.PySem.W.Fast.tw10185760063647385637 : Unit := ()
def _root_.PySem.W.Fast.tw17193816121904081322 : Unit := ()
def _root_.PySem.W.Fast.tw15028602612799797766 : Unit := ()
def _root_.PySem.W.Fast.tw9318048752341877929 : Unit := ()
def _root_.PySem.W.Fast.tw9731408343560526970 : Unit := ()
def _root_.PySem.W.Fast.tw12166855134409609953 : Unit := ()
def _root_.PySem.W.Fast.tw11097168499567267910 : Unit := ()
def _root_.PySem.W.Fast.tw8439784782706741123 : Unit := ()
def _root_.PySem.W.Fast.tw16724314228776707299 : Unit := ()
def _root_.PySem.W.Fast.tw2026200230617975047 : Unit := ()
def _root_.PySem.W.Fast.tw1339551425591559127 : Unit := ()
def _root_.PySem.W.Fast.tw14150664093389701869 : Unit := ()
def _root_.PySem.W.Fast.tw62398369218505963 : Unit := ()
def _root_.PySem.W.Fast.tw13341131087501691333 : Unit := ()
def _root_.PySem.W.Fast.tw15134682453659527902 : Unit := ()
def _root_.PySem.W.Fast.tw989140535113508979 : Unit := ()
def _root_.PySem.W.Fast.tw2702113920316301638 : Unit := ()
def _root_.PySem.W.Fast.tw11652823629961554129 : Unit := ()
def _root_.PySem.W.Fast.tw14536457070644246160 : Unit := ()
def _root_.PySem.W.Fast.tw533872517124886624 : Unit := ()
def _root_.PySem.W.Fast.tw14615217096811967712 : Unit := ()
def _root_.PySem.W.Fast.tw3232687569544755036 : Unit := ()
def _root_.PySem.W.Fast.tw6359748437621106742 : Unit := ()
set_option maxRecDepth 100000 in
set_option maxHeartbeats 0 in
theorem PySem.Challenge.cw_askhouse_k15_texts_that_write_no_house_holds : PySem.Challenge.rw_askhouse_k15_texts_that_write_no_house.Holds := by
  w_on; o_law; k_head; (case hw => w_witness2)
  k_fill
  refine L2.walk_ofK (l := PySem.Challenge.rw_askhouse_k15_texts_that_write_no_house) (n := 63) (k := 8) (x := "script") (CX := L2.CX0) (sp := fun K => My.sp_law K) rfl (by decide) rfl ⟨rfl, by decide, by decide⟩ (fun w h Y => PySem.W.kIn_of Y) ?F ?S ?C
  case F =>
    intro w mg fa h KX G hmg
    have T : ∃ t, My.Txt (L2.KOf KX) mg t := by
      dsimp only [L2.KOf]
      refine' My.txt_mk KX G ?z_len ?z_range ?z_isinstance ?z_list ?z_int ?z_bool ?z_enumerate ?z_str ?z_ValueError ?c_MOST_DOORS ?c_MOST_ROOMS ?c_HEADING ?a_House ?pg_House ?hd_House ?po_House ?sa_House ?mk_House ?kc_House ?tc_House ?tm_House ?n_House_doors ?n_House_ways ?n_House_lamps ?a_HouseError ?x_HouseError ?g1_HouseError ?g2_HouseError ?g3_HouseError ?g4_HouseError ?ty_HouseError ?mv_HouseError ?ms_HouseError ?a_BadHouse ?x_BadHouse ?g1_BadHouse ?g2_BadHouse ?g3_BadHouse ?g4_BadHouse ?ty_BadHouse ?mv_BadHouse ?ms_BadHouse ?a_BadWord ?x_BadWord ?g1_BadWord ?g2_BadWord ?g3_BadWord ?g4_BadWord ?ty_BadWord ?mv_BadWord ?ms_BadWord ?a_BadText ?x_BadText ?g1_BadText ?g2_BadText ?g3_BadText ?g4_BadText ?ty_BadText ?mv_BadText ?ms_BadText ?mr_BadText_HouseError ?mr_HouseError_BadText ?mr_BadText_BadHouse ?mr_BadText_BadWord ?tg ?tt ?a_check_doors ?l_check_doors ?c_check_doors ?k_check_doors ?a_check_house ?l_check_house ?c_check_house ?k_check_house ?a_House_init ?i_House_init ?l_House_init ?c_House_init ?k_House_init ?a_House_rooms ?i_House_rooms ?l_House_rooms ?c_House_rooms ?k_House_rooms ?a_written_numbers ?l_written_numbers ?c_written_numbers ?k_written_numbers ?a_number_of ?l_number_of ?c_number_of ?k_number_of ?a_lamp_of ?l_lamp_of ?c_lamp_of ?k_lamp_of ?a_doors_of ?l_doors_of ?c_doors_of ?k_doors_of ?a_read ?l_read ?c_read ?k_read ?a_l_cell_at ?l_l_cell_at ?c_l_cell_at ?k_l_cell_at ?a_l_draw ?l_l_draw ?c_l_draw ?k_l_draw ?a_l_ways_by ?l_l_ways_by ?c_l_ways_by ?k_l_ways_by ?a_l_lamps_by ?l_l_lamps_by ?c_l_lamps_by ?k_l_lamps_by ?a_l_whole ?l_l_whole ?c_l_whole ?k_l_whole ?a_l_numbers ?l_l_numbers ?c_l_numbers ?k_l_numbers ?a_l_truths ?l_l_truths ?c_l_truths ?k_l_truths ?a_l_house_is ?l_l_house_is ?c_l_house_is ?k_l_house_is ?a_l_stands_under ?l_l_stands_under ?c_l_stands_under ?k_l_stands_under ?a_l_refused ?l_l_refused ?c_l_refused ?k_l_refused ?a_l_odd_number ?l_l_odd_number ?c_l_odd_number ?k_l_odd_number ?a_l_text_of ?l_l_text_of ?c_l_text_of ?k_l_text_of ?a_law ?l_law ?c_law ?k_law
      (case z_len => k_is)
      (case z_range => k_is)
      (case z_isinstance => k_is)
      (case z_list => k_is)
      (case z_int => k_is)
      (case z_bool => k_is)
      (case z_enumerate => k_is)
      (case z_str => k_is)
      (case z_ValueError => k_is)
      (case c_MOST_DOORS => k_is)
      (case c_MOST_ROOMS => k_is)
      (case c_HEADING => k_is)
      (case a_House => k_is)
      (case pg_House => k_is)
      (case hd_House => k_is)
      (case po_House => k_is)
      (case sa_House => k_is)
      (case mk_House => k_is)
      (case kc_House => k_is)
      (case tc_House => k_is)
      (case tm_House => k_is)
      (case n_House_doors => k_is)
      (case n_House_ways => k_is)
      (case n_House_lamps => k_is)
      (case a_HouseError => k_is)
      (case x_HouseError => k_exc)
      (case g1_HouseError => k_is)
      (case g2_HouseError => k_is)
      (case g3_HouseError => k_is)
      (case g4_HouseError => k_is)
      (case ty_HouseError => k_is)
      (case mv_HouseError => k_is)
      (case ms_HouseError => k_is)
      (case a_BadHouse => k_is)
      (case x_BadHouse => k_exc)
      (case g1_BadHouse => k_is)
      (case g2_BadHouse => k_is)
      (case g3_BadHouse => k_is)
      (case g4_BadHouse => k_is)
      (case ty_BadHouse => k_is)
      (case mv_BadHouse => k_is)
      (case ms_BadHouse => k_is)
      (case a_BadWord => k_is)
      (case x_BadWord => k_exc)
      (case g1_BadWord => k_is)
      (case g2_BadWord => k_is)
      (case g3_BadWord => k_is)
      (case g4_BadWord => k_is)
      (case ty_BadWord => k_is)
      (case mv_BadWord => k_is)
      (case ms_BadWord => k_is)
      (case a_BadText => k_is)
      (case x_BadText => k_exc)
      (case g1_BadText => k_is)
      (case g2_BadText => k_is)
      (case g3_BadText => k_is)
      (case g4_BadText => k_is)
      (case ty_BadText => k_is)
      (case mv_BadText => k_is)
      (case ms_BadText => k_is)
      (case mr_BadText_HouseError => k_is)
      (case mr_HouseError_BadText => k_is)
      (case mr_BadText_BadHouse => k_is)
      (case mr_BadText_BadWord => k_is)
      (case tg => k_is)
      (case tt => k_is)
      (case a_check_doors => k_is)
      (case l_check_doors => k_is)
      (case c_check_doors => k_is)
      (case k_check_doors => k_is)
      (case a_check_house => k_is)
      (case l_check_house => k_is)
      (case c_check_house => k_is)
      (case k_check_house => k_is)
      (case a_House_init => k_is)
      (case i_House_init => k_is)
      (case l_House_init => k_is)
      (case c_House_init => k_is)
      (case k_House_init => k_is)
      (case a_House_rooms => k_is)
      (case i_House_rooms => k_is)
      (case l_House_rooms => k_is)
      (case c_House_rooms => k_is)
      (case k_House_rooms => k_is)
      (case a_written_numbers => k_is)
      (case l_written_numbers => k_is)
      (case c_written_numbers => k_is)
      (case k_written_numbers => k_is)
      (case a_number_of => k_is)
      (case l_number_of => k_is)
      (case c_number_of => k_is)
      (case k_number_of => k_is)
      (case a_lamp_of => k_is)
      (case l_lamp_of => k_is)
      (case c_lamp_of => k_is)
      (case k_lamp_of => k_is)
      (case a_doors_of => k_is)
      (case l_doors_of => k_is)
      (case c_doors_of => k_is)
      (case k_doors_of => k_is)
      (case a_read => k_is)
      (case l_read => k_is)
      (case c_read => k_is)
      (case k_read => k_is)
      (case a_l_cell_at => k_is)
      (case l_l_cell_at => k_is)
      (case c_l_cell_at => k_is)
      (case k_l_cell_at => k_is)
      (case a_l_draw => k_is)
      (case l_l_draw => k_is)
      (case c_l_draw => k_is)
      (case k_l_draw => k_is)
      (case a_l_ways_by => k_is)
      (case l_l_ways_by => k_is)
      (case c_l_ways_by => k_is)
      (case k_l_ways_by => k_is)
      (case a_l_lamps_by => k_is)
      (case l_l_lamps_by => k_is)
      (case c_l_lamps_by => k_is)
      (case k_l_lamps_by => k_is)
      (case a_l_whole => k_is)
      (case l_l_whole => k_is)
      (case c_l_whole => k_is)
      (case k_l_whole => k_is)
      (case a_l_numbers => k_is)
      (case l_l_numbers => k_is)
      (case c_l_numbers => k_is)
      (case k_l_numbers => k_is)
      (case a_l_truths => k_is)
      (case l_l_truths => k_is)
      (case c_l_truths => k_is)
      (case k_l_truths => k_is)
      (case a_l_house_is => k_is)
      (case l_l_house_is => k_is)
      (case c_l_house_is => k_is)
      (case k_l_house_is => k_is)
      (case a_l_stands_under => k_is)
      (case l_l_stands_under => k_is)
      (case c_l_stands_under => k_is)
      (case k_l_stands_under => k_is)
      (case a_l_refused => k_is)
      (case l_l_refused => k_is)
      (case c_l_refused => k_is)
      (case k_l_refused => k_is)
      (case a_l_odd_number => k_is)
      (case l_l_odd_number => k_is)
      (case c_l_odd_number => k_is)
      (case k_l_odd_number => k_is)
      (case a_l_text_of => k_is)
      (case l_l_text_of => k_is)
      (case c_l_text_of => k_is)
      (case k_l_text_of => k_is)
      (case a_law => k_is)
      (case l_law => k_is)
      (case c_law => k_is)
      (case k_law => k_is)
    obtain ⟨t, T⟩ := T
    have e0 := hmg.symm.trans T.mg_law
    cases e0
    refine' ⟨t.fd_law, ?b, fun base kb nb => My.ok_law T⟩
    obtain ⟨oc, od, kV, doc, pm, an, cdv, ct, osl, e, _, _⟩ := T.F_law.ex
    rw [e]
    exact fun s u => .of_eq rfl
  case S => exact fun K H a ns hl hO hS => ⟨a, ns, rfl, hS, hl, fun _ => rfl⟩
  case C => exact fun _ _ _ _ h => h
#print axioms PySem.Challenge.cw_askhouse_k15_texts_that_write_no_house_holds
