import PyProof.Rows.All
import Wide.All
import OpenK.AllK
import Wide.FinOn
import Lean
import PyProof.EqAt
import PyProof.EqKinds
import PyProof.TupleCall
import PyProof.Draws
import PySem.Challenge.RW_askhouse_k04_books
set_option Elab.async false
set_option linter.all false
set_option maxRecDepth 100000
/-! THE HAND LAYER, for ints, bools, texts, own classes, LISTS and tuples (index, slices, in, append, pop ..), calls, loops. Paste it whole ahead of your own text; what your proof does not reach may be deleted. -/
namespace L2
open PySem PySem.Spec PyProof.Rows

/-- a key: an int or a str -/
abbrev Key := Sum Int Str
def keyIs : Key → Value → Bool
  | .inl k, v => Value.isInt k v
  | .inr x, v => Value.isStrOf x v
def keyH (w : World) : Key → Int
  | .inl k => hashInt k
  | .inr x => hashStr w x
theorem keyIs_shape : ∀ {k : Key} {v : Value}, keyIs k v = true → (∃ i t, k = Sum.inl i ∧ v = Value.int i t) ∨ (∃ x t, k = Sum.inr x ∧ v = Value.str x t)
  | .inl i, v, h => by
    obtain ⟨t, e⟩ := Value.isInt_shape (k := i) (v := v) h
    exact .inl ⟨i, t, rfl, e⟩
  | .inr x, v, h => by
    obtain ⟨t, e⟩ := Value.isStrOf_shape (x := x) (v := v) h
    exact .inr ⟨x, t, rfl, e⟩
theorem keyIs_int (i : Int) (t : Tok) : keyIs (.inl i) (.int i t) = true := by simp [keyIs, Value.isInt]
theorem keyIs_str (x : Str) (t : Tok) : keyIs (.inr x) (.str x t) = true := by simp [keyIs, Value.isStrOf]
theorem key_ll (a b : Int) : decide ((Sum.inl a : Key) = Sum.inl b) = (a == b) := by
  by_cases e : a = b
  · subst e; simp
  · have h : ¬ (Sum.inl a : Key) = Sum.inl b := fun q => e (Sum.inl.inj q)
    rw [decide_eq_false h]
    exact (beq_eq_false_iff_ne.mpr e).symm
theorem key_rr (a b : Str) : decide ((Sum.inr a : Key) = Sum.inr b) = decide (a = b) := by
  by_cases e : a = b
  · subst e; simp
  · have h : ¬ (Sum.inr a : Key) = Sum.inr b := fun q => e (Sum.inr.inj q)
    rw [decide_eq_false h, decide_eq_false e]
theorem key_lr (a : Int) (b : Str) : decide ((Sum.inl a : Key) = Sum.inr b) = false := decide_eq_false (fun q => nomatch q)
theorem key_rl (a : Str) (b : Int) : decide ((Sum.inr a : Key) = Sum.inl b) = false := decide_eq_false (fun q => nomatch q)

def mixKind (prog : Program) (w : World) : PySem.KeyKind prog w Key where
  is := keyIs
  hash := keyH w
  inj := fun v a b ha hb => by
    rcases keyIs_shape ha with ⟨i, t, rfl, rfl⟩ | ⟨x, t, rfl, rfl⟩
    · rcases keyIs_shape hb with ⟨j, u, rfl, e⟩ | ⟨y, u, rfl, e⟩
      · injection e with e1 _; rw [e1]
      · exact nomatch e
    · rcases keyIs_shape hb with ⟨j, u, rfl, e⟩ | ⟨y, u, rfl, e⟩
      · exact nomatch e
      · injection e with e1 _; rw [e1]
  byValue := fun k v h => by
    rcases keyIs_shape h with ⟨i, t, rfl, rfl⟩ | ⟨x, t, rfl, rfl⟩ <;> rfl
  pyHash := fun hv h => by
    rcases keyIs_shape hv with ⟨i, t, rfl, rfl⟩ | ⟨x, t, rfl, rfl⟩
    · exact wpAny_pyHash_int h
    · exact wpAny_pyHash_str h
  eqBool := fun hu hv h => by
    rcases keyIs_shape hu with ⟨i, t, rfl, rfl⟩ | ⟨x, t, rfl, rfl⟩
    · rcases keyIs_shape hv with ⟨j, u, rfl, rfl⟩ | ⟨y, u, rfl, rfl⟩
      · rw [key_ll] at h; exact wpAny_eqBool_int h
      · rw [key_lr] at h; exact SeqAt.EqAt.int_str i t y u _ _ _ _ h
    · rcases keyIs_shape hv with ⟨j, u, rfl, rfl⟩ | ⟨y, u, rfl, rfl⟩
      · rw [key_rl] at h; exact SeqAt.EqAt.str_int x t j u _ _ _ _ h
      · rw [key_rr] at h; exact wpAny_eqBool_str h
  «strs» := fun k x t v h => by
    rcases keyIs_shape h with ⟨i, u, rfl, e⟩ | ⟨y, u, rfl, e⟩
    · exact nomatch e
    · injection e with e1 _
      subst e1
      cases v <;> rfl

theorem mixKind_int (prog : Program) (w : World) (i : Int) (t : Tok) : (mixKind prog w).is (.inl i) (.int i t) = true := keyIs_int i t
theorem mixKind_str (prog : Program) (w : World) (x : Str) (t : Tok) : (mixKind prog w).is (.inr x) (.str x t) = true := keyIs_str x t
end L2

namespace L2
open PySem PySem.Spec PyProof.Rows

/-- a value, without the heap -/
inductive V where
  | non | bl (b : Bool) | int (i : Int) | str (x : Str) | byt (b : Array UInt8) | flt (b : UInt64) | ref (a : Addr) | ty (n : String)
  deriving DecidableEq

def RelV : V → Value → Prop
  | .non, u => u = Value.none
  | .bl b, u => u = Value.bool b
  | .int i, u => ∃ t, u = Value.int i t
  | .str x, u => ∃ t, u = Value.str x t
  | .byt b, u => ∃ t, u = Value.bytes b t
  | .flt b, u => ∃ t, u = Value.float b t
  | .ref a, u => u = Value.ref a
  | .ty n, u => u = Value.type n

abbrev Vals : List V → List Value → Prop := Paired RelV
theorem Vals.length {xs : List V} {us : List Value} (r : Vals xs us) : xs.length = us.length := Paired.length r
theorem Vals.get : ∀ {xs : List V} {us : List Value} {i : Nat} {x : V}, Vals xs us → xs[i]? = some x → ∃ u, us[i]? = some u ∧ RelV x u
  | _, _, _, _, .nil, e => by simp at e
  | _, _, 0, _, .cons r _, e => by simp at e; subst e; exact ⟨_, rfl, r⟩
  | _, _, i + 1, x, .cons _ t, e => by
    obtain ⟨u, h1, h2⟩ := Vals.get (i := i) (x := x) t (by simpa using e)
    exact ⟨u, by simpa using h1, h2⟩
theorem Vals.append : ∀ {xs ys : List V} {us ws : List Value}, Vals xs us → Vals ys ws → Vals (xs ++ ys) (us ++ ws)
  | _, _, _, _, .nil, s => s
  | _, _, _, _, .cons r t, s => .cons r (Vals.append t s)
theorem Vals.take : ∀ {xs : List V} {us : List Value} (n : Nat), Vals xs us → Vals (xs.take n) (us.take n)
  | _, _, 0, _ => .nil
  | _, _, _ + 1, .nil => .nil
  | _, _, n + 1, .cons r t => .cons r (Vals.take n t)
theorem Vals.drop : ∀ {xs : List V} {us : List Value} (n : Nat), Vals xs us → Vals (xs.drop n) (us.drop n)
  | _, _, 0, r => r
  | _, _, _ + 1, .nil => .nil
  | _, _, n + 1, .cons _ t => Vals.drop n t
def RelO : Option V → Option Value → Prop
  | some v, some u => RelV v u
  | none, none => True
  | _, _ => False
def KV {κ : Type} : List (κ × V) → List (κ × Value) → Prop := Paired fun (p : κ × V) (q : κ × Value) => p.1 = q.1 ∧ RelV p.2 q.2

/-- a key of a dict (00_mix): an int or a text -/
def kV : Key → V
  | .inl i => .int i
  | .inr x => .str x

/-- what stands at a tracked address -/
inductive HO where
  /-- a list -/
  | lst (xs : List V)
  /-- a tuple (never changes) -/
  | tup (xs : List V)
  /-- a dict whose keys are ints and texts; one whose keys are tuples of ints and texts (the empty one is both) -/
  | dK (kvs : List (Key × V)) | dT (kvs : List (List Key × V))
  /-- a set of ints: its members, its size -/
  | set (S : Int → Bool) (n : Nat)
  /-- an instance of the class at C, its dict at dx, its attributes -/
  | ins (C dx : Addr) (fs : List (Str × V))
  /-- the dict of the instance at x -/
  | own (x : Addr)
  /-- the dict of an exception -/
  | xd (fs : List (Str × V))
  /-- a bound method, f of x -/
  | met (f x : Addr)
  /-- a range object lo, lo + 1, .. below hi -/
  | rng (lo hi : Int)
  /-- a thing that is known to the object (the script; a dict while a loop walks it): read, never written while it is so -/
  | frz (o : Obj) (u : HO)
  /-- a code object's table -/
  | tbl (ps : Array Value)
  /-- any other thing, by what is true of its one object (a def of one's own: SetO a S n := HO.ext fun h => ..) -/
  | ext (φ : Heap → Prop)

abbrev Hp := Addr → Option HO
def upd (H : Hp) (a : Addr) (o : HO) : Hp := fun b => if b = a then some o else H b
theorem upd_same {H : Hp} {a : Addr} {o : HO} : upd H a o a = some o := by unfold upd; rw [if_pos rfl]
theorem upd_ne {H : Hp} {a b : Addr} {o : HO} (h : b ≠ a) : upd H a o b = H b := by unfold upd; rw [if_neg h]
theorem upd_upd {H : Hp} {a : Addr} {o u : HO} : upd (upd H a o) a u = upd H a u := by
  funext b; unfold upd; split <;> rfl
/-- two objects of different content stand apart -/
theorem ne_of {H : Hp} {a b : Addr} {o u : HO} (h : H a = some o) (h' : H b = some u) (d : o ≠ u) : a ≠ b := by
  intro e; subst e; rw [h] at h'; exact d (Option.some.inj h')
theorem ne_of_none {H : Hp} {a b : Addr} {o : HO} (h : H a = some o) (h' : H b = none) : a ≠ b := by
  intro e; subst e; rw [h] at h'; cases h'

section
variable (P : Program) (w : World)
def ObjOk (H : Hp) (h : Heap) (a : Addr) : HO → Prop
  | .lst xs => xs.length ≤ sizeLine ∧ ∃ (its : List Value) (n : Nat), Vals xs its ∧ h.get? a = some { cls := .type "list", data := .seq its.toArray n }
  | .tup xs => xs.length ≤ sizeLine ∧ ∃ its : List Value, Vals xs its ∧ IsTup h a its.toArray
  | .dK kvs => kvs.length ≤ sizeLine ∧ (a == sysModules) = false ∧ ∃ vs, KV kvs vs ∧ h.DictOf (mixKind P w) a vs
  | .dT kvs => kvs.length ≤ sizeLine ∧ (a == sysModules) = false ∧ ∃ xs : List (List Key × Addr × Value),
      Paired (fun (p : List Key × V) (q : List Key × Addr × Value) => p.1 = q.1 ∧ H q.2.1 = some (.tup (p.1.map kV)) ∧ RelV p.2 q.2.2) kvs xs ∧
      ∃ o es ep, h.get? a = some o ∧ o.ExactDict ∧ o.data = .dict es ep ∧ es.toList = xs.map (entryOfKey (tupleKind (mixKind P w))) ∧ (xs.map (·.1)).Nodup
  | .set S n => h.SetOf (intKind P w) a S n
  | .ins C dx fs => H dx = some (.own a) ∧ fs.length ≤ 1000 ∧ dx ≠ a ∧ h.get? a = some (PySem.W.instObj C dx) ∧
      ∃ mA, h.Ns1 dx mA ∧ (∀ f, RelO (fs.lookup f) (mA f)) ∧ PySem.Within mA (fs.map (·.1))
  | .own _ => ∃ o, h.get? a = some o
  | .xd fs => ∃ mA, h.Ns1 a mA ∧ ∀ f, RelO (fs.lookup f) (mA f)
  | .rng lo hi => ∃ t u v, h.get? a = some { cls := .type "range", data := .fields #[.int lo t, .int hi u, .int 1 v] }
  | .frz o u => h.get? a = some o ∧ ObjOk H h a u
  | .tbl ps => h.get? a = some { cls := .none, data := .fields ps }
  | .met f x => h.get? a = some (PySem.W.methodObj (.ref f) (.ref x))
  | .ext φ => φ h ∧ (∃ o, h.get? a = some o) ∧ ∀ h1 h2 : Heap, φ h1 → (∀ o, h1.get? a = some o → h2.get? a = some o) → φ h2
/-- the abstract heap is held -/
def HOk (H : Hp) (h : Heap) : Prop := ∀ a o, H a = some o → ObjOk P w H h a o
end

section
variable {P : Program} {w : World} {H H' : Hp} {h h' : Heap} {a : Addr} {o : HO}
theorem ObjOk.lt (x : ObjOk P w H h a o) : a < h.objs.size := by
  cases o with
  | lst xs => obtain ⟨_, _, _, _, e⟩ := x; exact Heap.lt_size e
  | tup xs => obtain ⟨_, _, _, p⟩ := x; exact p.lt
  | dK kvs => obtain ⟨_, _, _, _, o, _, _, e, _⟩ := x; exact Heap.lt_size e
  | dT kvs => obtain ⟨_, _, _, _, o, _, _, e, _⟩ := x; exact Heap.lt_size e
  | set S n => obtain ⟨o, _, _, _, e, _⟩ := x; exact Heap.lt_size e
  | ins C dx fs => obtain ⟨_, _, _, e, _⟩ := x; exact Heap.lt_size e
  | own y => obtain ⟨_, e⟩ := x; exact Heap.lt_size e
  | xd fs => obtain ⟨_, ⟨_, _, _, e, _⟩, _⟩ := x; exact Heap.lt_size e
  | rng lo hi => obtain ⟨_, _, _, e⟩ := x; exact Heap.lt_size e
  | frz ob u => obtain ⟨e, _⟩ := x; exact Heap.lt_size e
  | tbl ps => exact Heap.lt_size (show h.get? a = some _ from x)
  | met f y => exact Heap.lt_size (show h.get? a = some _ from x)
  | ext φ => obtain ⟨_, ⟨_, e⟩, _⟩ := x; exact Heap.lt_size e
theorem Paired.mapP {α β : Type} {F G : α → β → Prop} : ∀ {l₁ : List α} {l₂ : List β}, Paired F l₁ l₂ → (∀ a b, F a b → G a b) → Paired G l₁ l₂
  | _, _, .nil, _ => .nil
  | _, _, .cons r t, f => .cons (f _ _ r) (Paired.mapP t f)
/-- what an object's description leans on: its own object, its own dict, the tuples -/
theorem ObjOk.stay (x : ObjOk P w H h a o) (k : ∀ b u, (b = a ∨ H b = some (.own a)) → h.get? b = some u → h'.get? b = some u)
    (ho : ∀ b, H b = some (.own a) → H' b = some (.own a)) (ht : ∀ b xs, H b = some (.tup xs) → H' b = some (.tup xs)) : ObjOk P w H' h' a o := by
  induction o with
  | lst xs => obtain ⟨z, its, n, r, e⟩ := x; exact ⟨z, its, n, r, k _ _ (.inl rfl) e⟩
  | tup xs => obtain ⟨z, its, r, ob, e, c⟩ := x; exact ⟨z, its, r, ob, k _ _ (.inl rfl) e, c⟩
  | dK kvs => obtain ⟨z, y, vs, r, ob, es, ep, e, c⟩ := x; exact ⟨z, y, vs, r, ob, es, ep, k _ _ (.inl rfl) e, c⟩
  | dT kvs =>
    obtain ⟨z, y, xs, r, ob, es, ep, e, c⟩ := x
    exact ⟨z, y, xs, Paired.mapP r fun p q z => ⟨z.1, ht _ _ z.2.1, z.2.2⟩, ob, es, ep, k _ _ (.inl rfl) e, c⟩
  | set S n => obtain ⟨ob, es, ep, t, e, c⟩ := x; exact ⟨ob, es, ep, t, k _ _ (.inl rfl) e, c⟩
  | ins C dx fs =>
    obtain ⟨d, z, ne, e, mA, ⟨od, es, ep, e2, c⟩, r⟩ := x
    exact ⟨ho _ d, z, ne, k _ _ (.inl rfl) e, mA, ⟨od, es, ep, k _ _ (.inr d) e2, c⟩, r⟩
  | own y => obtain ⟨ob, e⟩ := x; exact ⟨ob, k _ _ (.inl rfl) e⟩
  | xd fs => obtain ⟨mA, ⟨od, es, ep, e, c⟩, r⟩ := x; exact ⟨mA, ⟨od, es, ep, k _ _ (.inl rfl) e, c⟩, r⟩
  | rng lo hi => obtain ⟨t, u, v, e⟩ := x; exact ⟨t, u, v, k _ _ (.inl rfl) e⟩
  | frz ob u ih => obtain ⟨e, q⟩ := x; exact ⟨k _ _ (.inl rfl) e, ih q⟩
  | tbl ps =>
    have e : h.get? a = some { cls := .none, data := .fields ps } := x
    show h'.get? a = some { cls := .none, data := .fields ps }
    exact k a _ (.inl rfl) e
  | met f y =>
    have e : h.get? a = some (PySem.W.methodObj (.ref f) (.ref y)) := x
    show h'.get? a = some (PySem.W.methodObj (.ref f) (.ref y))
    exact k a _ (.inl rfl) e
  | ext φ => obtain ⟨p, ⟨o, e⟩, st⟩ := x; exact ⟨st _ _ p fun o q => k _ _ (.inl rfl) q, ⟨o, k _ _ (.inl rfl) e⟩, st⟩
theorem HOk.lt (x : HOk P w H h) (e : H a = some o) : a < h.objs.size := (x a o e).lt
theorem HOk.fresh (x : HOk P w H h) (e : h.objs.size ≤ a) : H a = none := by
  cases q : H a with
  | none => rfl
  | some u => exact absurd (Nat.lt_of_lt_of_le (x.lt q) e) (Nat.lt_irrefl _)
/-- every object of the heap is kept -/
theorem HOk.kept (x : HOk P w H h) (k : ∀ b u, h.get? b = some u → h'.get? b = some u) : HOk P w H h' := fun a o e =>
  (x a o e).stay (fun b u _ q => k b u q) (fun _ q => q) fun _ _ q => q
/-- a new object is laid and tracked -/
theorem HOk.laid (x : HOk P w H h) (k : ∀ b u, h.get? b = some u → h'.get? b = some u) (hp : h.objs.size ≤ a) (new : ObjOk P w (upd H a o) h' a o) : HOk P w (upd H a o) h' := fun b u e => by
  have hn := x.fresh hp
  by_cases hb : b = a
  · subst hb; rw [upd_same] at e; cases e; exact new
  · rw [upd_ne hb] at e
    exact (x b u e).stay (fun c v _ q => k c v q) (fun c q => by rw [upd_ne (ne_of_none q hn)]; exact q) fun c xs q => by rw [upd_ne (ne_of_none q hn)]; exact q
end

/-- what may be read as u: it is u, or a known u -/
def Rd (H : Hp) (a : Addr) (u : HO) : Prop := H a = some u ∨ ∃ o, H a = some (.frz o u)
theorem Rd.ok {P : Program} {w : World} {H : Hp} {h : Heap} {a : Addr} {u : HO} (r : Rd H a u) (x : HOk P w H h) : ObjOk P w H h a u := by
  rcases r with r | ⟨o, r⟩
  · exact x a u r
  · obtain ⟨_, q⟩ := x a _ r
    exact q
/-- what may be written -/
def Mut : Option HO → Prop
  | some (.lst _) => True
  | some (.dK _) => True
  | some (.dT _) => True
  | some (.set _ _) => True
  | some (.ins _ _ _) => True
  | some (.ext _) => True
  | _ => False
section
variable {P : Program} {w : World} {H : Hp} {h h' : Heap} {x e : Addr} {o' : HO}
/-- the object at e is changed: x itself, or the dict of the instance x -/
theorem HOk.write (ok : HOk P w H h) (mu : Mut (H x)) (he : e = x ∨ H e = some (.own x)) (k : ∀ b u, b ≠ e → h.get? b = some u → h'.get? b = some u) (heo : ∃ u, h'.get? e = some u)
    (new : ObjOk P w (upd H x o') h' x o') : HOk P w (upd H x o') h' := fun b u q => by
  have nown : ∀ c y, H c = some (.own y) → c ≠ x := fun c y r z => by subst z; rw [r] at mu; exact mu
  have ntup : ∀ c xs, H c = some (.tup xs) → c ≠ x := fun c xs r z => by subst z; rw [r] at mu; exact mu
  by_cases hb : b = x
  · subst hb; rw [upd_same] at q; cases q; exact new
  · rw [upd_ne hb] at q
    by_cases hbe : b = e
    · have q' : H b = some (.own x) := by
        rcases he with z | z
        · exact absurd (hbe.trans z) hb
        · rw [hbe]; exact z
      rw [q] at q'; cases q'
      obtain ⟨v, hv⟩ := heo
      exact ⟨v, by rw [hbe]; exact hv⟩
    · refine (ok b u q).stay (fun c v hc r => k c v ?_ r) (fun c r => by rw [upd_ne (nown c b r)]; exact r) fun c xs r => by rw [upd_ne (ntup c xs r)]; exact r
      rcases hc with rfl | hc
      · exact hbe
      · rintro rfl
        rcases he with z | z
        · exact nown c b hc z
        · rw [hc] at z; cases z; exact hb rfl
end

/-! ### kept unless tracked; of the frames at fs (the callers') the slots may change (an exception that passes writes there); of the records at ex (iterators) nothing is said -/
structure Un (fs ex : List Addr) (H H' : Hp) (h h' : Heap) : Prop where
  keep : ∀ b o, h.get? b = some o → H b = none → b ∉ fs → b ∉ ex → h'.get? b = some o
  slot : ∀ b o, h.get? b = some o → H b = none → b ∈ fs → b ∉ ex → ∃ sl, h'.get? b = some { o with slots := sl }
  free : ∀ b o, h.get? b = some o → H b = none → b ∉ ex → H' b = none
  there : ∀ b o, h.get? b = some o → b ∉ ex → ∃ o', h'.get? b = some o'
  tups : ∀ b xs, H b = some (.tup xs) → H' b = some (.tup xs)
  frzs : ∀ b o u, H b = some (.frz o u) → H' b = some (.frz o u)
  tbls : ∀ b ps, H b = some (.tbl ps) → ∃ more, H' b = some (.tbl (ps ++ more))
section
variable {fs fs' ex ex' : List Addr} {H H1 H2 : Hp} {h h1 h2 h' : Heap} {a x e : Addr} {o : HO}
theorem Un.any (u : Un fs ex H H1 h h1) {b : Addr} {ob : Obj} (q : h.get? b = some ob) (n : H b = none) (hx : b ∉ ex) : ∃ sl, h1.get? b = some { ob with slots := sl } := by
  by_cases hb : b ∈ fs
  · exact u.slot b ob q n hb hx
  · exact ⟨ob.slots, u.keep b ob q n hb hx⟩
theorem Un.kept (k : ∀ b u, h.get? b = some u → h'.get? b = some u) : Un fs ex H H h h' :=
  ⟨fun b ob q _ _ _ => k b ob q, fun b ob q _ _ _ => ⟨ob.slots, k b ob q⟩, fun _ _ _ n _ => n, fun b ob q _ => ⟨ob, k b ob q⟩, fun _ _ q => q, fun _ _ _ q => q, fun _ ps q => ⟨#[], by rw [q]; simp⟩⟩
theorem Un.refl : Un fs ex H H h h := Un.kept fun _ _ q => q
theorem Un.laid (k : ∀ b u, h.get? b = some u → h'.get? b = some u) (hp : h.objs.size ≤ a) (hn : H a = none) : Un fs ex H (upd H a o) h h' where
  keep := fun b u q _ _ _ => k b u q
  slot := fun b u q _ _ _ => ⟨u.slots, k b u q⟩
  free := fun b u q n _ => by rw [upd_ne (Nat.ne_of_lt (Nat.lt_of_lt_of_le (Heap.lt_size q) hp))]; exact n
  there := fun b u q _ => ⟨u, k b u q⟩
  tups := fun b xs q => by rw [upd_ne (ne_of_none q hn)]; exact q
  frzs := fun b u xs q => by rw [upd_ne (ne_of_none q hn)]; exact q
  tbls := fun b ps q => ⟨#[], by rw [upd_ne (ne_of_none q hn), q]; simp⟩
theorem Un.write (mu : Mut (H x)) (he : e = x ∨ H e = some (.own x)) (k : ∀ b u, b ≠ e → h.get? b = some u → h'.get? b = some u) (heo : ∃ u, h'.get? e = some u) : Un fs ex H (upd H x o) h h' := by
  have hx : ∀ b, H b = none → b ≠ x := fun b n z => by subst z; rw [n] at mu; exact mu
  have hb : ∀ b, H b = none → b ≠ e := fun b n z => by
    subst z
    rcases he with r | r
    · exact hx b n r
    · rw [n] at r; cases r
  have hm : ∀ b u, H b = some u → ¬ Mut (some u) → b ≠ x := fun b u q nm z => by subst z; rw [q] at mu; exact nm mu
  refine ⟨fun b u q n _ _ => k b u (hb b n) q, fun b u q n _ _ => ⟨u.slots, k b u (hb b n) q⟩, fun b u q n _ => by rw [upd_ne (hx b n)]; exact n, fun b u q _ => ?_,
    fun b xs q => by rw [upd_ne (hm b _ q fun z => z)]; exact q, fun b u xs q => by rw [upd_ne (hm b _ q fun z => z)]; exact q, fun b ps q => ⟨#[], by rw [upd_ne (hm b _ q fun z => z), q]; simp⟩⟩
  by_cases hbe : b = e
  · subst hbe; exact heo
  · exact ⟨u, k b u hbe q⟩
end

/-! ### the heap without what is tracked -/
def trk (h : Heap) (H : Hp) : List Addr := (List.range h.objs.size).filter fun a => (H a).isSome
def hidT (h : Heap) (H : Hp) : Heap := PySem.W.hideAll h (trk h H)
theorem hidT_size (h : Heap) (H : Hp) : (hidT h H).objs.size = h.objs.size := PySem.W.hideAll_size _ _
theorem hidT_get {h : Heap} {H : Hp} {b : Addr} {o : Obj} (e : h.get? b = some o) (n : H b = none) : (hidT h H).get? b = some o :=
  PySem.W.hideAll_get _ e fun hm => by
    have q : (H b).isSome = true := (List.mem_filter.mp hm).2
    rw [n] at q; simp at q
theorem of_hidT {h : Heap} {H : Hp} {b : Addr} {o : Obj} (e : (hidT h H).get? b = some o) : h.get? b = some o ∧ H b = none := by
  have e' : h.get? b = some o := PySem.W.of_hideAll (trk h H) e
  refine ⟨e', ?_⟩
  cases q : H b with
  | none => rfl
  | some x =>
    have hm : b ∈ trk h H := List.mem_filter.mpr ⟨List.mem_range.mpr (Heap.lt_size e'), by simp [q]⟩
    have z : (hidT h H).get? b = none := PySem.W.hideAll_none (trk h H) hm
    rw [z] at e; cases e

/-! ### OpenK's ledger, filled with every new object but one -/
def allNews (g h : Heap) (L : Addr) : List (Addr × Obj) := (List.range h.objs.size).filterMap fun a => if a = L ∨ (g.get? a).isSome = true then none else (h.get? a).map fun o => (a, o)
def rest (g h : Heap) (L d : Addr) : List (Addr × Obj) := (allNews g h L).filter fun p => decide (p.1 ≠ d)
end L2

namespace L2
open PySem PySem.Spec PyProof.Rows

/-- the module's facts, over the base: the heap at the law's entry without what is tracked there -/
structure Mod (K : PySem.W.Frag) (mg : Str → Option Value) (base : Heap) : Prop where
  kin : K.In base
  glob : base.Ns mainGlobals mg
  blt : ∃ mb, base.Ns builtinsNs mb ∧ ∀ x : Str, x ≠ "__name__" → mb x = bootBuiltins x
  nolimit : base.NoLimit

/-- the context: a def's body (or a comprehension's block) running. base: fixed through the whole law; s₀, H₀: the entry; outer: the frames whose slots others may change (a def's callers); stack: all frames that run;
   ex: iterators that were made ahead of the entry and are walked here (a comprehension's); fn: the names whose cells were made at the entry (a def: all; a comprehension's block: its own); calm: not within an except suite; pn: pins that every state bears; xe: what is wanted of an exception that leaves the code -/
structure Cx where
  prog : Program
  w : World
  K : PySem.W.Frag
  mg : Str → Option Value
  base : Heap
  A : Around
  N : List Str
  s₀ : Shared
  H₀ : Hp
  env : Env
  outer : List Env
  stack : List Env
  ex : List Addr
  fn : Str → Bool
  calm : Bool
  pn : List (Addr × Obj)
  xe : Value → Shared → Prop
/-- the callers' frames -/
def frs (l : List Env) : List Addr := l.filterMap (·.frame)
abbrev Cx.fs (X : Cx) : List Addr := frs X.outer

def Vis (sc : Scope) (x : Str) : Prop := sc.names.lookup x = some .local ∨ sc.names.lookup x = some .cell ∨ sc.names.lookup x = some .free
def Loc (sc : Scope) (x : Str) : Prop := sc.names.lookup x = some .local ∨ sc.names.lookup x = some .cell
def Look (env : Env) (h : Heap) (m : Str → Option Value) (x : Str) (u : Value) : Prop :=
  (env.kindOf x = some .local ∧ m x = some u) ∨ ((env.kindOf x = some .cell ∨ env.kindOf x = some .free) ∧ ∃ c, env.cells.lookup x = some c ∧ h.IsCell c (some u))

structure Cx.Ok (X : Cx) : Prop where
  mod : Mod X.K X.mg X.base
  kind : X.env.scope.kind = .function
  glob : X.env.globals = mainGlobals
  blt : X.env.builtins = builtinsNs
  above : X.s₀.heap.objs.size ≤ X.env.locals
  inj : ∀ x y c, X.env.cells.lookup x = some c → X.env.cells.lookup y = some c → x = y
  has : ∀ x, (X.env.kindOf x = some .cell ∨ X.env.kindOf x = some .free) → ∃ c, X.env.cells.lookup x = some c
  cab : ∀ x c, X.fn x = true → X.env.cells.lookup x = some c → X.s₀.heap.objs.size ≤ c
  hd : X.calm = true → X.A.handled = none
  frames : X.A.frames = some X.stack
  stk : X.stack = X.outer ∨ (X.stack = X.env :: X.outer ∧ X.env.frame = some X.env.locals)
  exf : ∀ b ∈ X.ex, b ≠ X.env.locals ∧ ∀ x c, X.env.cells.lookup x = some c → c ≠ b
  bs : ∀ b o, X.base.get? b = some o → X.s₀.heap.get? b = some o ∧ X.H₀ b = none
  bsz : X.base.objs.size ≤ X.s₀.heap.objs.size
  noex : ∀ b o, X.base.get? b = some o → b ∉ X.ex
  exfs : ∀ b ∈ X.ex, b ∉ X.fs
  funs : X.s₀.heap.FunFrames X.base X.outer
  frf : ∀ b ∈ X.fs, X.H₀ b = none

structure Inv (X : Cx) (pins : List (Addr × Obj)) (σ : List (Option V)) (H : Hp) (s : Shared) : Prop where
  ok : X.Ok
  os : s.os = X.s₀.os
  bare : AllBare s.gens
  base : Un X.fs X.ex X.H₀ H X.s₀.heap s.heap
  loc : ∃ m, s.heap.Ns X.env.locals m ∧ ∀ (i : Nat) (x : Str) (v : V), X.N[i]? = some x → σ[i]? = some (some v) → Vis X.env.scope x → ∃ u, RelV v u ∧ Look X.env s.heap m x u
  cell : ∀ x c, X.env.cells.lookup x = some c → ∃ v, s.heap.IsCell c v
  free : H X.env.locals = none
  freeC : ∀ x c, X.env.cells.lookup x = some c → H c = none
  pin : ∀ p ∈ X.pn ++ pins, s.heap.get? p.1 = some p.2 ∧ H p.1 = none ∧ p.1 ≠ X.env.locals ∧ p.1 ∉ X.fs ∧ ∀ v, p.2.data ≠ .cell v
  hok : HOk X.prog X.w H s.heap
  len : σ.length = X.N.length

section
variable {X : Cx} {pins : List (Addr × Obj)} {σ : List (Option V)} {H H' : Hp} {s : Shared} {h' : Heap}

theorem Cx.Ok.nofr (ok : X.Ok) {b : Addr} {o : Obj} (e : X.base.get? b = some o) : b ∉ X.fs := fun hb => by
  have := (ok.funs.mem hb).1
  rw [e] at this; cases this
theorem Inv.bs (I : Inv X pins σ H s) : ∀ b o, X.base.get? b = some o → s.heap.get? b = some o ∧ H b = none := fun b o e =>
  ⟨I.base.keep b o (I.ok.bs b o e).1 (I.ok.bs b o e).2 (I.ok.nofr e) (I.ok.noex b o e), I.base.free b o (I.ok.bs b o e).1 (I.ok.bs b o e).2 (I.ok.noex b o e)⟩
theorem Inv.bk (I : Inv X pins σ H s) : ∀ b o, X.base.get? b = some o → s.heap.get? b = some o := fun b o e => (I.bs b o e).1
theorem Inv.mod (I : Inv X pins σ H s) : Mod X.K X.mg X.base := I.ok.mod
theorem Inv.kIn (I : Inv X pins σ H s) : X.K.In s.heap := I.ok.mod.kin.keeps I.bk
theorem Inv.lt (I : Inv X pins σ H s) : X.env.locals < s.heap.objs.size := let ⟨_, hn, _⟩ := I.loc; hn.lt
theorem Inv.sz (I : Inv X pins σ H s) : X.s₀.heap.objs.size ≤ s.heap.objs.size := Nat.le_trans I.ok.above (Nat.le_of_lt I.lt)
theorem Inv.nofs (I : Inv X pins σ H s) {a : Addr} (h : s.heap.objs.size ≤ a) : a ∉ X.fs := fun hb => by
  obtain ⟨_, o, ho, _⟩ := I.ok.funs.mem hb
  exact absurd (Nat.lt_of_lt_of_le (Heap.lt_size ho) (Nat.le_trans I.sz h)) (Nat.lt_irrefl _)
theorem Inv.cne (I : Inv X pins σ H s) : ∀ x c, X.env.cells.lookup x = some c → c ≠ X.env.locals := fun x c e z => by
  obtain ⟨v, o, ho, hd⟩ := I.cell x c e
  obtain ⟨m, ⟨o', es, ep, ho', hd', _⟩, _⟩ := I.loc
  rw [z, ho'] at ho; cases ho; rw [hd'] at hd; cases hd
theorem Inv.funs (I : Inv X pins σ H s) : s.heap.FunFrames X.base X.outer := by
  have all : ∀ (l : List Env), (∀ b ∈ frs l, b ∈ X.fs) → X.s₀.heap.FunFrames X.base l → s.heap.FunFrames X.base l := by
    intro l
    induction l with
    | nil => intro _ _; trivial
    | cons env r ih =>
      intro hs hl
      obtain ⟨hk, ⟨L, o, hf, hn, ho, hd⟩, hr⟩ := hl
      have hL : L ∈ X.fs := hs L (by unfold frs; rw [List.filterMap_cons, hf]; exact List.mem_cons_self)
      obtain ⟨sl, e⟩ := I.base.slot L o ho (I.ok.frf L hL) hL fun z => I.ok.exfs L z hL
      exact ⟨hk, ⟨L, _, hf, hn, e, hd⟩, ih (fun b hb => hs b (by unfold frs; rw [List.filterMap_cons, hf]; exact List.mem_cons_of_mem _ hb)) hr⟩
  exact all X.outer (fun _ hb => hb) I.ok.funs

/-- the frames that run, for a call -/
theorem Inv.stack (I : Inv X pins σ H s) : s.heap.FunFrames X.base X.stack := by
  rcases I.ok.stk with e | ⟨e, hf⟩
  · rw [e]; exact I.funs
  · rw [e]
    obtain ⟨m, hn, _⟩ := I.loc
    refine .cons (by rw [I.ok.kind]; decide) hf hn ?_ I.funs
    exact Heap.get?_none_of_le (Nat.le_trans I.ok.bsz I.ok.above)
theorem Inv.stkSub (I : Inv X pins σ H s) : ∀ b ∈ frs X.stack, b ∈ X.env.locals :: X.fs := fun b hb => by
  rcases I.ok.stk with e | ⟨e, hf⟩
  · rw [e] at hb; exact List.mem_cons_of_mem _ hb
  · rw [e] at hb
    unfold frs at hb
    rw [List.filterMap_cons, hf] at hb
    exact hb
theorem Inv.stkFree (I : Inv X pins σ H s) : ∀ b ∈ frs X.stack, H b = none := fun b hb => by
  rcases List.mem_cons.mp (I.stkSub b hb) with e | hb
  · rw [e]; exact I.free
  · obtain ⟨_, o, ho, _⟩ := I.ok.funs.mem hb
    exact I.base.free b o ho (I.ok.frf b hb) fun z => I.ok.exfs b z hb

/-- THE STEP: the untracked objects but the frame and the records at ch are kept (the callers' frames up to slots), the frame's map is kept, the new abstract heap is held -/
theorem Inv.step {g' : Array GenState} {t' : Nat} {d' : Drawn} {ch : List Addr} (I : Inv X pins σ H s)
    (hch : ∀ b ∈ ch, (b ∈ X.ex ∨ X.s₀.heap.objs.size ≤ b) ∧ b ≠ X.env.locals ∧ (∀ x c, X.env.cells.lookup x = some c → c ≠ b) ∧ ∀ p ∈ X.pn ++ pins, p.1 ≠ b)
    (keep : ∀ b o, b ≠ X.env.locals → b ∉ X.fs → b ∉ ch → s.heap.get? b = some o → H b = none → h'.get? b = some o)
    (slot : ∀ b o, b ≠ X.env.locals → b ∈ X.fs → b ∉ ch → s.heap.get? b = some o → H b = none → ∃ sl, h'.get? b = some { o with slots := sl }) (free : ∀ b o, b ∉ ch → s.heap.get? b = some o → H b = none → H' b = none)
    (there : ∀ b o, b ∉ ch → s.heap.get? b = some o → ∃ o', h'.get? b = some o')
    (tups : ∀ b xs, H b = some (.tup xs) → H' b = some (.tup xs)) (frzs : ∀ b o u, H b = some (.frz o u) → H' b = some (.frz o u)) (tbls : ∀ b ps, H b = some (.tbl ps) → ∃ more, H' b = some (.tbl (ps ++ more)))
    (ns : ∀ m, s.heap.Ns X.env.locals m → h'.Ns X.env.locals m) (hok : HOk X.prog X.w H' h') (hg : AllBare g') :
    Inv X pins σ H' { s with heap := h', gens := g', drawn := d', toks := t' } := by
  have neL : ∀ b o, X.s₀.heap.get? b = some o → b ≠ X.env.locals := fun b o e => Nat.ne_of_lt (Nat.lt_of_lt_of_le (Heap.lt_size e) I.ok.above)
  have neC : ∀ b o, X.s₀.heap.get? b = some o → b ∉ X.ex → b ∉ ch := fun b o e hx hb => by
    rcases (hch b hb).1 with z | z
    · exact hx z
    · exact absurd (Nat.lt_of_lt_of_le (Heap.lt_size e) z) (Nat.lt_irrefl _)
  have cellK : ∀ x c, X.env.cells.lookup x = some c → ∀ v, s.heap.IsCell c v → h'.IsCell c v := fun x c e v ⟨o, ho, hd⟩ => by
    have nch : c ∉ ch := fun z => (hch c z).2.2.1 x c e rfl
    by_cases hc : c ∈ X.fs
    · obtain ⟨sl, q⟩ := slot c o (I.cne x c e) hc nch ho (I.freeC x c e)
      exact ⟨_, q, hd⟩
    · exact ⟨o, keep c o (I.cne x c e) hc nch ho (I.freeC x c e), hd⟩
  refine ⟨I.ok, I.os, hg, ⟨fun b o e n hb hx => ?_, fun b o e n hb hx => ?_, fun b o e n hx => ?_, fun b o e hx => ?_, fun b xs e => tups b xs (I.base.tups b xs e), fun b o xs e => frzs b o xs (I.base.frzs b o xs e), fun b ps e => ?_⟩, ?_, fun x c e => ?_, ?_, fun x c e => ?_, fun p hp => ?_, hok, I.len⟩
  · exact keep b o (neL b o e) hb (neC b o e hx) (I.base.keep b o e n hb hx) (I.base.free b o e n hx)
  · obtain ⟨sl, e1⟩ := I.base.slot b o e n hb hx
    obtain ⟨sl', e2⟩ := slot b _ (neL b o e) hb (neC b o e hx) e1 (I.base.free b o e n hx)
    exact ⟨sl', e2⟩
  · obtain ⟨o', e1⟩ := I.base.there b o e hx
    exact free b o' (neC b o e hx) e1 (I.base.free b o e n hx)
  · obtain ⟨o', e1⟩ := I.base.there b o e hx
    exact there b o' (neC b o e hx) e1
  · obtain ⟨m1, e1⟩ := I.base.tbls b ps e
    obtain ⟨m2, e2⟩ := tbls b _ e1
    exact ⟨m1 ++ m2, by rw [e2, Array.append_assoc]⟩
  · obtain ⟨m, hn, hl⟩ := I.loc
    refine ⟨m, ns m hn, fun i x v e1 e2 e3 => ?_⟩
    obtain ⟨u, r, l⟩ := hl i x v e1 e2 e3
    refine ⟨u, r, ?_⟩
    rcases l with l | ⟨k, c, e, z⟩
    · exact .inl l
    · exact .inr ⟨k, c, e, cellK x c e _ z⟩
  · obtain ⟨v, z⟩ := I.cell x c e
    exact ⟨v, cellK x c e v z⟩
  · obtain ⟨m, ⟨o, _, _, ho, _⟩, _⟩ := I.loc
    exact free _ o (fun z => (hch _ z).2.1 rfl) ho I.free
  · obtain ⟨v, o, ho, hd⟩ := I.cell x c e
    exact free c o (fun z => (hch c z).2.2.1 x c e rfl) ho (I.freeC x c e)
  · obtain ⟨e, n, ne, nf, d⟩ := I.pin p hp
    have nch : p.1 ∉ ch := fun z => (hch p.1 z).2.2.2 p hp rfl
    exact ⟨keep p.1 p.2 ne nf nch e n, free p.1 p.2 nch e n, ne, nf, d⟩
/-- .. where the frame's own object is kept too -/
theorem Inv.un {t' : Nat} (I : Inv X pins σ H s) (u : Un X.fs [] H H' s.heap h') (hok : HOk X.prog X.w H' h') : Inv X pins σ H' { s with heap := h', toks := t' } := by
  obtain ⟨m, ⟨o, es, ep, ho, r⟩, _⟩ := id I.loc
  obtain ⟨sl, hL⟩ := u.any ho I.free (by simp)
  exact I.step (g' := s.gens) (d' := s.drawn) (ch := []) (fun _ z => nomatch z) (fun b o _ hb _ e n => u.keep b o e n hb (by simp)) (fun b o _ hb _ e n => u.slot b o e n hb (by simp)) (fun b o _ e n => u.free b o e n (by simp)) (fun b o _ e => u.there b o e (by simp)) u.tups u.frzs u.tbls (fun m' hm => by
    obtain ⟨o', es', ep', ho', r'⟩ := hm
    rw [ho] at ho'; cases ho'
    exact ⟨_, es', ep', hL, r'⟩) hok I.bare
/-- behind a call (or a comprehension's block): the slots of this frame may have changed too, the records at ch may have turned -/
theorem Inv.call {g' : Array GenState} {t' : Nat} {d' : Drawn} {ch : List Addr} (I : Inv X pins σ H s) (u : Un (frs X.stack) ch H H' s.heap h') (hok : HOk X.prog X.w H' h') (hg : AllBare g')
    (hch : ∀ b ∈ ch, (b ∈ X.ex ∨ X.s₀.heap.objs.size ≤ b) ∧ b ≠ X.env.locals ∧ (∀ x c, X.env.cells.lookup x = some c → c ≠ b) ∧ ∀ p ∈ X.pn ++ pins, p.1 ≠ b) :
    Inv X pins σ H' { s with heap := h', gens := g', drawn := d', toks := t' } := by
  obtain ⟨m, ⟨o, es, ep, ho, r⟩, _⟩ := id I.loc
  obtain ⟨sl, hL⟩ := u.any ho I.free fun z => (hch _ z).2.1 rfl
  exact I.step (ch := ch) hch (fun b o hL hb hc e n => u.keep b o e n (fun z => (List.mem_cons.mp (I.stkSub b z)).elim hL hb) hc) (fun b o _ _ hc e n => u.any e n hc) (fun b o hc e n => u.free b o e n hc) (fun b o hc e => u.there b o e hc) u.tups u.frzs u.tbls (fun m' hm => by
    obtain ⟨o', es', ep', ho', r'⟩ := hm
    rw [ho] at ho'; cases ho'
    exact ⟨_, es', ep', hL, r'⟩) hok hg
/-- an untracked record of ours (an iterator) has turned -/
theorem Inv.turned {t' : Nat} {it : Addr} (I : Inv X pins σ H s) (k : ∀ b o, b ≠ it → s.heap.get? b = some o → h'.get? b = some o) (hn : H it = none) (hL : it ≠ X.env.locals)
    (h1 : it ∈ X.ex ∨ X.s₀.heap.objs.size ≤ it) (h2 : ∀ x c, X.env.cells.lookup x = some c → c ≠ it) (h3 : ∀ p ∈ X.pn ++ pins, p.1 ≠ it) : Inv X pins σ H { s with heap := h', toks := t' } := by
  have nit : ∀ b u, H b = some u → b ≠ it := fun b u e z => by rw [z, hn] at e; cases e
  refine I.step (g' := s.gens) (d' := s.drawn) (ch := [it]) (fun b hb => ?_) (fun b o _ _ hc e _ => k b o (fun z => hc (by simp [z])) e) (fun b o _ _ hc e _ => ⟨o.slots, k b o (fun z => hc (by simp [z])) e⟩) (fun _ _ _ _ n => n)
    (fun b o hc e => ⟨o, k b o (fun z => hc (by simp [z])) e⟩) (fun _ _ e => e) (fun _ _ _ e => e) (fun b ps e => ⟨#[], by rw [e]; simp⟩) (fun m hm => ?_) (fun b u e => ?_) I.bare
  · have e : b = it := by simpa using hb
    subst e
    exact ⟨h1, hL, h2, h3⟩
  · obtain ⟨o, es, ep, ho, r⟩ := hm
    exact ⟨o, es, ep, k _ o (Ne.symm hL) ho, r⟩
  · refine (I.hok b u e).stay (fun c v hc q => k c v ?_ q) (fun _ q => q) fun _ _ q => q
    rcases hc with z | z
    · rw [z]; exact nit b u e
    · exact nit c _ z
theorem Inv.tok (I : Inv X pins σ H s) (t : Nat) : Inv X pins σ H { s with toks := t } := I.un (h' := s.heap) (t' := t) Un.refl I.hok
/-- all objects kept -/
theorem Inv.kept {t' : Nat} (I : Inv X pins σ H s) (k : ∀ b u, s.heap.get? b = some u → h'.get? b = some u) : Inv X pins σ H { s with heap := h', toks := t' } := I.un (Un.kept k) (I.hok.kept k)
/-- a new object laid and tracked -/
theorem Inv.laid {a : Addr} {o : HO} {t' : Nat} (I : Inv X pins σ H s) (k : ∀ b u, s.heap.get? b = some u → h'.get? b = some u) (hp : s.heap.objs.size ≤ a) (new : ObjOk X.prog X.w (upd H a o) h' a o) :
    Inv X pins σ (upd H a o) { s with heap := h', toks := t' } := I.un (Un.laid k hp (I.hok.fresh hp)) (I.hok.laid k hp new)
/-- an object written -/
theorem Inv.write {x e : Addr} {o : HO} {t' : Nat} (I : Inv X pins σ H s) (mu : Mut (H x)) (he : e = x ∨ H e = some (.own x)) (k : ∀ b u, b ≠ e → s.heap.get? b = some u → h'.get? b = some u) (heo : ∃ u, h'.get? e = some u)
    (new : ObjOk X.prog X.w (upd H x o) h' x o) : Inv X pins σ (upd H x o) { s with heap := h', toks := t' } := I.un (Un.write mu he k heo) (I.hok.write mu he k heo new)
/-- forgetting slots, pins -/
theorem Inv.weak {σ' : List (Option V)} (I : Inv X pins σ H s) (hl : σ'.length = σ.length) (w : ∀ (i : Nat) v, σ'[i]? = some (some v) → σ[i]? = some (some v)) : Inv X pins σ' H s :=
  ⟨I.ok, I.os, I.bare, I.base, let ⟨m, hn, hl'⟩ := I.loc; ⟨m, hn, fun i x v e1 e2 e3 => hl' i x v e1 (w i v e2) e3⟩, I.cell, I.free, I.freeC, I.pin, I.hok, hl.trans I.len⟩
theorem Inv.pins_of {pins' : List (Addr × Obj)} (I : Inv X pins σ H s) (h : ∀ p ∈ pins', s.heap.get? p.1 = some p.2 ∧ H p.1 = none ∧ p.1 ≠ X.env.locals ∧ p.1 ∉ X.fs ∧ ∀ v, p.2.data ≠ .cell v) : Inv X pins' σ H s :=
  ⟨I.ok, I.os, I.bare, I.base, I.loc, I.cell, I.free, I.freeC, fun p hp => (List.mem_append.mp hp).elim (fun z => I.pin p (List.mem_append_left _ z)) (h p), I.hok, I.len⟩

theorem nodup_ix {N : List Str} (hN : N.Nodup) {i j : Nat} {x : Str} (a : N[i]? = some x) (b : N[j]? = some x) : i = j := by
  obtain ⟨h1, e1⟩ := List.getElem?_eq_some_iff.mp a
  obtain ⟨h2, e2⟩ := List.getElem?_eq_some_iff.mp b
  exact (List.getElem_inj hN).mp (e1.trans e2.symm)

/-- a name is stored; what changed -/
theorem store_ok2 {M : Model} {A : Around} {E : Value → Shared → Prop} {i : Nat} {x : Str} {v : V} {u : Value} {Q : Unit → Shared → Prop} (I : Inv X pins σ H s) (hN : X.N.Nodup) (hi : X.N[i]? = some x) (hx : Loc X.env.scope x) (r : RelV v u)
    (h : ∀ s', Inv X pins (σ.set i (some v)) H s' → (∃ a, Heap.SameBut a s.heap s'.heap ∧ (a = X.env.locals ∨ X.env.cells.lookup x = some a)) → Q () s') (hf : X.fn x = true ∨ X.env.scope.names.lookup x = some .local := by first | exact .inl rfl | exact .inr rfl | assumption) : wpAny M A (storeName X.env x u) Q E s := by
  obtain ⟨m, hn, hl⟩ := id I.loc
  have hcls : (X.env.scope.kind == .class || (X.env.scope.kind == .module && X.env.locals != X.env.globals)) = false := by rw [I.ok.kind]; rfl
  have hiσ : i < σ.length := by rw [I.len]; exact (List.getElem?_eq_some_iff.mp hi).1
  have cne := I.cne
  have tracked : ∀ {a : Addr} {h' : Heap}, (∃ o, s.heap.get? a = some o ∧ H a = none) → Heap.SameBut a s.heap h' → HOk X.prog X.w H h' := fun {a h'} ha hs b ob e => by
    obtain ⟨_, _, hfree⟩ := ha
    refine (I.hok b ob e).stay (fun c w' hc q => (hs.2 c ?_).trans q) (fun _ q => q) fun _ _ q => q
    rintro rfl
    rcases hc with rfl | hc
    · rw [hfree] at e; cases e
    · rw [hfree] at hc; cases hc
  rcases hx with hk | hk
  · refine wpAny_storeName_local hk hn (fun h' hn' hs => ?_) hcls
    obtain ⟨oL, _, _, hoL, _⟩ := id hn
    refine h _ ⟨I.ok, I.os, I.bare, ⟨fun b o e n hb hx => ?_, fun b o e n hb hx => ?_, I.base.free, fun b o e hx => ?_, I.base.tups, I.base.frzs, I.base.tbls⟩, ⟨_, hn', fun j y v' e1 e2 e3 => ?_⟩, fun y c e => ?_, I.free, I.freeC, fun p hp => ?_, tracked ⟨oL, hoL, I.free⟩ hs, by simpa using I.len⟩ ⟨_, hs, .inl rfl⟩
    · exact (hs.2 b (Nat.ne_of_lt (Nat.lt_of_lt_of_le (Heap.lt_size e) I.ok.above))).trans (I.base.keep b o e n hb hx)
    · obtain ⟨sl, e1⟩ := I.base.slot b o e n hb hx
      exact ⟨sl, (hs.2 b (Nat.ne_of_lt (Nat.lt_of_lt_of_le (Heap.lt_size e) I.ok.above))).trans e1⟩
    · obtain ⟨o', e1⟩ := I.base.there b o e hx
      exact ⟨o', (hs.2 b (Nat.ne_of_lt (Nat.lt_of_lt_of_le (Heap.lt_size e) I.ok.above))).trans e1⟩
    · by_cases hj : j = i
      · subst hj
        rw [hi] at e1; cases e1
        rw [List.getElem?_set_self hiσ] at e2
        cases e2
        exact ⟨u, r, .inl ⟨hk, by simp⟩⟩
      · rw [List.getElem?_set_ne (Ne.symm hj)] at e2
        obtain ⟨u', r', q⟩ := hl j y v' e1 e2 e3
        refine ⟨u', r', ?_⟩
        rcases q with ⟨k, e⟩ | ⟨k, c, e, z⟩
        · refine .inl ⟨k, ?_⟩
          have : y ≠ x := fun e => hj (nodup_ix hN e1 (e ▸ hi))
          simp [this, e]
        · exact .inr ⟨k, c, e, z.sameBut hs (cne y c e)⟩
    · obtain ⟨w', z⟩ := I.cell y c e
      exact ⟨w', z.sameBut hs (cne y c e)⟩
    · obtain ⟨e, n, ne, nf, d⟩ := I.pin p hp
      exact ⟨(hs.2 p.1 ne).trans e, n, ne, nf, d⟩
  · have hfn : X.fn x = true := by
      rcases hf with z | z
      · exact z
      · rw [z] at hk; cases hk
    obtain ⟨c, hc⟩ := I.ok.has x (.inl hk)
    obtain ⟨w', z⟩ := I.cell x c hc
    refine wpAny_storeName_cell I.ok.kind hk hc z (fun h' hc' hs => ?_)
    obtain ⟨oc, hoc, hocd⟩ := id z
    refine h { s with heap := h' } ⟨I.ok, I.os, I.bare, ⟨fun b o e n hb hx => ?_, fun b o e n hb hx => ?_, I.base.free, fun b o e hx => ?_, I.base.tups, I.base.frzs, I.base.tbls⟩, ⟨m, hn.sameBut hs (Ne.symm (cne x c hc)), fun j y v' e1 e2 e3 => ?_⟩, fun y c' e => ?_, I.free, I.freeC, fun p hp => ?_, tracked ⟨oc, hoc, I.freeC x c hc⟩ hs, by simpa using I.len⟩ ⟨c, hs, .inr hc⟩
    · exact (hs.2 b (Nat.ne_of_lt (Nat.lt_of_lt_of_le (Heap.lt_size e) (I.ok.cab x c hfn hc)))).trans (I.base.keep b o e n hb hx)
    · obtain ⟨sl, e1⟩ := I.base.slot b o e n hb hx
      exact ⟨sl, (hs.2 b (Nat.ne_of_lt (Nat.lt_of_lt_of_le (Heap.lt_size e) (I.ok.cab x c hfn hc)))).trans e1⟩
    · obtain ⟨o', e1⟩ := I.base.there b o e hx
      exact ⟨o', (hs.2 b (Nat.ne_of_lt (Nat.lt_of_lt_of_le (Heap.lt_size e) (I.ok.cab x c hfn hc)))).trans e1⟩
    · by_cases hj : j = i
      · subst hj
        rw [hi] at e1; cases e1
        rw [List.getElem?_set_self hiσ] at e2
        cases e2
        exact ⟨u, r, .inr ⟨.inl hk, c, hc, hc'⟩⟩
      · rw [List.getElem?_set_ne (Ne.symm hj)] at e2
        obtain ⟨u', r', q⟩ := hl j y v' e1 e2 e3
        refine ⟨u', r', ?_⟩
        rcases q with q | ⟨k, c', e, z'⟩
        · exact .inl q
        · refine .inr ⟨k, c', e, z'.sameBut hs ?_⟩
          rintro rfl
          exact hj (nodup_ix hN e1 (I.ok.inj _ _ _ e hc ▸ hi))
    · by_cases hcc : c' = c
      · subst hcc; exact ⟨_, hc'⟩
      · obtain ⟨w2, z2⟩ := I.cell y c' e
        exact ⟨w2, z2.sameBut hs hcc⟩
    · obtain ⟨e, n, ne, nf, d⟩ := I.pin p hp
      refine ⟨(hs.2 p.1 ?_).trans e, n, ne, nf, d⟩
      intro q
      rw [q, hoc] at e
      have q' : oc = p.2 := Option.some.inj e
      exact d w' (by rw [← q']; exact hocd)
theorem store_ok {M : Model} {A : Around} {E : Value → Shared → Prop} {i : Nat} {x : Str} {v : V} {u : Value} {Q : Unit → Shared → Prop} (I : Inv X pins σ H s) (hN : X.N.Nodup) (hi : X.N[i]? = some x) (hx : Loc X.env.scope x) (r : RelV v u)
    (h : ∀ s', Inv X pins (σ.set i (some v)) H s' → Q () s') (hf : X.fn x = true ∨ X.env.scope.names.lookup x = some .local := by first | exact .inl rfl | exact .inr rfl | assumption) : wpAny M A (storeName X.env x u) Q E s :=
  store_ok2 I hN hi hx r (fun s' I' _ => h s' I') hf
/-- behind a call or a block, the state as it is -/
theorem Inv.call' {s' : Shared} {ch : List Addr} (I : Inv X pins σ H s) (ho : s'.os = s.os) (u : Un (frs X.stack) ch H H' s.heap s'.heap) (hok : HOk X.prog X.w H' s'.heap) (hg : AllBare s'.gens)
    (hch : ∀ b ∈ ch, (b ∈ X.ex ∨ X.s₀.heap.objs.size ≤ b) ∧ b ≠ X.env.locals ∧ (∀ x c, X.env.cells.lookup x = some c → c ≠ b) ∧ ∀ p ∈ X.pn ++ pins, p.1 ≠ b) : Inv X pins σ H' s' := by
  obtain ⟨h', g', d', t', o'⟩ := s'
  have e : o' = s.os := ho
  subst e
  exact I.call (g' := g') (t' := t') (d' := d') u hok hg hch
end

/-! ### the judgements -/
/-- an exception: its class, its own dict's address (where it has one), the abstract heap behind it -/
abbrev XK := Value → Option Addr → Hp → Prop
abbrev St := List (Option V)
abbrev VK := V → Hp → Prop
/-- an expression's reading; a test's; an argument list's -/
abbrev TE := St → Hp → VK → Prop
abbrev TT := St → Hp → (Bool → Hp → Prop) → Prop
abbrev TA := St → Hp → (List V → Hp → Prop) → Prop
/-- what is wanted behind a statement -/
structure Ends where
  nx : St → Hp → Prop
  rt : VK
  bk : St → Hp → Prop := fun _ _ => False
  ct : St → Hp → Prop := fun _ _ => False
abbrev TS := Ends → St → Hp → Prop

def EP (X : Cx) (pins : List (Addr × Obj)) (σ : St) (Q : VK) (u : Value) (s' : Shared) : Prop := ∃ v H', Inv X pins σ H' s' ∧ RelV v u ∧ Q v H'
def TP (X : Cx) (pins : List (Addr × Obj)) (σ : St) (Q : Bool → Hp → Prop) (b : Bool) (s' : Shared) : Prop := ∃ H', Inv X pins σ H' s' ∧ Q b H'
def AP (X : Cx) (pins : List (Addr × Obj)) (σ : St) (Q : List V → Hp → Prop) (us : List Value) (s' : Shared) : Prop := ∃ vs H', Inv X pins σ H' s' ∧ Vals vs us ∧ Q vs H'
def SP (X : Cx) (pins : List (Addr × Obj)) (D : Ends) (f : Flow) (s' : Shared) : Prop :=
  match f with
  | .next => ∃ σ' H', Inv X pins σ' H' s' ∧ D.nx σ' H'
  | .brk => ∃ σ' H', Inv X pins σ' H' s' ∧ D.bk σ' H'
  | .cont => ∃ σ' H', Inv X pins σ' H' s' ∧ D.ct σ' H'
  | .ret u => ∃ v σ' H', Inv X pins σ' H' s' ∧ RelV v u ∧ D.rt v H'

def PE (X : Cx) (e : Expr) (t : TE) : Prop :=
  ∀ (pins : List (Addr × Obj)) (s : Shared) (σ : St) (H : Hp) (Q : VK), Inv X pins σ H s → t σ H Q → wpAny (model X.prog X.w) X.A (eval e X.env) (EP X pins σ Q) X.xe s
def PT (X : Cx) (e : Expr) (t : TT) : Prop :=
  ∀ (pins : List (Addr × Obj)) (s : Shared) (σ : St) (H : Hp) (Q : Bool → Hp → Prop), Inv X pins σ H s → t σ H Q → wpAny (model X.prog X.w) X.A (isTrue e X.env (eval e X.env)) (TP X pins σ Q) X.xe s
/-- a test whatever its 'whole' is (and, or) -/
def PW (X : Cx) (e : Expr) (t : TT) : Prop :=
  ∀ (whole : Sem Value) (pins : List (Addr × Obj)) (s : Shared) (σ : St) (H : Hp) (Q : Bool → Hp → Prop), Inv X pins σ H s → t σ H Q → wpAny (model X.prog X.w) X.A (isTrue e X.env whole) (TP X pins σ Q) X.xe s
theorem PW.pt {X : Cx} {e : Expr} {t : TT} (h : PW X e t) : PT X e t := h _
/-- an argument list (no star), from the left -/
def PA (X : Cx) (es : List Expr) (t : TA) : Prop :=
  ∀ (pos : Pos) (pins : List (Addr × Obj)) (s : Shared) (σ : St) (H : Hp) (Q : List V → Hp → Prop), Inv X pins σ H s → t σ H Q → wpAny (model X.prog X.w) X.A (spliced (backTo pos (starEach es X.env))) (AP X pins σ Q) X.xe s
def PS (X : Cx) (st : Stmt) (t : TS) : Prop :=
  ∀ (pins : List (Addr × Obj)) (s : Shared) (σ : St) (H : Hp) (D : Ends), Inv X pins σ H s → t D σ H → wpAny (model X.prog X.w) X.A (exec st X.env) (SP X pins D) X.xe s
def PSs (X : Cx) (st : List Stmt) (t : TS) : Prop :=
  ∀ (pins : List (Addr × Obj)) (s : Shared) (σ : St) (H : Hp) (D : Ends), Inv X pins σ H s → t D σ H → wpAny (model X.prog X.w) X.A (execs st X.env) (SP X pins D) X.xe s
/-- weaken the end -/
theorem thn {α : Type} {t : Sem α} {Q Q' : α → Shared → Prop} {M : Model} {A : Around} {E : Value → Shared → Prop} {s : Shared} (h : wpAny M A t Q E s) (hQ : ∀ a s, Q a s → Q' a s) : wpAny M A t Q' E s := wpAny_mono h hQ fun _ _ x => x
end L2

namespace L2
open PySem PySem.Spec PyProof.Rows
section
variable {X : Cx}

/-! ### names and constants -/
def tVar (i : Nat) : TE := fun σ H Q => ∃ v, σ[i]? = some (some v) ∧ Q v H
def tC (v : V) : TE := fun _ H Q => Q v H
theorem pe_var {i : Nat} {x : Str} {pos : Pos} (hN : X.N[i]? = some x) (hv : Vis X.env.scope x) (hd : (x == ("__debug__" : Str)) = false := by decide) (hcd : (x == ("__classdict__" : Str)) = false := by decide) : PE X (.Name x pos) (tVar i) := by
  intro pins s σ H Q I h
  obtain ⟨v, e, h⟩ := h
  obtain ⟨m, hn, hl⟩ := I.loc
  obtain ⟨u, r, l⟩ := hl i x v hN e hv
  have fin : EP X pins σ Q u s := ⟨v, H, I, r, h⟩
  rcases l with ⟨hk, hm⟩ | ⟨hk, c, hc, hcell⟩
  · exact wpAny_Name (wpAny_loadName_local I.ok.kind hk hn hm fin) hd
  · rcases hk with hk | hk
    · exact wpAny_Name (wpAny_loadName_cell I.ok.kind hk hc hcell fin) hd
    · exact wpAny_Name (wpAny_loadName_free I.ok.kind hk hc hcell fin hcd) hd
theorem pe_int {i j pos} : PE X (.Constant (.int i) j pos) (tC (.int i)) := fun _ _ _ H _ I h => wpAny_Constant_int ⟨.int i, H, I.tok _, ⟨_, rfl⟩, h⟩
theorem pe_bl {b j pos} : PE X (.Constant (.bool b) j pos) (tC (.bl b)) := fun _ _ _ H _ I h => Constant_bool ⟨.bl b, H, I, rfl, h⟩
theorem pe_non {j pos} : PE X (.Constant .none j pos) (tC .non) := fun _ _ _ H _ I h => Constant_none ⟨.non, H, I, rfl, h⟩
theorem pe_str {x j pos} : PE X (.Constant (.str x) j pos) (tC (.str x)) := fun _ _ _ H _ I h => Calls.Constant_str ⟨.str x, H, I.tok _, ⟨_, rfl⟩, h⟩

/-- a global name of the def -/
def Gl (X : Cx) (x : Str) : Prop := X.env.kindOf x = some .globalImplicit
theorem ld_glob {E : Value → Shared → Prop} {pins : List (Addr × Obj)} {s : Shared} {σ : St} {H : Hp} {x : Str} {u : Value} {pos : Pos} {Q : Value → Shared → Prop} (I : Inv X pins σ H s) (hg : Gl X x) (hm : X.mg x = some u) (h : Q u s)
    (hd : (x == ("__debug__" : Str)) = false := by decide) : wpAny (model X.prog X.w) X.A (eval (.Name x pos) X.env) Q E s :=
  Calls.Name_function_global I.ok.kind hg (Calls.loadGlobal_global (by rw [I.ok.glob]; exact I.mod.glob.keeps I.bk) hm h) hd
theorem ld_blt {E : Value → Shared → Prop} {pins : List (Addr × Obj)} {s : Shared} {σ : St} {H : Hp} {x : Str} {u : Value} {pos : Pos} {Q : Value → Shared → Prop} (I : Inv X pins σ H s) (hg : Gl X x) (hm : X.mg x = none) (hv : bootBuiltins x = some u) (h : Q u s)
    (hn : x ≠ "__name__" := by decide) (hd : (x == ("__debug__" : Str)) = false := by decide) : wpAny (model X.prog X.w) X.A (eval (.Name x pos) X.env) Q E s := by
  obtain ⟨mb, h1, h2⟩ := I.mod.blt
  exact Calls.Name_function_global I.ok.kind hg (Calls.loadGlobal_builtin (by rw [I.ok.glob]; exact I.mod.glob.keeps I.bk) hm (by rw [I.ok.blt]; exact h1.keeps I.bk) ((h2 x hn).trans hv) h) hd
/-- a module's constant, a class, a function, as a value -/
theorem pe_glob {x : Str} {v : V} {u : Value} {pos : Pos} (hg : Gl X x) (hm : X.mg x = some u) (r : RelV v u) (hd : (x == ("__debug__" : Str)) = false := by decide) : PE X (.Name x pos) (tC v) :=
  fun _ _ _ H _ I h => ld_glob I hg hm ⟨v, H, I, r, h⟩ hd
theorem pe_bltn {x : Str} {v : V} {u : Value} {pos : Pos} (hg : Gl X x) (hm : X.mg x = none) (hv : bootBuiltins x = some u) (r : RelV v u) (hn : x ≠ "__name__" := by decide) (hd : (x == ("__debug__" : Str)) = false := by decide) : PE X (.Name x pos) (tC v) :=
  fun _ _ _ H _ I h => ld_blt I hg hm hv ⟨v, H, I, r, h⟩ hn hd

/-! ### arithmetic -/
/-- two ints -/
def t2I (ta tb : TE) (k : Int → Int → Hp → Prop) : St → Hp → Prop := fun σ H => ta σ H fun x H1 => tb σ H1 fun y H2 => ∃ i j, x = .int i ∧ y = .int j ∧ k i j H2
def tAdd (ta tb : TE) : TE := fun σ H Q => t2I ta tb (fun i j H2 => Q (.int (i + j)) H2) σ H
def tSub (ta tb : TE) : TE := fun σ H Q => t2I ta tb (fun i j H2 => Q (.int (i - j)) H2) σ H
/-- the left factor below 2^64 -/
def tMul (ta tb : TE) : TE := fun σ H Q => t2I ta tb (fun i j H2 => (-(2 ^ 64) < i ∧ i < 2 ^ 64) ∧ Q (.int (i * j)) H2) σ H
variable {a b : Expr} {ta tb : TE} {pos : Pos}
/-! ### comparisons -/
def PC (X : Cx) (op : CmpOp) (a b : Expr) (t : TE) : Prop :=
  ∀ (pins : List (Addr × Obj)) (s : Shared) (σ : St) (H : Hp) (Q : VK), Inv X pins σ H s → t σ H Q →
    wpAny (model X.prog X.w) X.A (eval a X.env) (fun v s₁ => wpAny (model X.prog X.w) X.A (eval b X.env) (fun u s₂ => wpAny (model X.prog X.w) X.A (compareOp op v u) (EP X pins σ Q) X.xe s₂) X.xe s₁) X.xe s
def tCmp (p : Int → Int → Bool) (ta tb : TE) : TE := fun σ H Q => t2I ta tb (fun i j H2 => Q (.bl (p i j)) H2) σ H
abbrev tLt : TE → TE → TE := tCmp fun i j => decide (i < j)
abbrev tLe : TE → TE → TE := tCmp fun i j => decide (i ≤ j)
abbrev tGt : TE → TE → TE := tCmp fun i j => decide (j < i)
abbrev tGe : TE → TE → TE := tCmp fun i j => decide (j ≤ i)
abbrev tEqI : TE → TE → TE := tCmp fun i j => decide (i = j)
abbrev tNeI : TE → TE → TE := tCmp fun i j => !decide (i = j)
/-- is None -/
def tIsN (ta : TE) : TE := fun σ H Q => ta σ H fun x H1 => Q (.bl (decide (x = .non))) H1
def tNotN (ta : TE) : TE := fun σ H Q => ta σ H fun x H1 => Q (.bl (!decide (x = .non))) H1
/-- a comparison as a value, as a test -/
def tB (t : TE) : TT := fun σ H Q => t σ H fun x H1 => ∃ c, x = .bl c ∧ Q c H1
/-- an expression whose value is a bool, as a test -/
theorem pt_val {e : Expr} {t : TE} (h : PE X e t) (he : ∀ whole, isTrue e X.env whole = (do let v ← whole; standAt e.pos; holding [v] (truthy v)) := by intro _; rfl) : PT X e (tB t) := by
  intro pins s σ H Q I hw
  refine isTrue_plain (thn (h pins s σ H _ I hw) fun v s1 ⟨x, H1, I1, r1, q1⟩ => ?_) (he _)
  obtain ⟨d, rfl, q⟩ := q1
  cases r1
  exact wpAny_truthy_bool ⟨H1, I1, q⟩

/-! ### and, or, not -/
variable {tA tB' : TT} {rest : List Expr}
def tAnd (t u : TT) : TT := fun σ H Q => t σ H fun c H1 => if c = true then u σ H1 Q else Q false H1
def tOr (t u : TT) : TT := fun σ H Q => t σ H fun c H1 => if c = true then Q true H1 else u σ H1 Q
def tNot (t : TT) : TT := fun σ H Q => t σ H fun c H1 => Q (!c) H1
theorem pw_and1 (ha : PT X a tA) : PW X (.BoolOp .And [a] pos) tA := by
  intro wh pins s σ H Q I h
  refine isTrue_and (thn (ha pins s σ H Q I h) fun c s1 e => ?_)
  cases c with
  | true => exact isTrue_and_nil e
  | false => exact e
theorem pw_or1 (ha : PT X a tA) : PW X (.BoolOp .Or [a] pos) tA := by
  intro wh pins s σ H Q I h
  refine isTrue_or (thn (ha pins s σ H Q I h) fun c s1 e => ?_)
  cases c with
  | false => exact isTrue_or_nil e
  | true => exact e
theorem pw_and (ha : PT X a tA) (hb : PW X (.BoolOp .And (b :: rest) pos) tB') : PW X (.BoolOp .And (a :: b :: rest) pos) (tAnd tA tB') := by
  intro wh pins s σ H Q I h
  refine isTrue_and (thn (ha pins s σ H _ I h) fun c s1 ⟨H1, I1, q1⟩ => ?_)
  cases c with
  | true => exact hb wh pins s1 σ H1 Q I1 q1
  | false => exact ⟨H1, I1, q1⟩
theorem pw_or (ha : PT X a tA) (hb : PW X (.BoolOp .Or (b :: rest) pos) tB') : PW X (.BoolOp .Or (a :: b :: rest) pos) (tOr tA tB') := by
  intro wh pins s σ H Q I h
  refine isTrue_or (thn (ha pins s σ H _ I h) fun c s1 ⟨H1, I1, q1⟩ => ?_)
  cases c with
  | true => exact ⟨H1, I1, q1⟩
  | false => exact hb wh pins s1 σ H1 Q I1 q1
theorem pt_not (ha : PT X a tA) : PT X (.UnaryOp .Not a pos) (tNot tA) := by
  intro pins s σ H Q I h
  exact isTrue_not (ha pins s σ H (fun c H1 => Q (!c) H1) I h)
/-- .. as values (bools) -/
def tAndV (ta tb : TE) : TE := fun σ H Q => ta σ H fun x H1 => ∃ c, x = .bl c ∧ if c = true then tb σ H1 Q else Q (.bl false) H1
def tOrV (ta tb : TE) : TE := fun σ H Q => ta σ H fun x H1 => ∃ c, x = .bl c ∧ if c = true then Q (.bl true) H1 else tb σ H1 Q
def tNotV (ta : TE) : TE := fun σ H Q => ta σ H fun x H1 => ∃ c, x = .bl c ∧ Q (.bl (!c)) H1
theorem pe_one {op} {t : TE} (h : PE X a t) : PE X (.BoolOp op [a] pos) t := fun pins s σ H Q I hw => BoolOp_one (h pins s σ H Q I hw)
theorem pe_and (ha : PE X a ta) (hb : PE X (.BoolOp .And (b :: rest) pos) tb) : PE X (.BoolOp .And (a :: b :: rest) pos) (tAndV ta tb) := by
  intro pins s σ H Q I h
  refine BoolOp_and (thn (ha pins s σ H _ I h) fun v s1 ⟨x, H1, I1, r1, q1⟩ => ?_)
  obtain ⟨c, rfl, q1⟩ := q1
  cases r1
  refine wpAny_truthy_bool ?_
  cases c with
  | true => exact hb pins s1 σ H1 Q I1 q1
  | false => exact ⟨.bl false, H1, I1, rfl, q1⟩
theorem pe_not (ha : PE X a ta) : PE X (.UnaryOp .Not a pos) (tNotV ta) := by
  intro pins s σ H Q I h
  refine UnaryOp_ (thn (ha pins s σ H _ I h) fun v s1 ⟨x, H1, I1, r1, q1⟩ => ?_)
  obtain ⟨c, rfl, q1⟩ := q1
  cases r1
  exact not_of (wpAny_truthy_bool ⟨.bl (!c), H1, I1, rfl, q1⟩)
/-- a if t else b -/
def tIf (t : TT) (ta tb : TE) : TE := fun σ H Q => t σ H fun c H1 => if c = true then ta σ H1 Q else tb σ H1 Q
end
end L2

namespace L2
open PySem PySem.Spec PyProof.Rows

/-! ### a list, a tuple that is read: tracked, frozen, or an object of the module -/
def SqL (K : PySem.W.Frag) (H : Hp) (a : Addr) (xs : List V) : Prop :=
  Rd H a (.lst xs) ∨
    ∃ (o : Obj) (its : Array Value) (n : Nat), K.lookup a = some o ∧ o.cls = .type "list" ∧ o.dict = none ∧ o.data = .seq its n ∧ its.size ≤ sizeLine ∧ Vals xs its.toList
def SqT (K : PySem.W.Frag) (H : Hp) (a : Addr) (xs : List V) : Prop :=
  Rd H a (.tup xs) ∨
    ∃ (o : Obj) (its : Array Value) (n : Nat), K.lookup a = some o ∧ o.cls = .type "tuple" ∧ o.data = .seq its n ∧ its.size ≤ sizeLine ∧ Vals xs its.toList
def absV : Value → Option V
  | .none => some .non
  | .bool b => some (.bl b)
  | .int i _ => some (.int i)
  | .str x _ => some (.str x)
  | .bytes b _ => some (.byt b)
  | .float b _ => some (.flt b)
  | .ref a => some (.ref a)
  | .type n => some (.ty n)
  | _ => none
theorem RelV.abs {x : V} {u : Value} (r : RelV x u) : absV u = some x := by
  cases x with
  | non => cases r; rfl
  | bl _ => cases r; rfl
  | int _ => obtain ⟨t, rfl⟩ := r; rfl
  | str _ => obtain ⟨t, rfl⟩ := r; rfl
  | byt _ => obtain ⟨t, rfl⟩ := r; rfl
  | flt _ => obtain ⟨t, rfl⟩ := r; rfl
  | ref _ => cases r; rfl
  | ty _ => cases r; rfl
theorem RelV.inj {x y : V} {u : Value} (r : RelV x u) (q : RelV y u) : x = y := Option.some.inj (r.abs.symm.trans q.abs)
theorem Vals.inj : ∀ {xs ys : List V} {us : List Value}, Vals xs us → Vals ys us → xs = ys
  | _, _, _, .nil, .nil => rfl
  | _, _, _, .cons r t, .cons r' t' => by rw [r.inj r', Vals.inj t t']
section
variable {X : Cx} {pins : List (Addr × Obj)} {σ : St} {H : Hp} {s : Shared} {a : Addr} {xs ys : List V}
theorem SqL.of {K : PySem.W.Frag} (h : H a = some (.lst xs)) : SqL K H a xs := .inl (.inl h)
theorem SqT.of {K : PySem.W.Frag} (h : H a = some (.tup xs)) : SqT K H a xs := .inl (.inl h)
theorem Inv.list (I : Inv X pins σ H s) (h : SqL X.K H a xs) : ∃ its : List Value, Vals xs its ∧ PlainL s.heap a its.toArray ∧ xs.length ≤ sizeLine := by
  rcases h with h | ⟨o, its, n, hk, hc, hd, hs, hz, r⟩
  · obtain ⟨z, its, n, r, e⟩ := h.ok I.hok
    exact ⟨its, r, ⟨_, n, e, rfl, rfl, rfl⟩, z⟩
  · refine ⟨its.toList, r, ⟨o, n, I.kIn a o hk, hc, hd, by simpa using hs⟩, ?_⟩
    have e := r.length
    simp only [Array.length_toList] at e
    omega
theorem Inv.tuple (I : Inv X pins σ H s) (h : SqT X.K H a xs) : ∃ its : List Value, Vals xs its ∧ IsTup s.heap a its.toArray ∧ xs.length ≤ sizeLine := by
  rcases h with h | ⟨o, its, n, hk, hc, hs, hz, r⟩
  · obtain ⟨z, its, r, p⟩ := h.ok I.hok
    exact ⟨its, r, p, z⟩
  · refine ⟨its.toList, r, ⟨o, I.kIn a o hk, hc, n, by simpa using hs⟩, ?_⟩
    have e := r.length
    simp only [Array.length_toList] at e
    omega
theorem Inv.list_inj (I : Inv X pins σ H s) (h : SqL X.K H a xs) (h' : SqL X.K H a ys) : xs = ys := by
  obtain ⟨its, r, ⟨o, n, e, _, _, d⟩, _⟩ := I.list h
  obtain ⟨its', r', ⟨o', n', e', _, _, d'⟩, _⟩ := I.list h'
  rw [e] at e'; cases e'
  rw [d] at d'
  injection d' with d1 _
  have : its = its' := by simpa using congrArg Array.toList d1
  subst this
  exact r.inj r'
end

/-! ### another wish about exceptions -/
abbrev Cx.wish (X : Cx) (E : Value → Shared → Prop) : Cx := { X with xe := E }
/-- no exception leaves -/
abbrev Cx.nox (X : Cx) : Cx := X.wish fun _ _ => False
theorem Cx.Ok.wish {X : Cx} (ok : X.Ok) (E : Value → Shared → Prop) : (X.wish E).Ok :=
  ⟨ok.mod, ok.kind, ok.glob, ok.blt, ok.above, ok.inj, ok.has, ok.cab, ok.hd, ok.frames, ok.stk, ok.exf, ok.bs, ok.bsz, ok.noex, ok.exfs, ok.funs, ok.frf⟩
theorem Cx.Ok.unwish {X : Cx} {E : Value → Shared → Prop} (ok : (X.wish E).Ok) : X.Ok :=
  ⟨ok.mod, ok.kind, ok.glob, ok.blt, ok.above, ok.inj, ok.has, ok.cab, ok.hd, ok.frames, ok.stk, ok.exf, ok.bs, ok.bsz, ok.noex, ok.exfs, ok.funs, ok.frf⟩
section
variable {X : Cx} {pins : List (Addr × Obj)} {σ : St} {H : Hp} {s : Shared} {E : Value → Shared → Prop}
theorem Inv.wish (I : Inv X pins σ H s) (E : Value → Shared → Prop) : Inv (X.wish E) pins σ H s := ⟨I.ok.wish E, I.os, I.bare, I.base, I.loc, I.cell, I.free, I.freeC, I.pin, I.hok, I.len⟩
theorem Inv.unwish (I : Inv (X.wish E) pins σ H s) : Inv X pins σ H s := ⟨I.ok.unwish, I.os, I.bare, I.base, I.loc, I.cell, I.free, I.freeC, I.pin, I.hok, I.len⟩
theorem SP.unwish {D : Ends} {f : Flow} {s' : Shared} (h : SP (X.wish E) pins D f s') : SP X pins D f s' := by
  cases f with
  | next => obtain ⟨σ', H', I, q⟩ := h; exact ⟨σ', H', I.unwish, q⟩
  | brk => obtain ⟨σ', H', I, q⟩ := h; exact ⟨σ', H', I.unwish, q⟩
  | cont => obtain ⟨σ', H', I, q⟩ := h; exact ⟨σ', H', I.unwish, q⟩
  | ret u => obtain ⟨v, σ', H', I, r, q⟩ := h; exact ⟨v, σ', H', I.unwish, r, q⟩
theorem PSs.nox {st : List Stmt} {t : TS} (h : PSs X.nox st t) : PSs X st t := fun pins s σ H D I hw =>
  wpAny_mono (h pins s σ H D (I.wish _) hw) (fun _ _ q => q.unwish) fun _ _ z => False.elim z
end

/-! ### blocks and small statements -/
section
variable {X : Cx} {st : Stmt} {rest : List Stmt} {t u : TS} {e : Expr} {te : TE} {pos : Pos}
def tNext : TS := fun D σ H => D.nx σ H
def tSeq (t u : TS) : TS := fun D σ H => t { D with nx := u D } σ H
theorem pss_nil : PSs X [] tNext := fun _ _ σ H _ I h => wpAny_execs_nil ⟨σ, H, I, h⟩
theorem pss_cons (h1 : PS X st t) (h2 : PSs X rest u) : PSs X (st :: rest) (tSeq t u) := by
  intro pins s σ H D I h
  refine wpAny_execs_cons (thn (h1 pins s σ H { D with nx := u D } I h) fun f s1 q => ?_)
  cases f with
  | next =>
    obtain ⟨σ', H', I', q⟩ := q
    exact h2 pins s1 σ' H' D I' q
  | ret v => exact q
  | brk => exact q
  | cont => exact q
theorem pss_one (h1 : PS X st t) : PSs X [st] t := by
  intro pins s σ H D I h
  refine wpAny_execs_cons (thn (h1 pins s σ H D I h) fun f s1 q => ?_)
  cases f with
  | next => exact wpAny_execs_nil q
  | ret v => exact q
  | brk => exact q
  | cont => exact q
def tBreak : TS := fun D σ H => D.bk σ H
def tCont : TS := fun D σ H => D.ct σ H
/-- in a def's body nothing is shown -/
theorem Inv.quiet {pins : List (Addr × Obj)} {σ : St} {H : Hp} {s : Shared} (I : Inv X pins σ H s) : interactive X.env = false := by simp [interactive, I.ok.kind]
/-- an expression whose value is dropped -/
def tDrop (te : TE) : TS := fun D σ H => te σ H fun _ H1 => D.nx σ H1
theorem ps_expr (he : PE X e te) (hs : swapsWith e none pos.line X.env = pure false := by rfl) : PS X (.Expr e pos) (tDrop te) := by
  intro pins s σ H D I h
  exact wpAny_Expr_any (thn (he pins s σ H _ I h) fun v s1 ⟨x, H1, I1, r1, q1⟩ => ⟨σ, H1, I1, q1⟩) I.quiet hs
def tRet (te : TE) : TS := fun D σ H => te σ H D.rt
theorem ps_ret (he : PE X e te) : PS X (.Return (some e) pos) (tRet te) := by
  intro pins s σ H D I h
  exact wpAny_Return_some (thn (he pins s σ H _ I h) fun v s1 ⟨x, H1, I1, r1, q1⟩ => ⟨x, σ, H1, I1, r1, q1⟩)
def tRetN : TS := fun D _ H => D.rt .non H
def tIfS (c : TT) (t u : TS) : TS := fun D σ H => c σ H fun b H1 => if b = true then t D σ H1 else u D σ H1
theorem ps_if {c : Expr} {a b : List Stmt} {tc : TT} (hc : PT X c tc) (ha : PSs X a t) (hb : PSs X b u) : PS X (.If c a b pos) (tIfS tc t u) := by
  intro pins s σ H D I h
  refine wpAny_If (thn (hc pins s σ H _ I h) fun d s1 ⟨H1, I1, q1⟩ => ?_)
  cases d with
  | true => exact ha pins s1 σ H1 D I1 q1
  | false => exact hb pins s1 σ H1 D I1 q1
/-- code that the proof never comes to -/
def tNever : TS := fun _ _ _ => False
theorem ps_never : PS X st tNever := fun _ _ _ _ _ _ h => h.elim
end

/-! ### targets -/
abbrev TG := V → St → Hp → (St → Hp → Prop) → Prop
abbrev TGs := List V → St → Hp → (St → Hp → Prop) → Prop
def PG (X : Cx) (target : Expr) (t : TG) : Prop :=
  ∀ (pins : List (Addr × Obj)) (s : Shared) (σ : St) (H : Hp) (v : V) (u : Value) (Q : St → Hp → Prop), Inv X pins σ H s → RelV v u → t v σ H Q →
    wpAny (model X.prog X.w) X.A (assign target X.env u) (fun _ s' => ∃ σ' H', Inv X pins σ' H' s' ∧ Q σ' H') X.xe s
/-- several targets, one after another -/
def PGs (X : Cx) (ts : List Expr) (t : TGs) : Prop :=
  ∀ (pins : List (Addr × Obj)) (s : Shared) (σ : St) (H : Hp) (vs : List V) (us : List Value) (Q : St → Hp → Prop), Inv X pins σ H s → Vals vs us → t vs σ H Q →
    wpAny (model X.prog X.w) X.A (assignInOrder ((assignEach ts X.env).map (·.2)) us) (fun _ s' => ∃ σ' H', Inv X pins σ' H' s' ∧ Q σ' H') X.xe s
/-- o[i] = v, by values -/
abbrev TSet := V → V → V → Hp → (Hp → Prop) → Prop
def PSet (X : Cx) (t : TSet) : Prop :=
  ∀ (pins : List (Addr × Obj)) (s : Shared) (σ : St) (H : Hp) (o i v : V) (ov iv u : Value) (Q : Hp → Prop), Inv X pins σ H s → RelV o ov → RelV i iv → RelV v u → t o i v H Q →
    wpAny (model X.prog X.w) X.A (setItem ov iv u) (fun _ s' => ∃ H', Inv X pins σ H' s' ∧ Q H') X.xe s
/-- a op= b, by values -/
abbrev TIp := V → V → Hp → VK → Prop
def PIp (X : Cx) (op : Operator) (t : TIp) : Prop :=
  ∀ (pins : List (Addr × Obj)) (s : Shared) (σ : St) (H : Hp) (x y : V) (v u : Value) (Q : VK), Inv X pins σ H s → RelV x v → RelV y u → t x y H Q →
    wpAny (model X.prog X.w) X.A (inplaceOp op v u) (EP X pins σ Q) X.xe s
section
variable {X : Cx} {pos : Pos}
def gName (i : Nat) : TG := fun v σ H Q => Q (σ.set i (some v)) H
theorem pg_name {i : Nat} {x : Str} (hN : X.N.Nodup) (hi : X.N[i]? = some x) (hx : Loc X.env.scope x) (hf : X.fn x = true ∨ X.env.scope.names.lookup x = some .local := by first | exact .inl rfl | exact .inr rfl | assumption) : PG X (.Name x pos) (gName i) := by
  intro pins s σ H v u Q I r h
  exact wpAny_assign_Name (store_ok I hN hi hx r (fun s' I' => ⟨_, H, I', h⟩) hf)
def gNil : TGs := fun vs σ H Q => vs = [] ∧ Q σ H
def gCons (t : TG) (u : TGs) : TGs := fun vs σ H Q => ∃ v r, vs = v :: r ∧ t v σ H fun σ' H' => u r σ' H' Q
theorem pgs_nil : PGs X [] gNil := by
  intro pins s σ H vs us Q I r h
  obtain ⟨e, h⟩ := h
  subst e
  cases r
  exact assignInOrder_nil ⟨σ, H, I, h⟩
theorem pgs_cons {e : Expr} {es : List Expr} {t : TG} {u : TGs} (h1 : PG X e t) (h2 : PGs X es u)
    (hs : (assignEach (e :: es) X.env).map (·.2) = assign e X.env :: (assignEach es X.env).map (·.2) := by rfl) : PGs X (e :: es) (gCons t u) := by
  intro pins s σ H vs us Q I r h
  obtain ⟨v, vr, e1, h⟩ := h
  subst e1
  cases r with
  | cons r rr =>
    rw [hs]
    refine assignInOrder_cons (thn (h1 pins s σ H _ _ _ I r h) fun _ s1 ⟨σ1, H1, I1, q1⟩ => ?_)
    exact h2 pins s1 σ1 H1 _ _ Q I1 rr q1
/-- (a, b, ..) = a tuple of that length -/
def gTup (K : PySem.W.Frag) (n : Nat) (t : TGs) : TG := fun v σ H Q => ∃ a xs, v = .ref a ∧ SqT K H a xs ∧ xs.length = n ∧ t xs σ H Q
theorem pg_tup {es : List Expr} {k : Nat} {t : TGs} {n : Nat} (hc : X.calm = true) (h : PGs X es t)
    (hn : (assignEach es X.env).length = n := by rfl) (hst : (assignEach es X.env).findIdx? (·.1) = none := by rfl) : PG X (.Tuple es k pos) (gTup X.K n t) := by
  intro pins s σ H v u Q I r hw
  obtain ⟨a, xs, e1, hq, hl, hw⟩ := hw
  subst e1
  cases r
  obtain ⟨its, rv, ht, hz⟩ := I.tuple hq
  refine assign_Tuple_tuple (I.ok.hd hc) ht (by simp [hn, ← hl, rv.length]) hst fun h' hx => ?_
  have I1 : Inv X pins σ H { s with heap := h' } := I.kept (t' := s.toks) fun b o e => hx b o (Nat.ne_of_lt (Heap.lt_size e)) e
  exact h pins _ σ H xs _ Q I1 (by simpa using rv) hw
/-- o[i] = .. -/
def gSub (to ti : TE) (t : TSet) : TG := fun v σ H Q => to σ H fun o H1 => ti σ H1 fun i H2 => t o i v H2 fun H3 => Q σ H3
/-- target = value -/
def tAsg (te : TE) (g : TG) : TS := fun D σ H => te σ H fun x H1 => g x σ H1 D.nx
/-- name = value -/
theorem ps_set {i : Nat} {x : Str} {e : Expr} {te : TE} {pos' : Pos} (hN : X.N.Nodup) (hi : X.N[i]? = some x) (hx : Loc X.env.scope x) (he : PE X e te) (hs : swapsWith e (some (.Name x pos')) pos.line X.env = pure false := by rfl) (hf : X.fn x = true ∨ X.env.scope.names.lookup x = some .local := by first | exact .inl rfl | exact .inr rfl | assumption) :
    PS X (.Assign [.Name x pos'] e pos) (tAsg te (gName i)) := by
  intro pins s σ H D I h
  refine wpAny_Assign_Name (thn (he pins s σ H _ I h) fun v s1 ⟨y, H1, I1, r1, q1⟩ => ?_) hs
  exact store_ok I1 hN hi hx r1 (fun s2 I2 => ⟨_, H1, I2, q1⟩) hf
/-- a, b = x, y with plain local names: stored from the right; the pair itself is not tracked (the opening rows as in PyProof/Rows/TupAssign.lean:23) -/
def tPar (i j : Nat) (ta : TA) : TS := fun D σ H => ta σ H fun vs H1 => ∃ v w, vs = [v, w] ∧ D.nx ((σ.set i (some v)).set j (some w)) H1
/-- name op= e -/
def tAug (i : Nat) (te : TE) (ti : TIp) : TS := fun D σ H => ∃ x, σ[i]? = some (some x) ∧ te σ H fun y H1 => ti x y H1 fun z H2 => D.nx (σ.set i (some z)) H2
/-- o[i] op= e -/
def tAugS (to ti te : TE) (tget : V → V → Hp → VK → Prop) (tip : TIp) (tset : TSet) : TS := fun D σ H => to σ H fun o H1 => ti σ H1 fun i H2 => tget o i H2 fun x H3 => te σ H3 fun y H4 => tip x y H4 fun z H5 => tset o i z H5 fun H6 => D.nx σ H6
/-- o[i], by values -/
def PGet (X : Cx) (t : V → V → Hp → VK → Prop) : Prop :=
  ∀ (pins : List (Addr × Obj)) (s : Shared) (σ : St) (H : Hp) (o i : V) (ov iv : Value) (Q : VK), Inv X pins σ H s → RelV o ov → RelV i iv → t o i H Q →
    wpAny (model X.prog X.w) X.A (getItem ov iv) (EP X pins σ Q) X.xe s
/-- ints -/
def ipI (f : Int → Int → Int) : TIp := fun x y H Q => ∃ i j, x = .int i ∧ y = .int j ∧ Q (.int (f i j)) H
end

/-! ### while -/
section
variable {X : Cx} {pos : Pos}
/-- the invariant W with its measure -/
def tWhile (c : TT) (tb : TS) : TS := fun D σ H => ∃ W : Nat → St → Hp → Prop, (∃ m, W m σ H) ∧ ∀ m σ H, W m σ H →
  c σ H fun b H1 => if b = true then ∃ N : St → Hp → Prop, (∀ σ' H', N σ' H' → ∃ m', m' < m ∧ W m' σ' H') ∧ tb { D with nx := N, ct := N, bk := D.nx } σ H1 else D.nx σ H1
end

/-! ### what a loop or a comprehension walks -/
/-- at turn i: it yields x (the heap may grow), or it stops -/
structure It where
  go : Nat → Hp → Prop
  yld : Nat → Hp → V → Hp → Prop
  stop : Nat → Hp → Prop
/-- the iterator's own objects may turn: they are not the frame's, not pinned, younger than the entry (or a comprehension's own) -/
def FpOk (X : Cx) (pins : List (Addr × Obj)) (H : Hp) (b : Addr) : Prop :=
  H b = none ∧ b ≠ X.env.locals ∧ b ∉ X.fs ∧ (b ∈ X.ex ∨ X.s₀.heap.objs.size ≤ b) ∧ (∀ x c, X.env.cells.lookup x = some c → c ≠ b) ∧ ∀ p ∈ X.pn ++ pins, p.1 ≠ b
theorem Inv.fpOk {X : Cx} {pins : List (Addr × Obj)} {σ : St} {H H' : Hp} {s : Shared} {b : Addr} (I : Inv X pins σ H s) (hb : s.heap.objs.size ≤ b) (hn : H' b = none) : FpOk X pins H' b := by
  refine ⟨hn, Nat.ne_of_gt (Nat.lt_of_lt_of_le I.lt hb), I.nofs hb, .inr (Nat.le_trans I.sz hb), fun x c e z => ?_, fun p hp z => ?_⟩
  · obtain ⟨v, q⟩ := I.cell x c e
    exact absurd (Nat.lt_of_lt_of_le q.lt (by rw [z]; exact hb)) (Nat.lt_irrefl _)
  · exact absurd (Nat.lt_of_lt_of_le (Heap.lt_size (I.pin p hp).1) (by rw [z]; exact hb)) (Nat.lt_irrefl _)
structure Turn (P : Program) (w : World) (K : PySem.W.Frag) (tg : Expr) (J : It) (fp : List Addr) (it : Addr) (tn : Nat → Heap → Prop) : Prop where
  mem : it ∈ fp
  obj : ∀ i h, tn i h → ∀ b ∈ fp, ∃ o, h.get? b = some o ∧ ∀ v, o.data ≠ .cell v
  keep : ∀ i h h', tn i h → (∀ b ∈ fp, ∀ o, h.get? b = some o → h'.get? b = some o) → tn i h'
  item : ∀ (X : Cx), X.prog = P → X.w = w → X.K = K → X.calm = true → ∀ (i : Nat) (pins : List (Addr × Obj)) (s : Shared) (σ : St) (H : Hp) (E : Value → Shared → Prop), Inv X pins σ H s → (∀ b ∈ fp, FpOk X pins H b) → tn i s.heap → J.go i H →
    wpAny (model P w) X.A (pyNext (.ref it)) (fun r s1 => ∃ u, r = some u ∧
      wpAny (model P w) X.A (letOwnedTupleGo tg (.ref it) u) (fun _ s2 => ∃ x H', Inv X pins σ H' s2 ∧ RelV x u ∧ J.yld i H x H' ∧ tn (i + 1) s2.heap ∧ ∀ b ∈ fp, H' b = none) E s1) E s
  done : ∀ (X : Cx), X.prog = P → X.w = w → X.K = K → X.calm = true → ∀ (i : Nat) (pins : List (Addr × Obj)) (s : Shared) (σ : St) (H : Hp) (E : Value → Shared → Prop), Inv X pins σ H s → (∀ b ∈ fp, FpOk X pins H b) → tn i s.heap → J.stop i H →
    wpAny (model P w) X.A (pyNext (.ref it)) (fun r s1 => r = none ∧ Inv X pins σ H s1) E s
  self : ∀ (A : Around) (i : Nat) (s : Shared) (Q : Value → Shared → Prop) (E : Value → Shared → Prop), tn i s.heap → Q (.ref it) s → wpAny (model P w) A (pyIter (.ref it)) Q E s
abbrev TI := St → Hp → (It → Hp → Prop) → Prop
/-- an iterator has come -/
def PIE (X : Cx) (pins : List (Addr × Obj)) (σ : St) (tg : Expr) (R : It → Hp → Prop) (itv : Value) (s2 : Shared) : Prop :=
  ∃ (it : Addr) (fp : List Addr) (tn : Nat → Heap → Prop) (J : It) (H' : Hp), itv = .ref it ∧ Inv X pins σ H' s2 ∧ Turn X.prog X.w X.K tg J fp it tn ∧ tn 0 s2.heap ∧ (∀ b ∈ fp, FpOk X pins H' b) ∧ R J H'
def PI (X : Cx) (tg iter : Expr) (wi : TI) : Prop :=
  ∀ (pins : List (Addr × Obj)) (s : Shared) (σ : St) (H : Hp) (R : It → Hp → Prop), Inv X pins σ H s → wi σ H R →
    wpAny (model X.prog X.w) X.A (eval iter X.env) (fun v s1 => wpAny (model X.prog X.w) X.A (pyIter v) (PIE X pins σ tg R) X.xe s1) X.xe s

/-- the step ahead of the store is nothing for an iterator that keeps no tuple -/
theorem go_of {M : Model} {A : Around} {E : Value → Shared → Prop} {s : Shared} {tg : Expr} {it : Addr} {u : Value} {o : Obj} {n : String} {vs : Array Value} {Q : Unit → Shared → Prop} (ho : s.heap.get? it = some o) (hc : o.cls = .type n) (hd : o.data = .fields vs)
    (hn : ["enumerate", "zip", "dict_itemiterator", "dict_reverseitemiterator", "odict_iterator", "itertools.zip_longest", "itertools.pairwise"].contains n = false) (hQ : Q () s) : wpAny M A (letOwnedTupleGo tg (.ref it) u) Q E s := by
  unfold letOwnedTupleGo
  cases tg <;> first
    | exact wpAny_pure hQ
    | (cases u <;> first
        | exact wpAny_pure hQ
        | (refine wpAny_bind (wpAny_load ho ?_)
           rw [hc, hd]
           show wpAny M A (if (["enumerate", "zip", "dict_itemiterator", "dict_reverseitemiterator", "odict_iterator", "itertools.zip_longest", "itertools.pairwise"].contains n && vs[0]? == some (rawInt _)) = true then _ else _) Q E s
           rw [if_neg (by intro h; rw [hn, Bool.false_and] at h; cases h)]
           exact wpAny_pure hQ))

/-- the list at a, as it stands at each turn (a loop may append to it) -/
def Itl (K : PySem.W.Frag) (a : Addr) : It :=
  ⟨fun i H => ∃ xs x, SqL K H a xs ∧ xs[i]? = some x, fun i H x H' => H' = H ∧ ∀ xs, SqL K H a xs → xs[i]? = some x, fun i H => ∃ xs, SqL K H a xs ∧ xs.length ≤ i⟩
def Itt (K : PySem.W.Frag) (a : Addr) : It :=
  ⟨fun i H => ∃ xs x, SqT K H a xs ∧ xs[i]? = some x, fun i H x H' => H' = H ∧ ∀ xs, SqT K H a xs → xs[i]? = some x, fun i H => ∃ xs, SqT K H a xs ∧ xs.length ≤ i⟩
/-- lo, lo + 1, .. (n of them) -/
def Itr (lo : Int) (n : Nat) : It := ⟨fun i _ => i < n, fun i H x H' => H' = H ∧ x = .int (lo + i), fun i _ => n ≤ i⟩
theorem turn_list {P : Program} {w : World} {K : PySem.W.Frag} {tg : Expr} (a it : Addr) : Turn P w K tg (Itl K a) [it] it (fun i h => h.IsListIter it a i) where
  mem := by simp
  obj := fun i h st b hb => by
    have e : b = it := by simpa using hb
    subst e
    obtain ⟨o, e, c, d⟩ := st
    exact ⟨o, e, fun v z => by rw [d] at z; cases z⟩
  keep := fun i h h' st k => st.at fun o e => k it (by simp) o e
  item := by
    intro X hP hw hK hc i pins s σ H E I hf st hg
    subst hP hw hK
    obtain ⟨xs, x, hq, hx⟩ := hg
    obtain ⟨its, rv, p, hz⟩ := I.list hq
    obtain ⟨u, hu, ru⟩ := rv.get hx
    obtain ⟨f0, f1, f2, f3, f4, f5⟩ := hf it (by simp)
    refine wpAny_pyNext_list_item st p.isList (x := u) (by simpa using hu) fun h' st' sb => ?_
    have I1 : Inv X pins σ H { s with heap := h' } := I.turned (t' := s.toks) (fun b o hb e => (sb.2 b hb).trans e) f0 f1 f3 f4 f5
    obtain ⟨o, e, c, d⟩ := id st'
    exact ⟨u, rfl, go_of (s := { s with heap := h' }) e c d (by decide) ⟨x, H, I1, ru, ⟨rfl, fun ys hy => by rw [I.list_inj hy hq]; exact hx⟩, st', fun b hb => (hf b hb).1⟩⟩
  done := by
    intro X hP hw hK hc i pins s σ H E I hf st hg
    subst hP hw hK
    obtain ⟨xs, hq, hx⟩ := hg
    obtain ⟨its, rv, p, hz⟩ := I.list hq
    obtain ⟨f0, f1, f2, f3, f4, f5⟩ := hf it (by simp)
    have hl := rv.length
    exact wpAny_pyNext_list_end (I.ok.hd hc) st p.isList (by simp; omega) fun h' eb => ⟨rfl, I.turned (t' := s.toks) (fun b o hb e => eb b o hb e) f0 f1 f3 f4 f5⟩
  self := fun _ _ _ _ _ st h => wpAny_pyIter_listiter st h
theorem turn_range {P : Program} {w : World} {K : PySem.W.Frag} {tg : Expr} (it : Addr) (lo : Int) (n : Nat) : Turn P w K tg (Itr lo n) [it] it (fun i h => IsRangeIter h it (lo + (i : Nat) * 1) ((n : Int) - (i : Nat)) 1) where
  mem := by simp
  obj := fun i h st b hb => by
    have e : b = it := by simpa using hb
    subst e
    exact ⟨_, st, fun v z => by
      have z' : Data.fields _ = Data.cell v := z
      cases z'⟩
  keep := fun i h h' st k => k it (by simp) _ st
  item := by
    intro X hP hw hK hc i pins s σ H E I hf st hg
    subst hP hw hK
    obtain ⟨f0, f1, f2, f3, f4, f5⟩ := hf it (by simp)
    have W := Walks.range (prog := X.prog) (w := X.w) (I.ok.hd hc) it lo 1 n
    refine W.item i s _ _ hg st fun v h' tk hv st' kk => ?_
    obtain ⟨t, rfl⟩ := hv
    have I1 : Inv X pins σ H { s with heap := h', toks := tk } := I.turned (fun b o hb e => kk b o (by simpa using hb) e) f0 f1 f3 f4 f5
    refine ⟨_, rfl, go_of (s := { s with heap := h', toks := tk }) (n := "range_iterator") st' rfl rfl (by decide) ⟨.int (lo + i), H, I1, ⟨t, ?_⟩, ⟨rfl, rfl⟩, st', fun b hb => (hf b hb).1⟩⟩
    rw [Int.mul_one]
  done := by
    intro X hP hw hK hc i pins s σ H E I hf st hg
    subst hP hw hK
    obtain ⟨f0, f1, f2, f3, f4, f5⟩ := hf it (by simp)
    exact wpAny_pyNext_range_end (I.ok.hd hc) st (by have : n ≤ i := hg; omega) fun h' eb => ⟨rfl, I.turned (t' := s.toks) (fun b o hb e => eb b o hb e) f0 f1 f3 f4 f5⟩
  self := fun _ _ _ _ _ st h => wpAny_pyIter_rangeiter st h
end L2

namespace L2
open PySem PySem.Spec PyProof.Rows
section
variable {X : Cx} {tg : Expr}
def iList (K : PySem.W.Frag) (tl : TE) : TI := fun σ H R => tl σ H fun x H1 => ∃ a, x = .ref a ∧ (∃ xs, SqL K H1 a xs) ∧ R (Itl K a) H1
def iTup (K : PySem.W.Frag) (tl : TE) : TI := fun σ H R => tl σ H fun x H1 => ∃ a, x = .ref a ∧ (∃ xs, SqT K H1 a xs) ∧ R (Itt K a) H1
theorem pi_list {l : Expr} {tl : TE} (hl : PE X l tl) : PI X tg l (iList X.K tl) := by
  intro pins s σ H R I h
  refine thn (hl pins s σ H _ I h) fun v s1 ⟨x, H1, I1, r1, q1⟩ => ?_
  obtain ⟨a, e, ⟨xs, hq⟩, q⟩ := q1
  subst e
  cases r1
  obtain ⟨its, rv, p, hz⟩ := I1.list hq
  refine wpAny_pyIter_list p.isList ?_
  refine ⟨s1.heap.objs.size, [s1.heap.objs.size], _, _, H1, rfl, I1.kept (t' := s1.toks) fun b o e => Heap.get?_push_of_some _ e, turn_list a _, ⟨_, Heap.get?_push_size _ rfl, rfl, rfl⟩, fun b hb => ?_, q⟩
  have e : b = s1.heap.objs.size := by simpa using hb
  subst e
  exact I1.fpOk (Nat.le_refl _) (I1.hok.fresh (Nat.le_refl _))
/-- a range object just made, walked -/
theorem range_it {pins : List (Addr × Obj)} {σ : St} {H : Hp} {s : Shared} {R : It → Hp → Prop} {E : Value → Shared → Prop} {lo hi : Int} {t u v : Tok} {tk : Nat} (I : Inv X pins σ H s) (h1 : -(2 ^ 62) ≤ lo) (h2 : lo < 2 ^ 62) (h3 : -(2 ^ 62) ≤ hi) (h4 : hi < 2 ^ 62)
    (q : R (Itr lo (hi - lo).toNat) H) : wpAny (model X.prog X.w) X.A (pyIter (.ref s.heap.objs.size)) (PIE X pins σ tg R) E { s with heap := s.heap.push { cls := .type "range", data := .fields #[.int lo t, .int hi u, .int 1 v] }, toks := tk } := by
  refine wpAny_pyIter_range (IsRange.new ..) (small_one h1 h2 h3 h4) ?_
  have I1 : Inv X pins σ H { s with heap := s.heap.push { cls := .type "range", data := .fields #[.int lo t, .int hi u, .int 1 v] }, toks := tk } := I.kept fun b o e => Heap.get?_push_of_some _ e
  refine ⟨(s.heap.push { cls := .type "range", data := .fields #[.int lo t, .int hi u, .int 1 v] }).objs.size, [(s.heap.push { cls := .type "range", data := .fields #[.int lo t, .int hi u, .int 1 v] }).objs.size], _, _, H, rfl,
    I1.kept (t' := tk) fun b o e => Heap.get?_push_of_some _ e, turn_range _ lo (hi - lo).toNat, ?_, fun b hb => ?_, q⟩
  · have e1 : lo + ((0 : Nat) : Int) * 1 = lo := by simp
    have e2 : (((hi - lo).toNat : Nat) : Int) - ((0 : Nat) : Int) = Builtin.Range.rangeSize lo hi 1 := by rw [rangeSize_one]; split <;> omega
    show IsRangeIter _ _ (lo + ((0 : Nat) : Int) * 1) ((((hi - lo).toNat : Nat) : Int) - ((0 : Nat) : Int)) 1
    rw [e1, e2]
    exact Heap.get?_push_size _ rfl
  · have e : b = (s.heap.push { cls := .type "range", data := .fields #[.int lo t, .int hi u, .int 1 v] }).objs.size := by simpa using hb
    subst e
    exact I1.fpOk (Nat.le_refl _) (I1.hok.fresh (Nat.le_refl _))
def iRng1 (ta : TA) : TI := fun σ H R => ta σ H fun vs H1 => ∃ j : Int, vs = [.int j] ∧ -(2 ^ 62) ≤ j ∧ j < 2 ^ 62 ∧ R (Itr 0 j.toNat) H1
def iRng2 (ta : TA) : TI := fun σ H R => ta σ H fun vs H1 => ∃ i j : Int, vs = [.int i, .int j] ∧ (-(2 ^ 62) ≤ i ∧ i < 2 ^ 62 ∧ -(2 ^ 62) ≤ j ∧ j < 2 ^ 62) ∧ R (Itr i (j - i).toNat) H1
theorem pi_range1 {a : Expr} {ta : TA} {p pos : Pos} (hg : Gl X "range") (hm : X.mg "range" = none) (ha : PA X [a] ta) (hs : starEach [a] X.env = [(false, eval a X.env)] := by rfl) : PI X tg (.Call (.Name "range" p) [a] [] pos) (iRng1 ta) := by
  intro pins s σ H R I h
  refine Call_ (ld_blt I hg hm boot_range (PyProof.Rows.callWith_type1 (thn (ha pos pins s σ H _ I h) fun us s1 ⟨vs, H1, I1, r1, q1⟩ => ?_) hs rfl))
  obtain ⟨j, e, q1, q2, q⟩ := q1
  subst e
  cases r1 with
  | cons r rr =>
    cases rr
    obtain ⟨t, rfl⟩ := r
    exact call_range_1 (range_it I1 (by omega) (by omega) q1 q2 (by simpa using q))
/-! ### for -/
/-- W: the invariant by the turn and a measure; N: what the body is to reach -/
def tFor (wi : TI) (g : TG) (tb : TS) : TS := fun D σ H => wi σ H fun J H1 => ∃ W : Nat → Nat → St → Hp → Prop, (∃ m, W 0 m σ H1) ∧ ∀ i m σ H, W i m σ H →
  (J.stop i H ∧ D.nx σ H) ∨ (J.go i H ∧ ∃ N : St → Hp → Prop, (∀ σ' H', N σ' H' → ∃ m', m' < m ∧ W (i + 1) m' σ' H') ∧ ∀ x H', J.yld i H x H' → g x σ H' fun σ2 H2 => tb { D with nx := N, ct := N, bk := D.nx } σ2 H2)
/-- the records at fp as they stand -/
def pinsAt (fp : List Addr) (h : Heap) : List (Addr × Obj) := fp.filterMap fun b => (h.get? b).map fun o => (b, o)
theorem mem_pinsAt {fp : List Addr} {h : Heap} {b : Addr} {o : Obj} (hb : b ∈ fp) (e : h.get? b = some o) : (b, o) ∈ pinsAt fp h := List.mem_filterMap.mpr ⟨b, hb, by rw [e]; rfl⟩
theorem of_pinsAt {fp : List Addr} {h : Heap} {p : Addr × Obj} (hp : p ∈ pinsAt fp h) : p.1 ∈ fp ∧ h.get? p.1 = some p.2 := by
  obtain ⟨b, hb, e⟩ := List.mem_filterMap.mp hp
  cases q : h.get? b with
  | none => rw [q] at e; cases e
  | some o =>
    rw [q] at e
    have e' : (b, o) = p := Option.some.inj e
    subst e'
    exact ⟨hb, q⟩
theorem Inv.pinned {pins : List (Addr × Obj)} {σ : St} {H : Hp} {s : Shared} {fp : List Addr} (I : Inv X pins σ H s) (hf : ∀ b ∈ fp, FpOk X pins H b) (ho : ∀ b ∈ fp, ∃ o, s.heap.get? b = some o ∧ ∀ v, o.data ≠ .cell v) : Inv X (pins ++ pinsAt fp s.heap) σ H s :=
  I.pins_of fun p hp => (List.mem_append.mp hp).elim (fun z => I.pin p (List.mem_append_right _ z)) fun z => by
    obtain ⟨hb, e⟩ := of_pinsAt z
    obtain ⟨f0, f1, f2, _⟩ := hf p.1 hb
    obtain ⟨o, e', d⟩ := ho p.1 hb
    rw [e] at e'; cases e'
    exact ⟨e, f0, f1, f2, d⟩
theorem Inv.unpinned {pins pl : List (Addr × Obj)} {σ : St} {H : Hp} {s : Shared} (I : Inv X (pins ++ pl) σ H s) : Inv X pins σ H s := I.pins_of fun p hp => I.pin p (List.mem_append_right _ (List.mem_append_left _ hp))
theorem ps_for {iter : Expr} {body : List Stmt} {wi : TI} {g : TG} {tb : TS} {pos : Pos} (hp : PassesOwn (model X.prog X.w) X.A X.env X.xe) (hc : X.calm = true) (hi : PI X tg iter wi) (hg : PG X tg g) (hb : PSs X body tb)
    (hs : ∀ x, foldedSetIterable iter X.env x = pure x := by intro _; rfl) : PS X (.For tg iter body [] pos) (tFor wi g tb) := by
  intro pins s σ H D I h
  refine wpAny_For (thn (hi pins s σ H _ I h) fun v s1 h1 => thn h1 fun itv s2 h2 => ?_) hs
  obtain ⟨it, fp, tn, J, H2, e, I2, T, st2, f2, W, ⟨m0, w0⟩, turn⟩ := h2
  subst e
  -- what stays true of the iterator's objects through the loop
  have stat : ∀ {H' : Hp}, (∀ b ∈ fp, H' b = none) → ∀ b ∈ fp, FpOk X pins H' b := fun hn b hb => ⟨hn b hb, (f2 b hb).2⟩
  refine codeAny_forLoop_any (fun n s' => ∃ i σ' H', Inv X pins σ' H' s' ∧ tn i s'.heap ∧ (∀ b ∈ fp, H' b = none) ∧ W i n σ' H') ?_ m0 ⟨0, σ, H2, I2, st2, fun b hb => (f2 b hb).1, w0⟩
  rintro n s3 ⟨i, σ3, H3, I3, st3, fr3, w3⟩
  rcases turn i n σ3 H3 w3 with ⟨stop, qn⟩ | ⟨go, N, hN, step⟩
  · refine wpAny_passesOwn hp (thn (T.done X rfl rfl rfl hc i pins s3 σ3 H3 X.xe I3 (stat fr3) st3 stop) fun r s4 ⟨hr, I4⟩ => ?_)
    subst hr
    exact wpAny_execs_nil ⟨σ3, H3, I4, qn⟩
  · refine wpAny_passesOwn hp (thn (T.item X rfl rfl rfl hc i pins s3 σ3 H3 X.xe I3 (stat fr3) st3 go) fun r s4 ⟨u, hr, h4⟩ => ?_)
    subst hr
    refine wpAny_passesOwn hp (thn h4 fun _ s5 ⟨x, H5, I5, r5, y5, st5, fr5⟩ => ?_)
    have I5' := I5.pinned (stat fr5) (T.obj _ _ st5)
    refine wpAny_passesOwn hp (thn (hg _ s5 σ3 H5 x u _ I5' r5 (step x H5 y5)) fun _ s6 ⟨σ6, H6, I6, q6⟩ => ?_)
    refine wpAny_passesOwn hp (thn (hb _ s6 σ6 H6 _ I6 q6) fun f s7 q7 => ?_)
    have again : ∀ {σ7 : St} {H7 : Hp}, Inv X (pins ++ pinsAt fp s5.heap) σ7 H7 s7 → N σ7 H7 → ∃ m, m < n ∧ ∃ i σ' H', Inv X pins σ' H' s7 ∧ tn i s7.heap ∧ (∀ b ∈ fp, H' b = none) ∧ W i m σ' H' := fun {σ7 H7} I7 n7 => by
      obtain ⟨m', hm, w7⟩ := hN σ7 H7 n7
      refine ⟨m', hm, i + 1, σ7, H7, I7.unpinned, T.keep _ _ _ st5 fun b hb o e => (I7.pin (b, o) (List.mem_append_right _ (List.mem_append_right _ (mem_pinsAt hb e)))).1, fun b hb => ?_, w7⟩
      obtain ⟨o, e, d⟩ := T.obj _ _ st5 b hb
      exact (I7.pin (b, o) (List.mem_append_right _ (List.mem_append_right _ (mem_pinsAt hb e)))).2.1
    cases f with
    | next => obtain ⟨σ7, H7, I7, n7⟩ := q7; exact again I7 n7
    | cont => obtain ⟨σ7, H7, I7, n7⟩ := q7; exact again I7 n7
    | brk => obtain ⟨σ7, H7, I7, q7⟩ := q7; exact ⟨σ7, H7, I7.unpinned, q7⟩
    | ret v => obtain ⟨x7, σ7, H7, I7, r7, q7⟩ := q7; exact ⟨x7, σ7, H7, I7.unpinned, r7, q7⟩
end

/-! ### the forms one uses -/
/-- over a list that the body leaves as it is -/
theorem for_list {K : PySem.W.Frag} {a : Addr} {xs : List V} {g : TG} {tb : TS} {D : Ends} {σ : St} {H : Hp} (Pv : Nat → St → Hp → Prop) (h0 : Pv 0 σ H) (hl : ∀ i σ H, i ≤ xs.length → Pv i σ H → SqL K H a xs)
    (hs : ∀ i x σ H, xs[i]? = some x → Pv i σ H → g x σ H fun σ2 H2 => tb { D with nx := Pv (i + 1), ct := Pv (i + 1), bk := D.nx } σ2 H2) (hd : ∀ σ H, Pv xs.length σ H → D.nx σ H) :
    ∃ W : Nat → Nat → St → Hp → Prop, (∃ m, W 0 m σ H) ∧ ∀ i m σ H, W i m σ H →
      ((Itl K a).stop i H ∧ D.nx σ H) ∨ ((Itl K a).go i H ∧ ∃ N : St → Hp → Prop, (∀ σ' H', N σ' H' → ∃ m', m' < m ∧ W (i + 1) m' σ' H') ∧ ∀ x H', (Itl K a).yld i H x H' → g x σ H' fun σ2 H2 => tb { D with nx := N, ct := N, bk := D.nx } σ2 H2) := by
  refine ⟨fun i m σ H => m = xs.length - i ∧ i ≤ xs.length ∧ Pv i σ H, ⟨xs.length, by simp, Nat.zero_le _, h0⟩, ?_⟩
  rintro i m σ H ⟨rfl, hi, p⟩
  have q := hl i σ H hi p
  by_cases hlt : i < xs.length
  · refine .inr ⟨⟨xs, xs[i], q, by simp [hlt]⟩, Pv (i + 1), fun σ' H' p' => ⟨xs.length - (i + 1), by omega, rfl, hlt, p'⟩, fun x H' y => ?_⟩
    obtain ⟨e, y⟩ := y
    subst e
    exact hs i x σ _ (y xs q) p
  · have e : i = xs.length := by omega
    subst e
    exact .inl ⟨⟨xs, q, Nat.le_refl _⟩, hd σ H p⟩
theorem for_range {lo : Int} {n : Nat} {g : TG} {tb : TS} {D : Ends} {σ : St} {H : Hp} (Pv : Nat → St → Hp → Prop) (h0 : Pv 0 σ H)
    (hs : ∀ i σ H, i < n → Pv i σ H → g (.int (lo + i)) σ H fun σ2 H2 => tb { D with nx := Pv (i + 1), ct := Pv (i + 1), bk := D.nx } σ2 H2) (hd : ∀ σ H, Pv n σ H → D.nx σ H) :
    ∃ W : Nat → Nat → St → Hp → Prop, (∃ m, W 0 m σ H) ∧ ∀ i m σ H, W i m σ H →
      ((Itr lo n).stop i H ∧ D.nx σ H) ∨ ((Itr lo n).go i H ∧ ∃ N : St → Hp → Prop, (∀ σ' H', N σ' H' → ∃ m', m' < m ∧ W (i + 1) m' σ' H') ∧ ∀ x H', (Itr lo n).yld i H x H' → g x σ H' fun σ2 H2 => tb { D with nx := N, ct := N, bk := D.nx } σ2 H2) := by
  refine ⟨fun i m σ H => m = n - i ∧ i ≤ n ∧ Pv i σ H, ⟨n, by simp, Nat.zero_le _, h0⟩, ?_⟩
  rintro i m σ H ⟨rfl, hi, p⟩
  by_cases hlt : i < n
  · refine .inr ⟨hlt, Pv (i + 1), fun σ' H' p' => ⟨n - (i + 1), by omega, rfl, hlt, p'⟩, fun x H' y => ?_⟩
    obtain ⟨e, y⟩ := y
    subst e y
    exact hs i σ _ hlt p
  · have e : i = n := by omega
    subst e
    exact .inl ⟨Nat.le_refl _, hd σ H p⟩
end L2

namespace L2
open PySem PySem.Spec PyProof.Rows

abbrev R2 := V → V → Hp → VK → Prop
/-- a two-place operation on values: f is binaryOp op, inplaceOp op or compareOp op -/
def OpR (X : Cx) (f : Value → Value → Sem Value) (r : R2) : Prop :=
  ∀ (pins : List (Addr × Obj)) (s : Shared) (σ : St) (H : Hp) (x y : V) (v u : Value) (Q : VK), Inv X pins σ H s → RelV x v → RelV y u → r x y H Q →
    wpAny (model X.prog X.w) X.A (f v u) (EP X pins σ Q) X.xe s
/-- a one-place operation -/
def UnR (X : Cx) (f : Value → Sem Value) (r : V → Hp → VK → Prop) : Prop :=
  ∀ (pins : List (Addr × Obj)) (s : Shared) (σ : St) (H : Hp) (x : V) (v : Value) (Q : VK), Inv X pins σ H s → RelV x v → r x H Q →
    wpAny (model X.prog X.w) X.A (f v) (EP X pins σ Q) X.xe s
/-- a call of a value that is known (a builtin, a type) with values -/
def CallR (X : Cx) (f : Value) (r : List V → Hp → VK → Prop) : Prop :=
  ∀ (pins : List (Addr × Obj)) (s : Shared) (σ : St) (H : Hp) (xs : List V) (us : List Value) (Q : VK), Inv X pins σ H s → Vals xs us → r xs H Q →
    wpAny (model X.prog X.w) X.A (call f us) (EP X pins σ Q) X.xe s
/-- a value's truth -/
def TruR (X : Cx) (r : V → Hp → (Bool → Hp → Prop) → Prop) : Prop :=
  ∀ (pins : List (Addr × Obj)) (s : Shared) (σ : St) (H : Hp) (x : V) (v : Value) (Q : Bool → Hp → Prop), Inv X pins σ H s → RelV x v → r x H Q →
    wpAny (model X.prog X.w) X.A (truthy v) (TP X pins σ Q) X.xe s

def tOp (r : R2) (ta tb : TE) : TE := fun σ H Q => ta σ H fun x H1 => tb σ H1 fun y H2 => r x y H2 Q
def tUn (r : V → Hp → VK → Prop) (ta : TE) : TE := fun σ H Q => ta σ H fun x H1 => r x H1 Q
/-- ints in, under C, and a value out -/
def rI (C : Int → Int → Prop) (g : Int → Int → V) : R2 := fun x y H Q => ∃ i j, x = .int i ∧ y = .int j ∧ C i j ∧ Q (g i j) H
def rI0 (g : Int → Int → V) : R2 := fun x y H Q => ∃ i j, x = .int i ∧ y = .int j ∧ Q (g i j) H
def rU (g : Int → V) : V → Hp → VK → Prop := fun x H Q => ∃ i, x = .int i ∧ Q (g i) H

section
variable {X : Cx} {a b c : Expr} {ta tb tc : TE} {pos : Pos}

theorem binT (ha : PE X a ta) (hb : PE X b tb) {pins : List (Addr × Obj)} {s : Shared} {σ : St} {H : Hp} {R : V → V → Hp → Prop} (I : Inv X pins σ H s)
    (h : ta σ H fun x H1 => tb σ H1 fun y H2 => R x y H2) {Q : Value → Shared → Prop} {f : Value → Value → Sem Value}
    (hf : ∀ v u s2 x y H2, Inv X pins σ H2 s2 → RelV x v → RelV y u → R x y H2 → wpAny (model X.prog X.w) X.A (f v u) Q X.xe s2) :
    wpAny (model X.prog X.w) X.A (eval a X.env) (fun v s₁ => wpAny (model X.prog X.w) X.A (eval b X.env) (fun u s₂ => wpAny (model X.prog X.w) X.A (f v u) Q X.xe s₂) X.xe s₁) X.xe s := by
  refine thn (ha pins s σ H _ I h) fun v s1 ⟨x, H1, I1, r1, q1⟩ => ?_
  refine thn (hb pins s1 σ H1 _ I1 q1) fun u s2 ⟨y, H2, I2, r2, q2⟩ => ?_
  exact hf v u s2 x y H2 I2 r1 r2 q2

theorem pe_op {op : Operator} {r : R2} (ho : OpR X (binaryOp op) r) (ha : PE X a ta) (hb : PE X b tb) : PE X (.BinOp a op b pos) (tOp r ta tb) := by
  intro pins s σ H Q I h
  exact wpAny_BinOp (binT ha hb I h fun v u s2 x y H2 I2 rx ry q => ho pins s2 σ H2 x y v u Q I2 rx ry q)
/-! ### ints -/
theorem opI {f : Value → Value → Sem Value} {C : Int → Int → Prop} {g : Int → Int → Int}
    (rule : ∀ (i j : Int) (t u : Tok) (s : Shared) (Q : Value → Shared → Prop) (E : Value → Shared → Prop), C i j → Q (.int (g i j) s.toks) { s with toks := s.toks + 1 } → wpAny (model X.prog X.w) X.A (f (.int i t) (.int j u)) Q E s) :
    OpR X f (rI C fun i j => .int (g i j)) := by
  intro pins s σ H x y v u Q I rx ry h
  obtain ⟨i, j, rfl, rfl, hc, q⟩ := h
  obtain ⟨t, rfl⟩ := rx
  obtain ⟨t', rfl⟩ := ry
  exact rule i j t t' s _ _ hc ⟨.int (g i j), H, I.tok _, ⟨_, rfl⟩, q⟩
theorem opI0 {f : Value → Value → Sem Value} {g : Int → Int → Int}
    (rule : ∀ (i j : Int) (t u : Tok) (s : Shared) (Q : Value → Shared → Prop) (E : Value → Shared → Prop), Q (.int (g i j) s.toks) { s with toks := s.toks + 1 } → wpAny (model X.prog X.w) X.A (f (.int i t) (.int j u)) Q E s) :
    OpR X f (rI0 fun i j => .int (g i j)) := by
  intro pins s σ H x y v u Q I rx ry h
  obtain ⟨i, j, rfl, rfl, q⟩ := h
  obtain ⟨t, rfl⟩ := rx
  obtain ⟨t', rfl⟩ := ry
  exact rule i j t t' s _ _ ⟨.int (g i j), H, I.tok _, ⟨_, rfl⟩, q⟩
theorem opB0 {f : Value → Value → Sem Value} {g : Int → Int → Bool}
    (rule : ∀ (i j : Int) (t u : Tok) (s : Shared) (Q : Value → Shared → Prop) (E : Value → Shared → Prop), Q (.bool (g i j)) s → wpAny (model X.prog X.w) X.A (f (.int i t) (.int j u)) Q E s) :
    OpR X f (rI0 fun i j => .bl (g i j)) := by
  intro pins s σ H x y v u Q I rx ry h
  obtain ⟨i, j, rfl, rfl, q⟩ := h
  obtain ⟨t, rfl⟩ := rx
  obtain ⟨t', rfl⟩ := ry
  exact rule i j t t' s _ _ ⟨.bl (g i j), H, I, rfl, q⟩

def CDiv (i j : Int) : Prop := 0 < j ∧ j < 1073741824
def CDivN (i j : Int) : Prop := j ≠ 0 ∧ j.natAbs < 1073741824
def CPow (i j : Int) : Prop := 0 ≤ j ∧ j ≤ 1000000 ∧ i.natAbs < 2 ^ 64
def CMul (i j : Int) : Prop := (-(2 ^ 64) < i ∧ i < 2 ^ 64) ∨ (-(2 ^ 64) < j ∧ j < 2 ^ 64)
theorem CMul.ok {i j : Int} (h : CMul i j) : IntMulOk i j := by
  rcases h with ⟨h1, h2⟩ | ⟨h1, h2⟩
  · exact .of_left (intBits_le_64 h1 h2)
  · exact .of_right (intBits_le_64 h1 h2)
theorem op_add : OpR X (binaryOp .Add) (rI0 fun i j => .int (i + j)) := opI0 fun _ _ _ _ _ _ _ q => add_int q
theorem op_mul : OpR X (binaryOp .Mult) (rI CMul fun i j => .int (i * j)) := opI fun _ _ _ _ _ _ _ hc q => mul_int q hc.ok
/-- // by a positive divisor -/
theorem op_fdiv : OpR X (binaryOp .FloorDiv) (rI CDiv fun i j => .int (i / j)) := opI fun i j _ _ _ _ _ hc q => by
  have h1 : (0 : Int) < j := hc.1
  have h2 : j < 1073741824 := hc.2
  exact floordiv_int (by omega) (by rw [Int.fdiv_eq_ediv_of_nonneg i (by omega)]; exact q) (.inl (PyProof.noPylong_small (by omega)))
/-- % by a positive divisor of any size -/
theorem op_mod : OpR X (binaryOp .Mod) (rI (fun _ j => 0 < j) fun i j => .int (i % j)) := opI fun i j _ _ _ _ _ hc q => by
  have h1 : (0 : Int) < j := hc
  exact mod_int' (by omega) (by rw [Int.fmod_eq_emod_of_nonneg i (by omega)]; exact q)
/-! ### bools among ints: n += (a < b) -/
end

/-! ### comparisons -/
/-- the scalars that == tells apart as data does -/
def scal : V → V → Bool
  | .non, .non => true | .non, .int _ => true | .int _, .non => true | .non, .bl _ => true | .bl _, .non => true | .non, .str _ => true | .str _, .non => true
  | .int _, .int _ => true | .bl _, .bl _ => true | .str _, .str _ => true | .byt _, .byt _ => true
  | .int _, .str _ => true | .str _, .int _ => true | .bl _, .str _ => true | .str _, .bl _ => true
  | _, _ => false
def rEq : R2 := fun x y H Q => scal x y = true ∧ Q (.bl (decide (x = y))) H
def rNe : R2 := fun x y H Q => scal x y = true ∧ Q (.bl (!decide (x = y))) H

theorem dec_int {i j : Int} : decide (V.int i = V.int j) = (i == j) := by
  rw [Bool.eq_iff_iff]
  simp
theorem dec_bl {i j : Bool} : decide (V.bl i = V.bl j) = (i == j) := by
  rw [Bool.eq_iff_iff]
  simp
theorem dec_str {i j : Str} : decide (V.str i = V.str j) = (i == j) := by
  rw [Bool.eq_iff_iff]
  simp
theorem dec_byt {i j : Array UInt8} : decide (V.byt i = V.byt j) = (i.toList == j.toList) := by
  rw [Bool.eq_iff_iff]
  cases i
  cases j
  simp

section
variable {X : Cx} {a b c : Expr} {ta tb tc : TE} {pos : Pos}
theorem fin_bl {pins : List (Addr × Obj)} {σ : St} {H : Hp} {s : Shared} {Q : VK} {k k' : Bool} (I : Inv X pins σ H s) (q : Q (.bl k) H) (e : k = k') : EP X pins σ Q (.bool k') s := by
  subst e
  exact ⟨.bl k, H, I, rfl, q⟩
theorem op_eq : OpR X (compareOp .Eq) rEq := by
  intro pins s σ H x y v u Q I rx ry h
  obtain ⟨hs, q⟩ := h
  cases x with
  | non =>
    cases rx
    cases y with
    | non => cases ry; exact PySem.EqNone.eq_none_none (fin_bl I q (by simp))
    | bl j => cases ry; exact PySem.EqNone.eq_none_bool (fin_bl I q (by simp))
    | int j => obtain ⟨t', rfl⟩ := ry; exact PySem.EqNone.eq_none_int (fin_bl I q (by simp))
    | str j => obtain ⟨t', rfl⟩ := ry; exact PySem.EqNone.eq_none_str (fin_bl I q (by simp))
    | _ => exact absurd (show false = true from hs) Bool.false_ne_true
  | bl i =>
    cases rx
    cases y with
    | non => cases ry; exact PySem.EqNone.eq_bool_none (fin_bl I q (by simp))
    | bl j => cases ry; exact eq_bool (fin_bl I q dec_bl)
    | str j => obtain ⟨t', rfl⟩ := ry; exact PySem.EqMixed.eq_bool_str (fin_bl I q (by simp))
    | _ => exact absurd (show false = true from hs) Bool.false_ne_true
  | int i =>
    obtain ⟨t, rfl⟩ := rx
    cases y with
    | non => cases ry; exact PySem.EqNone.eq_int_none (fin_bl I q (by simp))
    | int j => obtain ⟨t', rfl⟩ := ry; exact eq_int (fin_bl I q dec_int)
    | str j => obtain ⟨t', rfl⟩ := ry; exact PySem.EqMixed.eq_int_str (fin_bl I q (by simp))
    | _ => exact absurd (show false = true from hs) Bool.false_ne_true
  | str i =>
    obtain ⟨t, rfl⟩ := rx
    cases y with
    | non => cases ry; exact PySem.EqNone.eq_str_none (fin_bl I q (by simp))
    | bl j => cases ry; exact PySem.EqMixed.eq_str_bool (fin_bl I q (by simp))
    | int j => obtain ⟨t', rfl⟩ := ry; exact PySem.EqMixed.eq_str_int (fin_bl I q (by simp))
    | str j => obtain ⟨t', rfl⟩ := ry; exact eq_str (fin_bl I q dec_str)
    | _ => exact absurd (show false = true from hs) Bool.false_ne_true
  | byt i =>
    obtain ⟨t, rfl⟩ := rx
    cases y with
    | byt j => obtain ⟨t', rfl⟩ := ry; exact PySem.W.eq_bytes (fin_bl I q dec_byt)
    | _ => exact absurd (show false = true from hs) Bool.false_ne_true
  | _ => cases y <;> exact absurd (show false = true from hs) Bool.false_ne_true
theorem op_ne : OpR X (compareOp .NotEq) rNe := by
  intro pins s σ H x y v u Q I rx ry h
  obtain ⟨hs, q⟩ := h
  cases x with
  | non =>
    cases rx
    cases y with
    | non => cases ry; exact PySem.EqNone.ne_none_none (fin_bl I q (by simp))
    | bl j => cases ry; exact PySem.EqNone.ne_none_bool (fin_bl I q (by simp))
    | int j => obtain ⟨t', rfl⟩ := ry; exact PySem.EqNone.ne_none_int (fin_bl I q (by simp))
    | str j => obtain ⟨t', rfl⟩ := ry; exact PySem.EqNone.ne_none_str (fin_bl I q (by simp))
    | _ => exact absurd (show false = true from hs) Bool.false_ne_true
  | bl i =>
    cases rx
    cases y with
    | non => cases ry; exact PySem.EqNone.ne_bool_none (fin_bl I q (by simp))
    | bl j => cases ry; exact ne_bool (fin_bl I q (congrArg not dec_bl))
    | str j => obtain ⟨t', rfl⟩ := ry; exact PySem.EqMixed.ne_bool_str (fin_bl I q (by simp))
    | _ => exact absurd (show false = true from hs) Bool.false_ne_true
  | int i =>
    obtain ⟨t, rfl⟩ := rx
    cases y with
    | non => cases ry; exact PySem.EqNone.ne_int_none (fin_bl I q (by simp))
    | int j => obtain ⟨t', rfl⟩ := ry; exact ne_int (fin_bl I q (congrArg not dec_int))
    | str j => obtain ⟨t', rfl⟩ := ry; exact PySem.EqMixed.ne_int_str (fin_bl I q (by simp))
    | _ => exact absurd (show false = true from hs) Bool.false_ne_true
  | str i =>
    obtain ⟨t, rfl⟩ := rx
    cases y with
    | non => cases ry; exact PySem.EqNone.ne_str_none (fin_bl I q (by simp))
    | bl j => cases ry; exact PySem.EqMixed.ne_str_bool (fin_bl I q (by simp))
    | int j => obtain ⟨t', rfl⟩ := ry; exact PySem.EqMixed.ne_str_int (fin_bl I q (by simp))
    | str j => obtain ⟨t', rfl⟩ := ry; exact ne_str (fin_bl I q (congrArg not dec_str))
    | _ => exact absurd (show false = true from hs) Bool.false_ne_true
  | byt i =>
    obtain ⟨t, rfl⟩ := rx
    cases y with
    | byt j => obtain ⟨t', rfl⟩ := ry; exact PySem.W.ne_bytes (fin_bl I q (congrArg not dec_byt))
    | _ => exact absurd (show false = true from hs) Bool.false_ne_true
  | _ => cases y <;> exact absurd (show false = true from hs) Bool.false_ne_true

theorem op_lt : OpR X (compareOp .Lt) (rI0 fun i j => .bl (decide (i < j))) := opB0 fun _ _ _ _ _ _ _ q => lt_int q
theorem op_le : OpR X (compareOp .LtE) (rI0 fun i j => .bl (decide (i ≤ j))) := opB0 fun _ _ _ _ _ _ _ q => le_int q
/-- is None, is not None: the right side a value none -/
theorem op_isN : OpR X (compareOp .Is) (fun x y H Q => y = .non ∧ Q (.bl (decide (x = .non))) H) := by
  intro pins s σ H x y v u Q I rx ry h
  obtain ⟨rfl, q⟩ := h
  cases ry
  refine is_none_gen (fin_bl I q ?_)
  cases x <;> first
    | (cases rx; rfl)
    | (obtain ⟨t, rfl⟩ := rx; rfl)
theorem op_notN : OpR X (compareOp .IsNot) (fun x y H Q => y = .non ∧ Q (.bl (!decide (x = .non))) H) := by
  intro pins s σ H x y v u Q I rx ry h
  obtain ⟨rfl, q⟩ := h
  cases ry
  refine isnot_none_gen (fin_bl I q ?_)
  cases x <;> first
    | (cases rx; rfl)
    | (obtain ⟨t, rfl⟩ := rx; rfl)

/-- is, is not of two objects that are tracked lists or instances -/
def isObj : HO → Bool
  | .lst _ => true
  | .ins _ _ _ => true
  | _ => false
theorem nomark (b : Expr) {op : CmpOp} (h : op ≠ .In := by decide) (h2 : op ≠ .NotIn := by decide) : behindInMarks op b = false := by
  have e1 : (op == CmpOp.In) = false := by cases op <;> first | rfl | exact absurd rfl h
  have e2 : (op == CmpOp.NotIn) = false := by cases op <;> first | rfl | exact absurd rfl h2
  cases b <;> simp [behindInMarks, e1, e2]
/-- a comparison as a value; hm: nomark b, or (for in, not in) by with_unfolding_all rfl -/
theorem pe_cmpR {op : CmpOp} {r : R2} (ho : OpR X (compareOp op) r) (ha : PE X a ta) (hb : PE X b tb) (hm : behindInMarks op b = false) : PE X (.Compare a [op] [b] pos) (tOp r ta tb) := by
  intro pins s σ H Q I h
  exact wpAny_Compare1 (binT ha hb I h fun v u s2 x y H2 I2 rx ry q => ho pins s2 σ H2 x y v u Q I2 rx ry q) hm
/-- a reading of a value as a test -/
def tTest (t : TE) : TT := fun σ H Q => t σ H fun x H' => ∃ k, x = .bl k ∧ Q k H'
theorem pt_cmpR {op : CmpOp} {r : R2} (ho : OpR X (compareOp op) r) (ha : PE X a ta) (hb : PE X b tb) (hm : behindInMarks op b = false) : PT X (.Compare a [op] [b] pos) (tTest (tOp r ta tb)) := by
  intro pins s σ H Q I h
  refine wpAny_isTrue_Compare1 (thn (ha pins s σ H _ I h) fun v s1 ⟨x, H1, I1, r1, q1⟩ => thn (hb pins s1 σ H1 _ I1 q1) fun u s2 ⟨y, H2, I2, r2, q2⟩ =>
    thn (ho pins s2 σ H2 x y v u _ I2 r1 r2 q2) fun c s3 ⟨z, H3, I3, r3, k, e, q3⟩ => ?_) hm
  subst e
  cases r3
  exact wpAny_truthy_bool ⟨H3, I3, q3⟩
/-- a op1 b op2 c -/
def tChain (r r' : R2) (ta tb tc : TE) : TE := fun σ H Q => ta σ H fun x H1 => tb σ H1 fun y H2 => r x y H2 fun z H3 => ∃ k, z = .bl k ∧
  (if k = true then tc σ H3 fun w' H4 => r' y w' H4 Q else Q (.bl false) H3)
theorem pt_chain {op op' : CmpOp} {r r' : R2} (ho : OpR X (compareOp op) r) (ho' : OpR X (compareOp op') r') (ha : PE X a ta) (hb : PE X b tb) (hc : PE X c tc)
    (hm : lastMarks [op, op'] [b, c] = false := by with_unfolding_all rfl) : PT X (.Compare a [op, op'] [b, c] pos) (tTest (tChain r r' ta tb tc)) := by
  intro pins s σ H Q I h
  refine isTrue_chain (thn (ha pins s σ H _ I h) fun v s1 ⟨x, H1, I1, r1, q1⟩ => test_link (thn (hb pins s1 σ H1 _ I1 q1) fun u s2 ⟨y, H2, I2, r2, q2⟩ =>
    thn (ho pins s2 σ H2 x y v u _ I2 r1 r2 q2) fun d s3 ⟨z, H3, I3, r3, k, e, q3⟩ => ?_)) hm
  subst e
  cases r3
  refine wpAny_truthy_bool ?_
  cases k with
  | false =>
    obtain ⟨k', e', q'⟩ := q3
    cases e'
    exact ite_ff ⟨H3, I3, q'⟩
  | true =>
    refine ite_tt (test_last (thn (hc pins s3 σ H3 _ I3 q3) fun w' s4 ⟨z', H4, I4, r4, q4⟩ => thn (ho' pins s4 σ H4 y z' u w' _ I4 r2 r4 q4) fun d' s5 ⟨z2, H5, I5, r5, k2, e2, q5⟩ => ?_))
    subst e2
    cases r5
    exact wpAny_truthy_bool ⟨H5, I5, q5⟩

/-! ### truth -/
/-- a value's truth by the abstract heap -/
def TruV (K : PySem.W.Frag) (x : V) (H : Hp) (k : Bool) : Prop :=
  match x with
  | .non => k = false
  | .bl b => k = b
  | .int i => k = (i != 0)
  | .str y => y.length ≤ sizeLine ∧ k = ((y.length : Int) != 0)
  | .byt y => y.size ≤ sizeLine ∧ k = ((y.size : Int) != 0)
  | .ref p => (∃ xs, SqL K H p xs ∧ k = !xs.isEmpty) ∨ (∃ xs, SqT K H p xs ∧ k = !xs.isEmpty) ∨ ∃ kvs, H p = some (.dK kvs) ∧ k = !kvs.isEmpty
  | _ => False
theorem line63 : (sizeLine : Nat) < 2 ^ 63 := by rw [sizeLine_eq]; decide
/-! ### strs and bytes -/
def PlainIxT (b : Expr) : Prop := ∀ o i, subscripted b false o i = operate [o, i] (getItem o i)
/-! ### scalar builtins, by CallR -/
theorem vals1 {x : V} {us : List Value} (r : Vals [x] us) : ∃ u, us = [u] ∧ RelV x u := by
  cases r with
  | cons r1 r2 => cases r2; exact ⟨_, rfl, r1⟩
theorem vals2 {x y : V} {us : List Value} (r : Vals [x, y] us) : ∃ u w', us = [u, w'] ∧ RelV x u ∧ RelV y w' := by
  cases r with
  | cons r1 r2 =>
    cases r2 with
    | cons r3 r4 => cases r4; exact ⟨_, _, rfl, r1, r3⟩
theorem call_int1 : CallR X (.type "int") (fun xs H Q => (∃ i, xs = [.int i] ∧ Q (.int i) H) ∨ ∃ k, xs = [.bl k] ∧ Q (.int (if k then 1 else 0)) H) := by
  intro pins s σ H xs us Q I r h
  rcases h with ⟨i, rfl, q⟩ | ⟨k, rfl, q⟩
  · obtain ⟨u, rfl, t, rfl⟩ := vals1 r
    exact call_int_int ⟨.int i, H, I, ⟨_, rfl⟩, q⟩
  · obtain ⟨u, rfl, r1⟩ := vals1 r
    cases r1
    exact call_int_bool ⟨.int (if k then 1 else 0), H, I.tok _, ⟨_, rfl⟩, q⟩
/-- len of a str, a bytes, a list, a tuple -/
def LenV (K : PySem.W.Frag) (x : V) (H : Hp) (n : Nat) : Prop :=
  match x with
  | .str y => y.length ≤ sizeLine ∧ n = y.length
  | .byt y => y.size ≤ sizeLine ∧ n = y.size
  | .ref p => (∃ xs, SqL K H p xs ∧ n = xs.length) ∨ ∃ xs, SqT K H p xs ∧ n = xs.length
  | _ => False
end
end L2

namespace L2
open PySem PySem.Spec PyProof.Rows

/-! ### an instance, its attributes a map -/
structure ObjM (h : Heap) (x dx C : Addr) (mA : Str → Option Value) : Prop where
  obj : h.get? x = some (PySem.W.instObj C dx)
  ns : h.Ns1 dx mA
  ne : dx ≠ x

theorem lookIn_ns {h : Heap} {dx : Addr} {mA : Str → Option Value} (n : h.Ns1 dx mA) : ∃ od, h.get? dx = some od ∧ ∀ name, PySem.W.lookIn name od = some (mA name) := by
  obtain ⟨o, es, ep, ho, hd, hk, _, hm⟩ := n
  refine ⟨o, ho, fun name => ?_⟩
  have e := hm name
  unfold nsFind findBy at e
  rw [← Array.find?_toList] at e
  unfold PySem.W.lookIn
  rw [hd]
  dsimp only
  split
  · rename_i y q
    rw [q] at e
    exact congrArg some e
  · rename_i q
    rw [q] at e
    have a : es.toList.any (·.refKey) = false := by
      rw [List.any_eq_false]
      intro y hy
      obtain ⟨z, t, hkey⟩ := hk y (Array.mem_toList_iff.mp hy)
      simp [DictEntry.refKey, hkey]
    have a' : ¬ es.toList.any (·.refKey) = true := by rw [a]; exact Bool.false_ne_true
    rw [if_neg a']
    exact congrArg some e

theorem ObjM.look {h : Heap} {x dx C : Addr} {mA : Str → Option Value} (I : ObjM h x dx C mA) : ∃ od, PySem.W.InstAt h x (PySem.W.instObj C dx) C (some od) ∧ ∀ name, PySem.W.lookIn name od = some (mA name) :=
  let ⟨od, ho, hl⟩ := lookIn_ns I.ns
  ⟨od, ⟨I.obj, rfl, rfl, ho⟩, hl⟩

section
variable {prog : Program} {w : World} {A : Around} {E : Value → Shared → Prop} {s : Shared} {K : PySem.W.Frag} {x dx C f : Addr} {mA : Str → Option Value} {name : Str} {v : Value}

theorem get_map {expr : Bool} {Q : Value → Shared → Prop} (X : K.In s.heap) (I : ObjM s.heap x dx C mA) (hg : PySem.W.plainGet K C name = true) (hh : PySem.W.hasDictIn K C = true)
    (ha : PySem.W.findIn K (.ref C) name = some none) (hv : mA name = some v) (hv' : PySem.W.handedIn v = true) (h : Q v { s with toks := s.toks + 1 }) :
    wpAny (model prog w) A (getAttr (.ref x) name expr) Q E s := by
  obtain ⟨od, J, hl⟩ := I.look
  exact PySem.W.get_value X J (PySem.W.plainGet_of hg).1 (PySem.W.findObj_own hh ha rfl (by rw [hl, hv])) hv' h

theorem get_meth {pl : Sem Bool} {Q : Value × List Value → Shared → Prop} (X : K.In s.heap) (I : ObjM s.heap x dx C mA) (hg : PySem.W.plainGet K C name = true)
    (hf : PySem.W.findIn K (.ref C) name = some (some (.ref f))) (ht : PySem.W.isFn K (.ref f) = true) (hv : mA name = none) (h : Q (.ref f, [.ref x]) s) :
    wpAny (model prog w) A (getMethod (.ref x) name pl) Q E s := by
  obtain ⟨od, J, hl⟩ := I.look
  exact PySem.W.method_fn X J (PySem.W.plainGet_of hg).1 (PySem.W.plainGet_of hg).2 hf (beq_iff_eq.mp ht) (by show (PySem.W.lookIn name od).map (·.isSome) = some false; rw [hl, hv]; rfl) h

theorem set_map {ns : List Str} {Q : Unit → Shared → Prop} (X : K.In s.heap) (I : ObjM s.heap x dx C mA)
    (hs : PySem.W.findIn K (.ref C) "__setattr__" = some (some (.builtin "object.__setattr__"))) (hp : PySem.W.plainOver K C = true) (ht : PySem.W.takerIn K C name = some none) (hh : PySem.W.hasDictIn K C = true)
    (hw : PySem.Within mA ns) (hsz : ns.length ≤ sizeLine)
    (h : ∀ h', ObjM h' x dx C (fun y => if y = name then some v else mA y) → Heap.SameBut dx s.heap h' → Q () { s with heap := h', toks := s.toks + 2 }) :
    wpAny (model prog w) A (setAttr (.ref x) name v) Q E s := by
  obtain ⟨od, J, hl⟩ := I.look
  refine PySem.W.set_plain X J hs (PySem.W.osa_open (s := { s with toks := s.toks + 1 }) (r := none) X J hp ht fun b => ?_)
  obtain ⟨cd, hc, hd'⟩ := PySem.W.any_some hh
  have hx : s.heap.get? x = some ⟨.ref C, some dx, .plain, #[]⟩ := I.obj
  refine wpAny_bind (wpAny_pure (wpAny_bind (wpAny_bind (wpAny_loadPart hx (wpAny_bind (PySem.W.Looks.here (s := { s with toks := s.toks + 1 }) (PySem.W.looks_clsIn X hc) ?_))))))
  rw [hd']
  refine wpAny_pure (a := some dx) (wpAny_bind (wpAny_pure (wpAny_bind ?_)))
  refine wpAny_nsSet1 (s := { s with toks := s.toks + 1 }) I.ns fun h' hn2 hs2 => ?_
  obtain ⟨oD, esD, epD, hoD, hdD, hcD⟩ := hn2.count (PySem.Within.cons name v hw)
  refine wpAny_bind (wpAny_lookBehind hoD (by rw [hdD]; exact pastItsLine_dict (Nat.le_trans hcD (by rw [List.length_cons]; omega))) ?_)
  exact wpAny_pure (h _ ⟨(hs2.2 _ (Ne.symm I.ne)).trans I.obj, hn2, I.ne⟩ hs2)

/-- C(..): the dict at the heap's end, the instance behind it; then its __init__ -/
theorem make_map {R : Result → Shared → Prop} {vs : List Value} {kw : List (Str × Value)} (X : K.In s.heap) (hm : PySem.W.makesIn K C = true)
    (hi : PySem.W.findIn K (.ref C) "__init__" = some (some (.ref f))) (hf : PySem.W.typeIn K (.ref f) = some (.type "function"))
    (h : codeAny (model prog w) (A.under (.builtin "type.__call__" ⟨.ref C :: vs, kw⟩)) (.call (.ref f) ⟨.ref (s.heap.objs.size + 1) :: vs, kw⟩) (PySem.W.InitBack (s.heap.objs.size + 1) R)
      { s with heap := (s.heap.push PySem.W.emptyDict).push (PySem.W.instObj C s.heap.objs.size) }) :
    codeAny (model prog w) A (.call (.ref C) ⟨vs, kw⟩) R s := by
  obtain ⟨hh, g, d, t, os⟩ := s
  exact PySem.W.make_core (PySem.W.makes_of X hm) (PySem.W.looks_findIn X hi) (fun self => PySem.W.bind_fn X self hf) (.inl rfl) h
end

/-! ### the attributes as a list of pairs -/
def putF (f : Str) (v : V) : List (Str × V) → List (Str × V)
  | [] => [(f, v)]
  | (g, x) :: r => if g = f then (g, v) :: r else (g, x) :: putF f v r
theorem lookup_putF (f g : Str) (v : V) : ∀ fs : List (Str × V), (putF f v fs).lookup g = if g = f then some v else fs.lookup g
  | [] => by
    show List.lookup g [(f, v)] = _
    by_cases h : g = f
    · have hb : (g == f) = true := beq_iff_eq.mpr h
      simp only [List.lookup, hb, if_pos h]
    · have hb : (g == f) = false := beq_eq_false_iff_ne.mpr h
      simp only [List.lookup, hb, if_neg h]
  | (k, x) :: r => by
    have ih := lookup_putF f g v r
    rw [show putF f v ((k, x) :: r) = (if k = f then (k, v) :: r else (k, x) :: putF f v r) from rfl]
    by_cases hk : k = f
    · rw [if_pos hk]
      by_cases h : g = k
      · have hb : (g == k) = true := beq_iff_eq.mpr h
        simp only [List.lookup, hb, if_pos (h.trans hk)]
      · have hb : (g == k) = false := beq_eq_false_iff_ne.mpr h
        simp only [List.lookup, hb, if_neg (fun e : g = f => h (e.trans hk.symm))]
    · rw [if_neg hk]
      by_cases h : g = k
      · have hb : (g == k) = true := beq_iff_eq.mpr h
        simp only [List.lookup, hb, if_neg (fun e : g = f => hk (h.symm.trans e))]
      · have hb : (g == k) = false := beq_eq_false_iff_ne.mpr h
        simp only [List.lookup, hb]
        exact ih
theorem keys_putF (f : Str) (v : V) : ∀ fs : List (Str × V), f ∈ (putF f v fs).map (·.1) ∧ ∀ g, g ∈ fs.map (·.1) → g ∈ (putF f v fs).map (·.1)
  | [] => ⟨by simp [putF], fun g h => by simp at h⟩
  | (k, x) :: r => by
    obtain ⟨i1, i2⟩ := keys_putF f v r
    rw [show putF f v ((k, x) :: r) = (if k = f then (k, v) :: r else (k, x) :: putF f v r) from rfl]
    by_cases hk : k = f
    · rw [if_pos hk]
      subst hk
      exact ⟨by simp, fun g h => by simpa using h⟩
    · rw [if_neg hk]
      refine ⟨?_, fun g h => ?_⟩
      · rw [List.map_cons]
        exact List.mem_cons_of_mem _ i1
      · rw [List.map_cons] at h ⊢
        rcases List.mem_cons.mp h with e | e
        · exact List.mem_cons.mpr (.inl e)
        · exact List.mem_cons_of_mem _ (i2 g e)
theorem length_putF (f : Str) (v : V) : ∀ fs : List (Str × V), (putF f v fs).length ≤ fs.length + 1
  | [] => by simp [putF]
  | (k, x) :: r => by
    have ih := length_putF f v r
    rw [show putF f v ((k, x) :: r) = (if k = f then (k, v) :: r else (k, x) :: putF f v r) from rfl]
    by_cases hk : k = f
    · rw [if_pos hk, List.length_cons, List.length_cons]; omega
    · rw [if_neg hk, List.length_cons, List.length_cons]; omega

theorem RelO.some_of {v : V} {o : Option Value} (r : RelO (some v) o) : ∃ u, o = some u ∧ RelV v u := by
  cases o with
  | none => exact (show False from r).elim
  | some u => exact ⟨u, rfl, r⟩
theorem RelO.none_of {o : Option Value} (r : RelO none o) : o = none := by
  cases o with
  | none => rfl
  | some u => exact (show False from r).elim
theorem handed_of {v : V} {u : Value} (r : RelV v u) : PySem.W.handedIn u = true := by
  cases v with
  | non => cases (show u = Value.none from r); rfl
  | bl b => cases (show u = Value.bool b from r); rfl
  | int i => obtain ⟨t, e⟩ := (show ∃ t, u = Value.int i t from r); cases e; rfl
  | str x => obtain ⟨t, e⟩ := (show ∃ t, u = Value.str x t from r); cases e; rfl
  | byt b => obtain ⟨t, e⟩ := (show ∃ t, u = Value.bytes b t from r); cases e; rfl
  | flt b => obtain ⟨t, e⟩ := (show ∃ t, u = Value.float b t from r); cases e; rfl
  | ref a => cases (show u = Value.ref a from r); rfl
  | ty n => cases (show u = Value.type n from r); rfl

section
variable {P : Program} {w : World} {H H' : Hp} {h h' : Heap} {a C dx : Addr} {fs fs' : List (Str × V)}
theorem ins_get (hok : HOk P w H h) (e : H a = some (.ins C dx fs)) : ∃ mA, ObjM h a dx C mA ∧ (∀ f, RelO (fs.lookup f) (mA f)) ∧ PySem.Within mA (fs.map (·.1)) ∧ fs.length ≤ 1000 ∧ H dx = some (.own a) := by
  obtain ⟨d, z, ne, ob, mA, n, r, q⟩ := (show ObjOk P w H h a (.ins C dx fs) from hok a _ e)
  exact ⟨mA, ⟨ob, n, ne⟩, r, q, z, d⟩
end

/-! ### what of the text a class must have -/
structure Cls (K : PySem.W.Frag) (C : Addr) : Prop where
  pg : PySem.W.plainGet K C Str.empty = true
  hd : PySem.W.hasDictIn K C = true
  po : PySem.W.plainOver K C = true
  sa : PySem.W.findIn K (.ref C) "__setattr__" = some (some (.builtin "object.__setattr__"))
theorem Cls.get {K : PySem.W.Frag} {C : Addr} (c : Cls K C) (f : Str) : PySem.W.plainGet K C f = true := c.pg
/-- no class of it has the name -/
def NoAttr (K : PySem.W.Frag) (C : Addr) (f : Str) : Prop := PySem.W.findIn K (.ref C) f = some none
theorem NoAttr.taker {K : PySem.W.Frag} {C : Addr} {f : Str} (n : NoAttr K C f) : PySem.W.takerIn K C f = some none := by
  unfold PySem.W.takerIn
  rw [show PySem.W.findIn K (.ref C) f = some none from n]
  rfl
/-- a constant of the class -/
structure Con (K : PySem.W.Frag) (C : Addr) (f : Str) (v : V) (u : Value) : Prop where
  at_ : PySem.W.findIn K (.ref C) f = some (some u)
  rel : RelV v u
  get : PySem.W.specialIn K u "__get__" = some none
  cp : PySem.W.copiedNames.contains f = false
/-- a method: a plain def of the class or of one above it -/
structure Meth (K : PySem.W.Frag) (C : Addr) (m : Str) (f : Addr) : Prop where
  at_ : PySem.W.findIn K (.ref C) m = some (some (.ref f))
  fn : PySem.W.isFn K (.ref f) = true
  kp : PySem.W.keepIn K (.ref f) = true

section
variable {X : Cx} {pins : List (Addr × Obj)} {σ : St} {H : Hp} {s : Shared} {a C dx : Addr} {fs : List (Str × V)} {f : Str} {v : V} {A : Around} {E : Value → Shared → Prop}

theorem getattr_ok {b : Bool} {Q : Value → Shared → Prop} (I : Inv X pins σ H s) (e : H a = some (.ins C dx fs)) (c : Cls X.K C) (n : NoAttr X.K C f) (l : fs.lookup f = some v)
    (h : ∀ u s', Inv X pins σ H s' → RelV v u → Q u s') : wpAny (model X.prog X.w) A (getAttr (.ref a) f b) Q E s := by
  obtain ⟨mA, O, r, _, _, _⟩ := ins_get I.hok e
  obtain ⟨u, hu, ru⟩ := RelO.some_of (v := v) (o := mA f) (by rw [← l]; exact r f)
  exact get_map I.kIn O (c.get f) c.hd n hu (handed_of ru) (h u _ (I.tok _) ru)

theorem getmeth_ok {m : Str} {g : Addr} {pl : Sem Bool} {Q : Value × List Value → Shared → Prop} (I : Inv X pins σ H s) (e : H a = some (.ins C dx fs)) (c : Cls X.K C) (k : Meth X.K C m g) (l : fs.lookup m = none)
    (h : Q (.ref g, [.ref a]) s) : wpAny (model X.prog X.w) A (getMethod (.ref a) m pl) Q E s := by
  obtain ⟨mA, O, r, _, _, _⟩ := ins_get I.hok e
  have hn : mA m = none := RelO.none_of (by rw [← l]; exact r m)
  exact get_meth I.kIn O (c.get m) k.at_ k.fn hn h

theorem setattr_ok {y : V} {u : Value} {Q : Unit → Shared → Prop} (I : Inv X pins σ H s) (e : H a = some (.ins C dx fs)) (c : Cls X.K C) (n : NoAttr X.K C f) (hl : fs.length < 1000) (ry : RelV y u)
    (h : ∀ s', Inv X pins σ (upd H a (.ins C dx (putF f y fs))) s' → Q () s') : wpAny (model X.prog X.w) A (setAttr (.ref a) f u) Q E s := by
  obtain ⟨mA, O, r, wi, _, ho⟩ := ins_get I.hok e
  have hz : (fs.map (·.1)).length ≤ sizeLine := by rw [List.length_map, sizeLine_eq]; omega
  refine set_map I.kIn O c.sa c.po n.taker c.hd wi hz fun h' O' sb => h _ ?_
  have hd : ∃ o, h'.get? dx = some o := let ⟨o, _, _, e', _⟩ := O'.ns; ⟨o, e'⟩
  refine I.write (x := a) (e := dx) (by rw [e]; exact True.intro) (.inr ho) (fun b q hb z => (sb.2 b hb).trans z) hd ?_
  refine ⟨by rw [upd_ne O.ne]; exact ho, ?_, O.ne, O'.obj, _, O'.ns, fun g => ?_, fun g hg => ?_⟩
  · have := length_putF f y fs; omega
  · show RelO ((putF f y fs).lookup g) (if g = f then some u else mA g)
    rw [lookup_putF]
    by_cases q : g = f
    · rw [if_pos q, if_pos q]; exact ry
    · rw [if_neg q, if_neg q]; exact r g
  · by_cases q : g = f
    · rw [q]; exact (keys_putF f y fs).1
    · refine (keys_putF f y fs).2 g (wi g fun z => hg ?_)
      show (if g = f then some u else mA g) = none
      rw [if_neg q]; exact z

/-- a new instance, tracked, without attributes -/
theorem Inv.made (I : Inv X pins σ H s) : Inv X pins σ (upd (upd H s.heap.objs.size (.own (s.heap.objs.size + 1))) (s.heap.objs.size + 1) (.ins C s.heap.objs.size []))
    { s with heap := (s.heap.push PySem.W.emptyDict).push (PySem.W.instObj C s.heap.objs.size) } := by
  have e1 : (s.heap.push PySem.W.emptyDict).get? s.heap.objs.size = some PySem.W.emptyDict := Heap.get?_push_size s.heap rfl
  have e2 : ((s.heap.push PySem.W.emptyDict).push (PySem.W.instObj C s.heap.objs.size)).get? (s.heap.objs.size + 1) = some (PySem.W.instObj C s.heap.objs.size) := by
    have := Heap.get?_push_size (s.heap.push PySem.W.emptyDict) (o := PySem.W.instObj C s.heap.objs.size) rfl
    rwa [Heap.size_push] at this
  have e3 : (s.heap.push PySem.W.emptyDict).Ns s.heap.objs.size (fun _ => none) := ⟨PySem.W.emptyDict, #[], _, e1, rfl, (fun e he => absurd he (by simp)), fun _ => rfl⟩
  have I1 := I.laid (a := s.heap.objs.size) (o := .own (s.heap.objs.size + 1)) (h' := s.heap.push PySem.W.emptyDict) (t' := s.toks) (fun b u q => Heap.get?_push_of_some _ q) (Nat.le_refl _) ⟨_, e1⟩
  refine I1.laid (a := s.heap.objs.size + 1) (o := .ins C s.heap.objs.size []) (t' := s.toks) (fun b u q => Heap.get?_push_of_some _ q) (Nat.le_of_eq (Heap.size_push _ _)) ?_
  have ne : s.heap.objs.size ≠ s.heap.objs.size + 1 := Nat.ne_of_lt (Nat.lt_succ_self _)
  refine ⟨by rw [upd_ne ne, upd_same], Nat.zero_le _, ne, e2, fun _ => none, (Heap.Ns1.of_empty e3).at fun o q => Heap.get?_push_of_some _ q, fun _ => True.intro, fun y hy => absurd rfl hy⟩

/-- e.f where nothing but the object is asked: through attributeBase (super) and the last hold -/
theorem attr_of {prog : Program} {w : World} {env : Env} {e : Expr} {f : Str} {pos : Pos} {s : Shared} {Q : Value → Shared → Prop} (hb : attributeBase e f env (eval e env) = eval e env)
    (h : wpAny (model prog w) A (eval e env) (fun o s₁ => wpAny (model prog w) A (getAttr o f true) Q E s₁) E s) : wpAny (model prog w) A (eval (.Attribute e f pos) env) Q E s :=
  Attribute_any_ h (by rw [arm_eval_Attribute, hb])
end

/-! ### readings and rules -/
/-- e.f, an attribute of the instance -/
def tFld (K : PySem.W.Frag) (ta : TE) (f : Str) : TE := fun σ H Q => ta σ H fun x H1 => ∃ a C dx fs v, x = .ref a ∧ H1 a = some (.ins C dx fs) ∧ Cls K C ∧ NoAttr K C f ∧ fs.lookup f = some v ∧ Q v H1
/-- e.f, a constant of the class -/
def tCon (K : PySem.W.Frag) (ta : TE) (f : Str) : TE := fun σ H Q => ta σ H fun x H1 => ∃ a C dx fs v u, x = .ref a ∧ H1 a = some (.ins C dx fs) ∧ Cls K C ∧ Con K C f v u ∧ fs.lookup f = none ∧ Q v H1
/-- e.f = value -/
def sFld (K : PySem.W.Frag) (ta tv : TE) (f : Str) : TS := fun D σ H => tv σ H fun y H1 => ta σ H1 fun x H2 => ∃ a C dx fs, x = .ref a ∧ H2 a = some (.ins C dx fs) ∧ Cls K C ∧ NoAttr K C f ∧ fs.length < 1000 ∧
  D.nx σ (upd H2 a (.ins C dx (putF f y fs)))
/-- an augmented operator on two values -/
def InOp (X : Cx) (op : Operator) (rd : V → V → Hp → VK → Prop) : Prop :=
  ∀ (pins : List (Addr × Obj)) (s : Shared) (σ : St) (H : Hp) (x y : V) (u v : Value) (Q : VK), Inv X pins σ H s → RelV x u → RelV y v → rd x y H Q → wpAny (model X.prog X.w) X.A (inplaceOp op u v) (EP X pins σ Q) X.xe s
/-- e.f op= value -/
def sFldAug (K : PySem.W.Frag) (ta tv : TE) (rd : V → V → Hp → VK → Prop) (f : Str) : TS := fun D σ H => ta σ H fun x H1 => ∃ a C dx fs v, x = .ref a ∧ H1 a = some (.ins C dx fs) ∧ Cls K C ∧ NoAttr K C f ∧ fs.lookup f = some v ∧
  tv σ H1 fun y H2 => rd v y H2 fun z H3 => ∃ dx' fs', H3 a = some (.ins C dx' fs') ∧ fs'.length < 1000 ∧ D.nx σ (upd H3 a (.ins C dx' (putF f z fs')))

section
variable {X : Cx} {o e value : Expr} {f : Str} {pos pos' tpos : Pos} {ta tv : TE}
theorem pe_fld (he : PE X e ta) (hb : attributeBase e f X.env (eval e X.env) = eval e X.env) : PE X (.Attribute e f pos) (tFld X.K ta f) := by
  intro pins s σ H Q I h
  refine attr_of hb (thn (he pins s σ H _ I h) fun u s1 ⟨x, H1, I1, rx, a, C, dx, fs, v, ex, ea, c, n, l, q⟩ => ?_)
  subst ex
  obtain rfl : u = Value.ref a := rx
  exact getattr_ok I1 ea c n l fun u' s2 I2 ru => ⟨v, H1, I2, ru, q⟩
theorem ps_fld (ha : PE X o ta) (hv : PE X value tv) (hs : swapsWith value (some (.Attribute o f pos')) pos.line X.env = pure false) : PS X (.Assign [.Attribute o f pos'] value pos) (sFld X.K ta tv f) := by
  intro pins s σ H D I h
  refine plainObj_wpAny_Assign_Attribute (thn (hv pins s σ H _ I h) fun u s1 ⟨y, H1, I1, ry, q⟩ => thn (ha pins s1 σ H1 _ I1 q) fun ov s2 ⟨x, H2, I2, rx, a, C, dx, fs, ex, ea, c, n, l, q2⟩ => ?_) hs
  subst ex
  obtain rfl : ov = Value.ref a := rx
  exact setattr_ok I2 ea c n l ry fun s3 I3 => ⟨σ, _, I3, q2⟩
def rAdd : V → V → Hp → VK → Prop := fun x y H Q => ∃ i j, x = .int i ∧ y = .int j ∧ Q (.int (i + j)) H
def rSub : V → V → Hp → VK → Prop := fun x y H Q => ∃ i j, x = .int i ∧ y = .int j ∧ Q (.int (i - j)) H
end

/-! ### isinstance -/
section
variable {X : Cx} {pins : List (Addr × Obj)} {σ : St} {H : Hp} {s : Shared} {A : Around} {E : Value → Shared → Prop} {Q : Value → Shared → Prop} {c : Value} {b : Bool}
/-- the type of a value, as the fragment's deciders take it; for an instance its class -/
inductive TyOf (K : PySem.W.Frag) (H : Hp) : V → Value → Prop where
  | non : TyOf K H .non (.type "NoneType")
  | bl (x : Bool) : TyOf K H (.bl x) (.type "bool")
  | int (i : Int) : TyOf K H (.int i) (.type "int")
  | str (x : Str) : TyOf K H (.str x) (.type "str")
  | flt (x : UInt64) : TyOf K H (.flt x) (.type "float")
  | lst {a : Addr} {xs : List V} (e : H a = some (.lst xs)) : TyOf K H (.ref a) (.type "list")
  | frz {a : Addr} {o : Obj} {xs : List V} (e : H a = some (.frz o (.lst xs))) : TyOf K H (.ref a) (.type "list")
  | tup {a : Addr} {xs : List V} (e : H a = some (.tup xs)) : TyOf K H (.ref a) (.type "tuple")
  | dK {a : Addr} {kvs : List (Key × V)} (e : H a = some (.dK kvs)) : TyOf K H (.ref a) (.type "dict")
  | dT {a : Addr} {kvs : List (List Key × V)} (e : H a = some (.dT kvs)) : TyOf K H (.ref a) (.type "dict")
  | ins {a C dx : Addr} {fs : List (Str × V)} (e : H a = some (.ins C dx fs)) (cl : Cls K C) (ha : PySem.W.findIn K (.ref C) "__class__" = some (some (.builtin "object.__class__")))
      (hn : PySem.W.specialIn K (.builtin "object.__class__") "__get__" = some (some (.builtin "getset_descriptor.__get__"))) (htk : PySem.W.takesIn K (.builtin "object.__class__") = some true)
      (hm : PySem.W.mroIn K C (.type "object") = some true) : TyOf K H (.ref a) (.ref C)
/-- isinstance(x, c) for one class c, a built-in or an own one: kitOne's answer -/
theorem isinst_ok {x : V} {u t : Value} (I : Inv X pins σ H s) (rx : RelV x u) (ty : TyOf X.K H x t) (e : PySem.W.kitOne X.K t c = some b) (h : ∀ tk, Q (.bool b) { s with toks := tk }) :
    wpAny (model X.prog X.w) A (call (.builtin "isinstance") [u, c]) Q E s := by
  cases ty with
  | non => cases (show u = Value.none from rx); exact PySem.W.kia_one PySem.W.kitx_none I.kIn True.intro e (fun z => nomatch z) h
  | bl y => cases (show u = Value.bool y from rx); exact PySem.W.kia_one PySem.W.kitx_bool I.kIn True.intro e (fun z => nomatch z) h
  | int i => obtain ⟨t, q⟩ := (show ∃ t, u = Value.int i t from rx); cases q; exact PySem.W.kia_one PySem.W.kitx_int I.kIn True.intro e (fun z => nomatch z) h
  | str y => obtain ⟨t, q⟩ := (show ∃ t, u = Value.str y t from rx); cases q; exact PySem.W.kia_one PySem.W.kitx_str I.kIn True.intro e (fun z => nomatch z) h
  | flt y => obtain ⟨t, q⟩ := (show ∃ t, u = Value.float y t from rx); cases q; exact PySem.W.kia_one PySem.W.kitx_float I.kIn True.intro e (fun z => nomatch z) h
  | @lst a xs ea =>
    cases (show u = Value.ref a from rx)
    obtain ⟨_, _, n, _, h1⟩ := (show ObjOk X.prog X.w H s.heap a (.lst xs) from I.hok a _ ea)
    exact PySem.W.kia_one PySem.W.kitx_list I.kIn ⟨_, h1, rfl⟩ e (fun z => nomatch z) h
  | @frz a ob xs ea =>
    cases (show u = Value.ref a from rx)
    obtain ⟨_, _, _, n, _, h1⟩ := (show ObjOk X.prog X.w H s.heap a (.frz ob (.lst xs)) from I.hok a _ ea)
    exact PySem.W.kia_one PySem.W.kitx_list I.kIn ⟨_, h1, rfl⟩ e (fun z => nomatch z) h
  | @tup a xs ea =>
    cases (show u = Value.ref a from rx)
    obtain ⟨_, _, _, p⟩ := (show ObjOk X.prog X.w H s.heap a (.tup xs) from I.hok a _ ea)
    obtain ⟨o, h1, h2, _⟩ := p
    exact PySem.W.kia_one PySem.W.kitx_tuple I.kIn ⟨o, h1, h2⟩ e (fun z => nomatch z) h
  | @dK a kvs ea =>
    cases (show u = Value.ref a from rx)
    obtain ⟨_, _, vs, _, p⟩ := (show ObjOk X.prog X.w H s.heap a (.dK kvs) from I.hok a _ ea)
    obtain ⟨o, es, ep, h1, h2, _⟩ := p
    exact PySem.W.kia_one PySem.W.kitx_dict I.kIn ⟨o, h1, h2.1⟩ e (fun z => nomatch z) h
  | @dT a kvs ea =>
    cases (show u = Value.ref a from rx)
    obtain ⟨_, _, xs, _, o, es, ep, h1, h2, _⟩ := (show ObjOk X.prog X.w H s.heap a (.dT kvs) from I.hok a _ ea)
    exact PySem.W.kia_one PySem.W.kitx_dict I.kIn ⟨o, h1, h2.1⟩ e (fun z => nomatch z) h
  | @ins a C dx fs ea cl ha hn htk hm =>
    cases (show u = Value.ref a from rx)
    obtain ⟨mA, O, _⟩ := ins_get I.hok ea
    obtain ⟨od, J, _⟩ := O.look
    exact PySem.W.kia_one (PySem.W.kitx_own (cl.get _) cl.hd ha hn htk hm) I.kIn J e (fun z => nomatch z) h
end
end L2

namespace L2
open PySem PySem.Spec PyProof.Rows

/-! ### room -/
structure Room (k : Nat) (A : Around) : Prop where
  hd : A.handled = none
  dp : A.depth + 3 * k + 5 < recursionLimit
  un : A.units + 16 * k + 200 < cLine
theorem Room.mono {j k : Nat} {A : Around} (r : Room k A) (h : j ≤ k) : Room j A := ⟨r.hd, by have := r.dp; omega, by have := r.un; omega⟩
theorem Room.deeper {k : Nat} {A : Around} (r : Room (k + 1) A) (env : Env) : Room k (A.deeper env) :=
  ⟨r.hd, by have := r.dp; show A.depth + 1 + 3 * k + 5 < _; omega, by have := r.un; show A.units + 3 + 16 * k + 200 < _; omega⟩
theorem make_depth {A : Around} {C : Addr} {us : List Value} {kw : List (Str × Value)} : (A.under (.builtin "type.__call__" ⟨.ref C :: us, kw⟩)).depth = A.depth + 1 := by
  first | rfl | simp [Around.under, Code.weight, Code.isCreation, Code.isGuard, Code.isCaller, Code.frames, Code.isFrame, guardIds]
theorem make_units {A : Around} {C : Addr} {us : List Value} {kw : List (Str × Value)} : (A.under (.builtin "type.__call__" ⟨.ref C :: us, kw⟩)).units = A.units + 1 := by
  first | rfl | simp [Around.under, Code.cUnits, Code.frames, Code.isFrame]
theorem Room.make {k : Nat} {A : Around} (r : Room (k + 1) A) (C : Addr) (us : List Value) (kw : List (Str × Value)) : Room k (A.under (.builtin "type.__call__" ⟨.ref C :: us, kw⟩)) :=
  ⟨r.hd, by have := r.dp; rw [make_depth]; omega, by have := r.un; rw [make_units]; omega⟩
theorem Room.depth {k : Nat} {A : Around} (r : Room k A) : A.depth < recursionLimit := by have := r.dp; omega
theorem Room.units {k : Nat} {A : Around} (r : Room k A) : A.units + 64 < cLine := by have := r.un; omega
/-! ### argument lists and displays -/
def tNil : TA := fun _ H Q => Q [] H
def tCons (ta : TE) (tr : TA) : TA := fun σ H Q => ta σ H fun x H1 => tr σ H1 fun xs H2 => Q (x :: xs) H2
section
variable {X : Cx} {e : Expr} {es : List Expr} {te : TE} {t : TA} {pos : Pos}
theorem pa_nil : PA X [] tNil := fun _ _ _ _ H Q I h => Calls.spliced_nil ⟨[], H, I, .nil, h⟩
theorem pa_cons (ha : PE X e te) (hr : PA X es t) (hs : starEach (e :: es) X.env = (false, eval e X.env) :: starEach es X.env := by rfl) : PA X (e :: es) (tCons te t) := by
  intro pos pins s σ H Q I h
  rw [hs]
  show wpAny _ _ (spliced ((false, eval e X.env) :: backTo pos (starEach es X.env))) _ _ s
  refine Calls.spliced_cons (thn (ha pins s σ H _ I h) fun u s1 ⟨x, H1, I1, r1, q1⟩ => ?_)
  exact thn (hr pos pins s1 σ H1 _ I1 q1) fun us s2 ⟨xs, H2, I2, r2, q2⟩ => ⟨x :: xs, H2, I2, .cons r1 r2, q2⟩

/-- a tuple, a list of written items -/
def tTup (t : TA) : TE := fun σ H Q => t σ H fun xs H1 => xs.length ≤ sizeLine ∧ ∀ p, H1 p = none → Q (.ref p) (upd H1 p (.tup xs))
def tLst (t : TA) : TE := fun σ H Q => t σ H fun xs H1 => xs.length ≤ sizeLine ∧ ∀ p, H1 p = none → Q (.ref p) (upd H1 p (.lst xs))
theorem pe_tup {x1} (h : PA X es t) : PE X (.Tuple es x1 pos) (tTup t) := by
  intro pins s σ H Q I hq
  refine wpAny_Tuple_spliced (thn (h pos pins s σ H _ I hq) fun us s1 ⟨xs, H1, I1, r, z, q⟩ => ⟨by rw [← r.length]; exact z, ?_⟩)
  have hf : H1 s1.heap.objs.size = none := I1.hok.fresh (Nat.le_refl _)
  refine ⟨.ref s1.heap.objs.size, upd H1 s1.heap.objs.size (.tup xs), I1.laid (t' := s1.toks) (fun b u e => Heap.get?_push_of_some _ e) (Nat.le_refl _) ?_, rfl, q _ hf⟩
  exact ⟨z, us, r, ⟨_, Heap.get?_push_size _ rfl, rfl, _, rfl⟩⟩
theorem pe_lst (h : PA X es t) : PE X (.List es pos) (tLst t) := by
  intro pins s σ H Q I hq
  refine wpAny_List_spliced (thn (h pos pins s σ H _ I hq) fun us s1 ⟨xs, H1, I1, r, z, q⟩ => ⟨by rw [← r.length]; exact z, ?_⟩)
  have hf : H1 s1.heap.objs.size = none := I1.hok.fresh (Nat.le_refl _)
  refine ⟨.ref s1.heap.objs.size, upd H1 s1.heap.objs.size (.lst xs), I1.laid (t' := s1.toks) (fun b u e => Heap.get?_push_of_some _ e) (Nat.le_refl _) ?_, rfl, q _ hf⟩
  exact ⟨z, us, 0, r, Heap.get?_push_size _ rfl⟩
end

/-! ### what a def promises -/
/-- a def's promise: the bound arguments in the parameters' order, the heap, the wanted end, the wanted exception -/
abbrev Sp := List V → Hp → VK → XK → Prop
/-- how an exception lies behind a call (file 08 gives it): the callers' frames, abstract heap and state ahead of the call, the wish, the exception, the state -/
abbrev CXT := List Env → Hp → Shared → XK → Value → Shared → Prop

/-- the state at a call -/
structure Env0 (P : Program) (w : World) (K : PySem.W.Frag) (mg : Str → Option Value) (base : Heap) (A : Around) (outer : List Env) (s : Shared) (H : Hp) : Prop where
  frames : A.frames = some outer
  mod : Mod K mg base
  bs : ∀ b o, base.get? b = some o → s.heap.get? b = some o ∧ H b = none
  bsz : base.objs.size ≤ s.heap.objs.size
  funs : s.heap.FunFrames base outer
  frf : ∀ b ∈ frs outer, H b = none
  hok : HOk P w H s.heap
  bare : AllBare s.gens
/-- a call's end -/
def CE (outer : List Env) (P : Program) (w : World) (H : Hp) (s : Shared) (Q : VK) (u : Value) (s' : Shared) : Prop :=
  ∃ v H', s'.os = s.os ∧ AllBare s'.gens ∧ Un (frs outer) [] H H' s.heap s'.heap ∧ HOk P w H' s'.heap ∧ RelV v u ∧ Q v H'
def CR (CX : CXT) (outer : List Env) (P : Program) (w : World) (H : Hp) (s : Shared) (Q : VK) (E : XK) (r : Result) (s' : Shared) : Prop :=
  match r with
  | .ok (.ret u) => CE outer P w H s Q u s'
  | .ok _ => False
  | .error e => CX outer H s E e s'
structure FnOk (P : Program) (w : World) (K : PySem.W.Frag) (mg : Str → Option Value) (base : Heap) (CX : CXT) (k : Nat) (f : Addr) (fd : FuncData) (ps : List Str) (sp : Sp) : Prop where
  len : ∀ vs H Q E, sp vs H Q E → vs.length = ps.length
  run : ∀ (A : Around) (outer : List Env) (s : Shared) (H : Hp) (args : Args) (us : List Value) (vs : List V) (Q : VK) (E : XK), Room k A → Env0 P w K mg base A outer s H → BindsTo s fd args (ps.zip us) → Vals vs us → sp vs H Q E →
    codeAny (model P w) A (.call (.ref f) args) (CR CX outer P w H s Q E) s
theorem Env0.make {P : Program} {w : World} {K : PySem.W.Frag} {mg : Str → Option Value} {base : Heap} {A : Around} {outer : List Env} {s : Shared} {H : Hp} (e : Env0 P w K mg base A outer s H) (C : Addr) (us : List Value) (kw : List (Str × Value)) :
    Env0 P w K mg base (A.under (.builtin "type.__call__" ⟨.ref C :: us, kw⟩)) outer s H := ⟨by first | exact e.frames | (simpa [Around.under, Code.envs, Code.isFrame, pushEnvs] using e.frames), e.mod, e.bs, e.bsz, e.funs, e.frf, e.hok, e.bare⟩
section
variable {X : Cx} {pins : List (Addr × Obj)} {σ : St} {H : Hp} {s s' : Shared}
/-- from a body: what a callee wants -/
theorem Inv.env0 (I : Inv X pins σ H s) : Env0 X.prog X.w X.K X.mg X.base X.A X.stack s H :=
  ⟨I.ok.frames, I.ok.mod, I.bs, Nat.le_trans I.ok.bsz I.sz, I.stack, I.stkFree, I.hok, I.bare⟩
/-- behind a call -/
theorem Inv.after {Q : VK} {u : Value} (I : Inv X pins σ H s) (h : CE X.stack X.prog X.w H s Q u s') : EP X pins σ Q u s' := by
  obtain ⟨v, H', os, bare, un, hok, r, q⟩ := h
  obtain ⟨hh, g, d, t, os'⟩ := s'
  obtain rfl : os' = s.os := os
  exact ⟨v, H', I.call (h' := hh) (g' := g) (d' := d) (t' := t) (ch := []) un hok bare (fun b z => absurd z (by simp)), r, q⟩
end

/-! ### calls -/
/-- f(..): the written arguments, then the defaults dvs; E: what is wanted of an exception -/
def tCall (sp : Sp) (dvs : List V) (E : XK) (t : TA) : TE := fun σ H Q => t σ H fun vs H1 => sp (vs ++ dvs) H1 Q E
/-- o.m(..) of an instance of the class at C -/
def tMeth (C : Addr) (m : Str) (sp : Sp) (dvs : List V) (E : XK) (ta : TE) (t : TA) : TE := fun σ H Q => ta σ H fun x H1 => ∃ a dx fs, x = .ref a ∧ H1 a = some (.ins C dx fs) ∧ fs.lookup m = none ∧
  t σ H1 fun vs H2 => sp (x :: (vs ++ dvs)) H2 Q E
/-- C(..): a new instance and its dict, then __init__ -/
def tMake (C : Addr) (sp : Sp) (dvs : List V) (E : XK) (t : TA) : TE := fun σ H Q => t σ H fun vs H1 => ∀ x dx, H1 x = none → H1 dx = none → dx ≠ x →
  sp (.ref x :: (vs ++ dvs)) (upd (upd H1 dx (.own x)) x (.ins C dx [])) (fun v H2 => v = .non ∧ Q (.ref x) H2) E

/-- how the parameters are bound: us the positional arguments, kw the keywords' values by name, ds the defaults that fill up -/
def Binds (K : PySem.W.Frag) (fd : FuncData) (ps : List Str) (ds : List Value) : Prop :=
  ∀ (s : Shared) (us : List Value), K.In s.heap → (us ++ ds).length = ps.length → BindsTo s fd ⟨us, []⟩ (ps.zip (us ++ ds))
/-- every parameter is given -/
theorem Binds.all {K : PySem.W.Frag} {fd : FuncData} {ps : List Str} (h : ∀ us : List Value, us.length = ps.length → bindArgs fd ⟨us, []⟩ = pure (ps.zip us)) : Binds K fd ps [] := fun s us _ hl => by
  rw [List.append_nil] at hl ⊢
  exact .of_eq (h us hl)

/-- an exception of a callee reaches what this body wants of exceptions -/
def Passes (CX : CXT) (X : Cx) (E : XK) : Prop := ∀ (pins : List (Addr × Obj)) (σ : St) (H : Hp) (s : Shared) (e : Value) (s' : Shared), Inv X pins σ H s → CX X.stack H s E e s' → X.xe e s'

section
variable {X : Cx} {CX : CXT} {k : Nat} {f C : Addr} {fd : FuncData} {ps : List Str} {sp : Sp} {dvs : List V} {ds : List Value} {E : XK} {x m : Str} {p pos apos : Pos} {e o : Expr} {es : List Expr} {ta : TE} {t : TA}

/-- the callee runs -/
theorem run_fn {pins : List (Addr × Obj)} {σ : St} {H : Hp} {s : Shared} {Q : VK} {us : List Value} {vs : List V} (F : FnOk X.prog X.w X.K X.mg X.base CX k f fd ps sp) (hr : Room k X.A) (hb : Binds X.K fd ps ds) (hd : Vals dvs ds) (hx : Passes CX X E)
    (I : Inv X pins σ H s) (r : Vals vs us) (h : sp (vs ++ dvs) H Q E) : wpAny (model X.prog X.w) X.A (call (.ref f) us) (EP X pins σ Q) X.xe s := by
  have r2 : Vals (vs ++ dvs) (us ++ ds) := r.append hd
  have hl : (us ++ ds).length = ps.length := by rw [← r2.length]; exact F.len _ _ _ _ h
  refine wpAny_call (codeAny_mono (F.run X.A X.stack s H ⟨us, []⟩ (us ++ ds) (vs ++ dvs) Q E hr I.env0 (hb s us I.kIn hl) r2 h) fun r s' hq => ?_)
  cases r with
  | error e => exact hx pins σ H s e s' I hq
  | ok fl =>
    cases fl with
    | ret u => exact I.after hq
    | next => exact False.elim hq
    | brk => exact False.elim hq
    | cont => exact False.elim hq

theorem pe_call (F : FnOk X.prog X.w X.K X.mg X.base CX k f fd ps sp) (hr : Room k X.A) (hg : Gl X x) (hm : X.mg x = some (.ref f)) (hk : PySem.W.keepIn X.K (.ref f) = true) (hb : Binds X.K fd ps ds) (hd : Vals dvs ds) (hx : Passes CX X E)
    (ha : PA X (e :: es) t) (hdb : (x == ("__debug__" : Str)) = false := by decide) (he : starEach (e :: es) X.env = (false, eval e X.env) :: starEach es X.env := by rfl) (hpl : (backTo pos (starEach es X.env)).any (·.1) = false := by rfl) :
    PE X (.Call (.Name x p) (e :: es) [] pos) (tCall sp dvs E t) := by
  intro pins s σ H Q I h
  refine wpAny_Call_Name_kw (ld_glob I hg hm ?_ hdb)
  refine PySem.W.callWith_K (h₀ := X.base) I.ok.mod.kin hk (thn (ha pos pins s σ H _ I h) fun us s1 ⟨vs, H1, I1, r, q⟩ => ⟨I1.kIn, ?_⟩) he hpl
  exact run_fn F hr hb hd hx I1 r q
/-- o.m(e, ..) -/
theorem pe_meth {pl : Sem Bool} (he : PE X o ta) (c : Cls X.K C) (hm : Meth X.K C m f) (F : FnOk X.prog X.w X.K X.mg X.base CX k f fd ps sp) (hr : Room k X.A) (hb : Binds X.K fd ps ds) (hd : Vals dvs ds) (hx : Passes CX X E) (ha : PA X (e :: es) t)
    (hst : starEach (e :: es) X.env = (false, eval e X.env) :: starEach es X.env := by rfl) (hpl : (backTo pos (starEach es X.env)).any (·.1) = false := by rfl)
    (ht : eval (.Call (.Attribute o m apos) (e :: es) [] pos) X.env = (do
      let ov ← eval o X.env
      standAt apos.atName
      let (f, first) ← holding [ov] (getMethod ov m pl)
      callWith pos f first (backTo pos (starEach (e :: es) X.env)) (backToKw pos (keywordEach [] X.env))) := by rfl) :
    PE X (.Call (.Attribute o m apos) (e :: es) [] pos) (tMeth C m sp dvs E ta t) := by
  intro pins s σ H Q I h
  refine PySem.W.methodCall_KW (pl := pl) (thn (he pins s σ H _ I h) fun u s1 ⟨x, H1, I1, rx, a, dx, fs, ex, ea, l, q⟩ => ?_) ht
  subst ex
  obtain rfl : u = Value.ref a := rx
  refine getmeth_ok I1 ea c hm l ?_
  refine PySem.W.callWith_K (first := [.ref a]) (h₀ := X.base) I.ok.mod.kin hm.kp (thn (ha pos pins s1 σ H1 _ I1 q) fun us s2 ⟨vs, H2, I2, r, q2⟩ => ⟨I2.kIn, ?_⟩) hst hpl
  exact run_fn (us := .ref a :: us) (vs := .ref a :: vs) F hr hb hd hx I2 (.cons rfl r) q2
/-- o.m() -/
theorem pe_meth0 {pl : Sem Bool} (he : PE X o ta) (c : Cls X.K C) (hm : Meth X.K C m f) (F : FnOk X.prog X.w X.K X.mg X.base CX k f fd ps sp) (hr : Room k X.A) (hb : Binds X.K fd ps ds) (hd : Vals dvs ds) (hx : Passes CX X E)
    (ht : eval (.Call (.Attribute o m apos) [] [] pos) X.env = (do
      let ov ← eval o X.env
      standAt apos.atName
      let (f, first) ← holding [ov] (getMethod ov m pl)
      callWith pos f first (backTo pos (starEach [] X.env)) (backToKw pos (keywordEach [] X.env))) := by rfl) :
    PE X (.Call (.Attribute o m apos) [] [] pos) (tMeth C m sp dvs E ta tNil) := by
  intro pins s σ H Q I h
  refine PySem.W.methodCall_KW (pl := pl) (thn (he pins s σ H _ I h) fun u s1 ⟨x, H1, I1, rx, a, dx, fs, ex, ea, l, q⟩ => ?_) ht
  subst ex
  obtain rfl : u = Value.ref a := rx
  refine getmeth_ok I1 ea c hm l ?_
  exact PySem.W.callWith_K0 (first := [.ref a]) I1.kIn hm.kp (run_fn (us := [.ref a]) (vs := [.ref a]) F hr hb hd hx I1 (.cons rfl .nil) q)

/-- what a class must have to be made -/
structure Mk (K : PySem.W.Frag) (C f : Addr) : Prop where
  makes : PySem.W.makesIn K C = true
  init : PySem.W.findIn K (.ref C) "__init__" = some (some (.ref f))
  fn : PySem.W.isFn K (.ref f) = true
  kp : PySem.W.keepIn K (.ref C) = true

theorem run_make {pins : List (Addr × Obj)} {σ : St} {H : Hp} {s : Shared} {Q : VK} {us : List Value} {vs : List V} (M : Mk X.K C f) (F : FnOk X.prog X.w X.K X.mg X.base CX k f fd ps sp) (hr : Room (k + 1) X.A) (hb : Binds X.K fd ps ds) (hd : Vals dvs ds)
    (hx : Passes CX X E) (I : Inv X pins σ H s) (r : Vals vs us)
    (h : ∀ x dx, H x = none → H dx = none → dx ≠ x → sp (.ref x :: (vs ++ dvs)) (upd (upd H dx (.own x)) x (.ins C dx [])) (fun v H2 => v = .non ∧ Q (.ref x) H2) E) :
    wpAny (model X.prog X.w) X.A (call (.ref C) us) (EP X pins σ Q) X.xe s := by
  have hq := h (s.heap.objs.size + 1) s.heap.objs.size (I.hok.fresh (Nat.le_succ _)) (I.hok.fresh (Nat.le_refl _)) (Nat.ne_of_lt (Nat.lt_succ_self _))
  have I2 := Inv.made (C := C) I
  have r2 : Vals (V.ref (s.heap.objs.size + 1) :: (vs ++ dvs)) (Value.ref (s.heap.objs.size + 1) :: (us ++ ds)) := .cons rfl (r.append hd)
  have hl : (Value.ref (s.heap.objs.size + 1) :: us ++ ds).length = ps.length := by
    have e := r2.length
    rw [F.len _ _ _ _ hq] at e
    exact e.symm
  refine wpAny_call (make_map (f := f) I.kIn M.makes M.init (beq_iff_eq.mp M.fn) (codeAny_mono (F.run _ X.stack _ _ ⟨Value.ref (s.heap.objs.size + 1) :: us, []⟩ (Value.ref (s.heap.objs.size + 1) :: (us ++ ds)) _ _ E (hr.make C us [])
    (I2.env0.make C us []) (hb _ (Value.ref (s.heap.objs.size + 1) :: us) I2.kIn hl) r2 hq) fun r s' hq' => ?_))
  cases r with
  | error e => exact hx pins σ _ _ e s' I2 hq'
  | ok fl =>
    cases fl with
    | ret u =>
      obtain ⟨v, H', I3, rv, ev, q3⟩ := I2.after hq'
      subst ev
      exact ⟨rv, ⟨V.ref (s.heap.objs.size + 1), H', I3, rfl, q3⟩⟩
    | next => exact False.elim hq'
    | brk => exact False.elim hq'
    | cont => exact False.elim hq'
theorem pe_make (M : Mk X.K C f) (F : FnOk X.prog X.w X.K X.mg X.base CX k f fd ps sp) (hr : Room (k + 1) X.A) (hg : Gl X x) (hm : X.mg x = some (.ref C)) (hb : Binds X.K fd ps ds) (hd : Vals dvs ds) (hx : Passes CX X E)
    (ha : PA X (e :: es) t) (hdb : (x == ("__debug__" : Str)) = false := by decide) (he : starEach (e :: es) X.env = (false, eval e X.env) :: starEach es X.env := by rfl) (hpl : (backTo pos (starEach es X.env)).any (·.1) = false := by rfl) :
    PE X (.Call (.Name x p) (e :: es) [] pos) (tMake C sp dvs E t) := by
  intro pins s σ H Q I h
  refine wpAny_Call_Name_kw (ld_glob I hg hm ?_ hdb)
  refine PySem.W.callWith_K (h₀ := X.base) I.ok.mod.kin M.kp (thn (ha pos pins s σ H _ I h) fun us s1 ⟨vs, H1, I1, r, q⟩ => ⟨I1.kIn, ?_⟩) he hpl
  exact run_make M F hr hb hd hx I1 r q
end

/-! ### keywords -/
/-- the values of the keywords, from the left -/
def PK (X : Cx) (kws : List Keyword) (t : TA) : Prop :=
  ∀ (pos : Pos) (pins : List (Addr × Obj)) (s : Shared) (σ : St) (H : Hp) (Q : List V → Hp → Prop), Inv X pins σ H s → t σ H Q → wpAny (model X.prog X.w) X.A (evalAll ((backToKw pos (keywordEach kws X.env)).map (·.2))) (AP X pins σ Q) X.xe s
section
variable {X : Cx} {CX : CXT} {k : Nat} {f C : Addr} {fd : FuncData} {ps ks : List Str} {sp : Sp} {E : XK} {x m : Str} {p pos apos kpos : Pos} {e o : Expr} {es : List Expr} {kws : List Keyword} {te ta : TE} {t tk : TA} {nm : Option Str}
/-- how a call with keywords binds: g puts the positional values us and the keywords' values ws (names ks) in the parameters' order, defaults among them -/
structure KBinds (K : PySem.W.Frag) (fd : FuncData) (ps ks : List Str) (g : List Value → List Value → List Value) (gV : List V → List V → List V) : Prop where
  to : ∀ (s : Shared) (us ws : List Value), K.In s.heap → (g us ws).length = ps.length → BindsTo s fd ⟨us, ks.zip ws⟩ (ps.zip (g us ws))
  rel : ∀ {vs : List V} {us : List Value} {zs : List V} {ws : List Value}, Vals vs us → Vals zs ws → Vals (gV vs zs) (g us ws)
def tCallK (sp : Sp) (gV : List V → List V → List V) (E : XK) (t tk : TA) : TE := fun σ H Q => t σ H fun vs H1 => tk σ H1 fun zs H2 => sp (gV vs zs) H2 Q E
variable {g : List Value → List Value → List Value} {gV : List V → List V → List V}
end

/-! ### a def's body keeps its promise -/
/-- names: the parameters first -/
structure FnScope (N P : List Str) (sc : Scope) : Prop where
  kind : sc.kind = .function
  co : sc.isCoroutine = false
  gen : sc.isGenerator = false
  nd : N.Nodup
  pre : N.take P.length = P
  par : ∀ x ∈ P, sc.names.lookup x = some .local ∨ sc.names.lookup x = some .cell
  nofree : ∀ y ∈ sc.names, y.2 ≠ .free

theorem bindL_out {kindOf : Str → Option NameKind} {x : Str} : ∀ {binds : List (Str × Value)} {m : Str → Option Value}, (∀ v, (x, v) ∉ binds) → bindL kindOf binds m x = m x
  | [], _, _ => rfl
  | (n, v) :: r, m, h => by
    unfold bindL
    rw [bindL_out fun w hw => h w (List.mem_cons_of_mem _ hw)]
    split
    · have : x ≠ n := by rintro rfl; exact h v List.mem_cons_self
      simp [this]
    · rfl
theorem bindC_out {kindOf : Str → Option NameKind} {x : Str} : ∀ {binds : List (Str × Value)} {m : Str → Option Value}, (∀ v, (x, v) ∉ binds) → bindC kindOf binds m x = m x
  | [], _, _ => rfl
  | (n, v) :: r, m, h => by
    unfold bindC
    rw [bindC_out fun w hw => h w (List.mem_cons_of_mem _ hw)]
    split
    · rfl
    · have : x ≠ n := by rintro rfl; exact h v List.mem_cons_self
      simp [this]
theorem bindL_get {kindOf : Str → Option NameKind} {x : Str} {v : Value} : ∀ {P : List Str} {vs : List Value} {i : Nat} {m : Str → Option Value}, P.Nodup → P[i]? = some x → vs[i]? = some v → kindOf x = some .local →
    bindL kindOf (P.zip vs) m x = some v
  | [], _, _, _, _, h, _, _ => by simp at h
  | _ :: _, [], _, _, _, _, h, _ => by simp at h
  | p :: P, w :: vs, 0, m, nd, h1, h2, hk => by
    simp at h1 h2; subst h1; subst h2
    show bindL kindOf ((p, w) :: P.zip vs) m p = _
    unfold bindL
    rw [bindL_out fun v hv => (List.nodup_cons.mp nd).1 (List.of_mem_zip hv).1, if_pos hk]
    simp
  | p :: P, w :: vs, i + 1, m, nd, h1, h2, hk => by
    show bindL kindOf ((p, w) :: P.zip vs) m x = _
    unfold bindL
    exact bindL_get (i := i) (List.nodup_cons.mp nd).2 (by simpa using h1) (by simpa using h2) hk
theorem bindC_get {kindOf : Str → Option NameKind} {x : Str} {v : Value} : ∀ {P : List Str} {vs : List Value} {i : Nat} {m : Str → Option Value}, P.Nodup → P[i]? = some x → vs[i]? = some v → kindOf x ≠ some .local →
    bindC kindOf (P.zip vs) m x = some v
  | [], _, _, _, _, h, _, _ => by simp at h
  | _ :: _, [], _, _, _, _, h, _ => by simp at h
  | p :: P, w :: vs, 0, m, nd, h1, h2, hk => by
    simp at h1 h2; subst h1; subst h2
    show bindC kindOf ((p, w) :: P.zip vs) m p = _
    unfold bindC
    rw [bindC_out fun v hv => (List.nodup_cons.mp nd).1 (List.of_mem_zip hv).1, if_neg hk]
    simp
  | p :: P, w :: vs, i + 1, m, nd, h1, h2, hk => by
    show bindC kindOf ((p, w) :: P.zip vs) m x = _
    unfold bindC
    exact bindC_get (i := i) (List.nodup_cons.mp nd).2 (by simpa using h1) (by simpa using h2) hk

/-- the names' values at the entry -/
def start (N : List Str) (vs : List V) : St := vs.map some ++ List.replicate (N.length - vs.length) none

/-- the context of a def's body, at its entry; an exception leaves the frame, then lies as CX says -/
def cxOf (CX : CXT) (P : Program) (w : World) (K : PySem.W.Frag) (mg : Str → Option Value) (base : Heap) (N : List Str) (qual : Str) (scope : Scope) (f : Addr) (cd : Value) (A : Around) (outer : List Env) (s : Shared) (H : Hp) (E : XK) : Cx where
  prog := P
  w := w
  K := K
  mg := mg
  base := base
  A := A.deeper (envOfC qual scope s.heap.objs.size f cd)
  N := N
  s₀ := s
  H₀ := H
  env := envOfC qual scope s.heap.objs.size f cd
  outer := outer
  stack := envOfC qual scope s.heap.objs.size f cd :: outer
  ex := []
  calm := true
  fn := fun _ => true
  pn := []
  xe := fun e s' => wpAny (model P w) (A.deeper (envOfC qual scope s.heap.objs.size f cd)) (leaving (envOfC qual scope s.heap.objs.size f cd) e) (fun _ s'' => CX outer H s E e s'') (fun e' s'' => CX outer H s E e' s'') s'

theorem cell_has {sc : Scope} {n : Nat} {x : Str} (h : sc.names.lookup x = some .cell) : ∃ c, (cellsFrom n sc.names []).lookup x = some c := by
  have q := PySem.W.cellsFrom_some sc.names n [] (.inl h)
  exact Option.isSome_iff_exists.mp q

theorem inv_start {CX : CXT} {P : Program} {w : World} {K : PySem.W.Frag} {mg : Str → Option Value} {base : Heap} {N ps : List Str} {qual : Str} {scope : Scope} {f : Addr} {cd : Value} {A : Around} {outer : List Env} {s s1 : Shared} {H : Hp} {E : XK} {us : List Value} {vs : List V}
    (S : FnScope N ps scope) (hd : A.handled = none) (e0 : Env0 P w K mg base A outer s H) (hl : vs.length = ps.length) (r : Vals vs us)
    (x : InCallC s s.heap.objs.size (bindL (envOfC qual scope s.heap.objs.size f cd).kindOf (ps.zip us) fun _ => none) (cellsFrom (s.heap.objs.size + 1) scope.names []) (bindC (envOfC qual scope s.heap.objs.size f cd).kindOf (ps.zip us) fun _ => none) s1) :
    Inv (cxOf CX P w K mg base N qual scope f cd A outer s H E) [] (start N vs) H s1 := by
  have hpl : ps.length ≤ N.length := by have := congrArg List.length S.pre; rw [List.length_take] at this; omega
  obtain ⟨h1, tk, rfl, hk⟩ := x.done
  have noA : ∀ b : Addr, b ∉ (cxOf CX P w K mg base N qual scope f cd A outer s H E).ex := fun b z => absurd (show b ∈ ([] : List Addr) from z) (by simp)
  refine ⟨⟨e0.mod, S.kind, rfl, rfl, Nat.le_refl _, fun y z c h1 h2 => ?_, fun y hy => ?_, fun y c _ h => ?_, fun _ => hd, Around.frames_deeper e0.frames, .inr ⟨rfl, rfl⟩, fun b z => absurd z (noA b), e0.bs, e0.bsz, fun b _ _ => noA b, fun b z => absurd z (noA b), e0.funs, e0.frf⟩,
    rfl, e0.bare, Un.kept hk, ⟨_, x.toInCall.ns, fun i y v h1 h2 h3 => ?_⟩, fun y c h => ⟨_, x.cell y c h⟩, e0.hok.fresh (Nat.le_refl _), fun y c h => ?_, fun p hp => absurd (show p ∈ ([] : List (Addr × Obj)) from hp) (by simp), e0.hok.kept hk, ?_⟩
  · exact name_of_addr x.apart (PySem.mem_of_lookup h1) (PySem.mem_of_lookup h2)
  · have hy : scope.names.lookup y = some .cell ∨ scope.names.lookup y = some .free := hy
    rcases hy with hy | hy
    · exact cell_has hy
    · exact absurd rfl (S.nofree _ (PySem.mem_of_lookup hy))
  · exact Nat.le_of_lt (x.above y c (PySem.mem_of_lookup h))
  · have hi : i < vs.length := by
      unfold start at h2
      by_cases hi : i < vs.length
      · exact hi
      · rw [List.getElem?_append_right (by simpa using hi)] at h2
        rw [List.getElem?_replicate] at h2
        split at h2 <;> cases h2
    have ha : vs[i]? = some v := by
      unfold start at h2
      rw [List.getElem?_append_left (by simpa using hi), List.getElem?_map] at h2
      cases e : vs[i]? with
      | none => rw [e] at h2; cases h2
      | some a => rw [e] at h2; cases h2; rfl
    obtain ⟨u, hu, rv⟩ := r.get ha
    have hp : ps[i]? = some y := by
      rw [← S.pre, List.getElem?_take_of_lt (by omega)]; exact h1
    have ndP : ps.Nodup := by rw [← S.pre]; exact S.nd.sublist (List.take_sublist _ _)
    refine ⟨u, rv, ?_⟩
    rcases S.par y (List.mem_of_getElem? hp) with k | k
    · exact .inl ⟨k, bindL_get ndP hp hu k⟩
    · obtain ⟨c, e⟩ := cell_has (n := s.heap.objs.size + 1) k
      refine .inr ⟨.inl k, c, e, ?_⟩
      have q := x.cell y c e
      rw [bindC_get ndP hp hu (by show scope.names.lookup y ≠ _; rw [k]; decide)] at q
      exact q
  · exact e0.hok.fresh (Nat.le_of_lt (x.above y c (PySem.mem_of_lookup h)))
  · unfold start
    show _ = N.length
    rw [List.length_append, List.length_map, List.length_replicate]
    omega

/-- THE RULE: a def (or a method) of the text, by its body. The body's reading t is chosen for each entry; it is run at the parameters' values -/
theorem fn_of {CX : CXT} {P : Program} {w : World} {K : PySem.W.Frag} {mg : Str → Option Value} {base : Heap} {k : Nat} {f : Addr} {name qual : Str} {params : Arguments} {body : List Stmt} {scope : Scope} {dV kV doc pm cdv ct oc : Value} {an od : Option Addr}
    {osl : Array (Option Value)} {N ps : List Str} {sp : Sp} (lk : K.lookup f = some ⟨oc, od, .func (PySem.W.fnOf name qual params body scope dV kV doc pm an cdv ct), osl⟩) (hcd : PySem.W.codeIn K cdv qual = true) (S : FnScope N ps scope)
    (len : ∀ vs H Q E, sp vs H Q E → vs.length = ps.length)
    (hbody : ∀ (A : Around) (outer : List Env) (s : Shared) (H : Hp) (vs : List V) (Q : VK) (E : XK), Room k (A.deeper (envOfC qual scope s.heap.objs.size f cdv)) → sp vs H Q E →
      ∃ t, PSs (cxOf CX P w K mg base N qual scope f cdv A outer s H E) body t ∧ t { nx := fun _ H' => Q .non H', rt := Q } (start N vs) H) :
    FnOk P w K mg base CX (k + 1) f (PySem.W.fnOf name qual params body scope dV kV doc pm an cdv ct) ps sp := by
  refine ⟨len, fun A outer s H args us vs Q E hr e0 hb r hsp => ?_⟩
  have hl := len _ _ _ _ hsp
  have KX : K.In s.heap := e0.mod.kin.keeps fun b o e => (e0.bs b o e).1
  have lim : s.heap.NoLimit := e0.mod.nolimit.keeps fun b o e => (e0.bs b o e).1
  have hkind : ∀ y ∈ ps.zip us, scope.names.lookup y.1 = some .local ∨ (scope.names.lookup y.1 = some .cell ∧ ((cellsFrom (s.heap.objs.size + 1) scope.names []).lookup y.1).isSome = true) := fun ⟨n, v⟩ hy => by
    rcases S.par n (List.of_mem_zip hy).1 with q | q
    · exact .inl q
    · exact .inr ⟨q, PySem.W.cellsFrom_some _ _ _ (.inl q)⟩
  refine codeAny_call_function hr.depth (KX _ _ lk) rfl S.co S.gen rfl (PySem.W.codeRec_of KX hcd) (hb _ _ _ _ ?_)
  refine wpAny_newFunctionEnv_cells S.kind hkind fun env he s1 x => ?_
  subst he
  refine ⟨lim.keeps x.toInCall.keep, codeAny_func ?_⟩
  obtain ⟨t, ht, hq⟩ := hbody A outer s H vs Q E (hr.deeper _) hsp
  have I : Inv (cxOf CX P w K mg base N qual scope f cdv A outer s H E) [] (start N vs) H s1 := inv_start S hr.hd e0 hl r x
  refine wpAny_mono (ht [] s1 (start N vs) H _ I hq) (fun fl s' hs => ?_) fun e s' hs => hs
  have fin : ∀ {σ' : St} {H' : Hp} {v : V} {u : Value}, Inv (cxOf CX P w K mg base N qual scope f cdv A outer s H E) [] σ' H' s' → RelV v u → Q v H' → CE outer P w H s Q u s' :=
    fun {σ' H' v u} J rv q => ⟨v, H', J.os, J.bare, J.base, J.hok, rv, q⟩
  cases fl with
  | ret u =>
    obtain ⟨v, σ', H', J, rv, q⟩ := hs
    exact fin J rv q
  | next =>
    obtain ⟨σ', H', J, q⟩ := hs
    exact fin (v := V.non) (u := Value.none) J rfl q
  | brk =>
    obtain ⟨_, _, _, q⟩ := hs
    exact False.elim q
  | cont =>
    obtain ⟨_, _, _, q⟩ := hs
    exact False.elim q
end L2

namespace L2
open PySem PySem.Spec PyProof.Rows
section
variable {X : Cx} {x : Str} {p pos : Pos} {e : Expr} {es : List Expr} {t : TA} {id T : String} {r : List V → Hp → VK → Prop}

def tCB (r : List V → Hp → VK → Prop) (t : TA) : TE := fun σ H Q => t σ H fun vs H1 => r vs H1 Q
/-- f(e, ..), f a built-in function -/
theorem pe_callB (hc : CallR X (.builtin id) r) (hg : Gl X x) (hm : X.mg x = none) (hv : bootBuiltins x = some (.builtin id)) (ha : PA X (e :: es) t) (hn : x ≠ "__name__" := by decide) (hdb : (x == ("__debug__" : Str)) = false := by decide)
    (he : starEach (e :: es) X.env = (false, eval e X.env) :: starEach es X.env := by rfl) (hpl : (backTo pos (starEach es X.env)).any (·.1) = false := by rfl) : PE X (.Call (.Name x p) (e :: es) [] pos) (tCB r t) := by
  intro pins s σ H Q I h
  refine wpAny_Call_Name_kw (ld_blt I hg hm hv ?_ hn hdb)
  exact PyProof.Rows.callWith_builtin1 (thn (ha pos pins s σ H _ I h) fun us s1 ⟨vs, H1, I1, r1, q1⟩ => hc pins s1 σ H1 vs us Q I1 r1 q1) he hpl
/-- T(e, ..), T a built-in type -/
theorem pe_callTy (hc : CallR X (.type T) r) (hg : Gl X x) (hm : X.mg x = none) (hv : bootBuiltins x = some (.type T)) (ha : PA X (e :: es) t) (hn : x ≠ "__name__" := by decide) (hdb : (x == ("__debug__" : Str)) = false := by decide)
    (he : starEach (e :: es) X.env = (false, eval e X.env) :: starEach es X.env := by rfl) (hpl : (backTo pos (starEach es X.env)).any (·.1) = false := by rfl) : PE X (.Call (.Name x p) (e :: es) [] pos) (tCB r t) := by
  intro pins s σ H Q I h
  refine wpAny_Call_Name_kw (ld_blt I hg hm hv ?_ hn hdb)
  exact PyProof.Rows.callWith_type1 (thn (ha pos pins s σ H _ I h) fun us s1 ⟨vs, H1, I1, r1, q1⟩ => hc pins s1 σ H1 vs us Q I1 r1 q1) he hpl
end
end L2

namespace HT
open PySem PyProof.Rows

/-- t < u of tuples of ints -/
def lexLt : List Int → List Int → Bool
  | [], [] => false
  | [], _ :: _ => true
  | _ :: _, [] => false
  | x :: xs, y :: ys => if x = y then lexLt xs ys else decide (x < y)
section
open PySem.SeqAt
open PySem.AutoSeq1 (wpAny_loadPart')
open PySem.MeetsSeq PySem.MeetsSeq2 PySem.MeetsSeq3

end

section
variable {prog : Program} {w : World} {A : Around} {E : Value → Shared → Prop} {s : Shared}

/-! ### t[a:b], not the whole -/
/-- a slice's bound as a place among n (d where it is left out) -/
def sIx (n d : Nat) : Option Int → Nat
  | none => d
  | some v => if v < 0 then (v + (n : Int)).toNat else min v.toNat n
end
end HT

namespace L2
open PySem PySem.Spec PyProof.Rows

/-! ### the parts of a slice -/
abbrev TO := St → Hp → (Option Int → Hp → Prop) → Prop
/-- a slice's part (left out, or an int) -/
def PO (X : Cx) (e : Option Expr) (t : TO) : Prop :=
  ∀ (pins : List (Addr × Obj)) (s : Shared) (σ : St) (H : Hp) (Q : Option Int → Hp → Prop), Inv X pins σ H s → t σ H Q →
    wpAny (model X.prog X.w) X.A (evalPart e X.env) (fun u s' => ∃ o H', Inv X pins σ H' s' ∧ IsPart u o ∧ Q o H') X.xe s
def tNoPart : TO := fun _ H Q => Q none H
def tPart (t : TE) : TO := fun σ H Q => t σ H fun x H1 => ∃ i, x = .int i ∧ Q (some i) H1

theorem intsAre_of {ns : List Int} : ∀ {us : List Value}, Vals (ns.map V.int) us → IntsAre us ns := by
  induction ns with
  | nil => intro us r; rw [List.map_nil] at r; cases r; exact .nil
  | cons n ns ih =>
    intro us r
    rw [List.map_cons] at r
    cases r with
    | cons r1 r2 =>
      obtain ⟨t, e⟩ := r1
      subst e
      exact .cons n t (ih r2)

section
variable {X : Cx} {e : Expr} {te : TE} {lo hi : Option Expr} {tl th : TO} {pos p2 : Pos}

theorem po_some (h : PE X e te) : PO X (some e) (tPart te) := by
  intro pins s σ H Q I hw
  rw [evalPart_some]
  refine thn (h pins s σ H _ I hw) fun u s1 ⟨x, H1, I1, r1, q1⟩ => ?_
  obtain ⟨i, rfl, q⟩ := q1
  obtain ⟨t, rfl⟩ := r1
  exact ⟨some i, H1, I1, .int i t, q⟩

/-- what a slice of a value is, by values: the slice object stands at sl -/
def SlR (X : Cx) (r : V → Option Int → Option Int → Hp → VK → Prop) : Prop :=
  ∀ (pins : List (Addr × Obj)) (s : Shared) (σ : St) (H : Hp) (x : V) (v vl vu : Value) (lo hi : Option Int) (sl : Addr) (Q : VK), Inv X pins σ H s → RelV x v → s.heap.IsSliceOf sl vl vu .none → IsPart vl lo → IsPart vu hi → r x lo hi H Q →
    ∃ T id, typeLookup (.type T) "__getitem__" = pure (some (.builtin id)) ∧ s.TypeIs v T ∧ wpAny (model X.prog X.w) X.A (getItem v (.ref sl)) (EP X pins σ Q) X.xe s
def tSl (r : V → Option Int → Option Int → Hp → VK → Prop) (te : TE) (tl th : TO) : TE := fun σ H Q => te σ H fun x H1 => tl σ H1 fun l H2 => th σ H2 fun u H3 => r x l u H3 Q
/-- a[lo:hi], any a -/
theorem pe_slice {r : V → Option Int → Option Int → Hp → VK → Prop} (hr : SlR X r) (he : PE X e te) (hl : PO X lo tl) (hu : PO X hi th) : PE X (.Subscript e (.Slice lo hi none p2) pos) (tSl r te tl th) := by
  intro pins s σ H Q I h
  refine Subscript_ (thn (he pins s σ H _ I h) fun v s1 ⟨x, H1, I1, r1, q1⟩ => ?_)
  refine wpAny_Slice (thn (hl pins s1 σ H1 _ I1 q1) fun vl s2 ⟨l, H2, I2, pl, q2⟩ => thn (hu pins s2 σ H2 _ I2 q2) fun vu s3 ⟨u, H3, I3, pu, q3⟩ => ?_)
  rw [evalPart_none]
  refine wpAny_pure ?_
  have I4 : Inv X pins σ H3 { s3 with heap := s3.heap.push { cls := .type "slice", data := .fields #[vl, vu, .none] } } := I3.kept (t' := s3.toks) fun b ob q => Heap.get?_push_of_some _ q
  obtain ⟨T, id, hT, ht, hg⟩ := hr pins { s3 with heap := s3.heap.push { cls := .type "slice", data := .fields #[vl, vu, .none] } } σ H3 x v vl vu l u s3.heap.objs.size Q I4 r1 (Heap.IsSliceOf.new ..) pl pu q3
  show wpAny (model X.prog X.w) X.A (subscriptTail e (.Slice lo hi none p2) v (.ref s3.heap.objs.size)) (EP X pins σ Q) X.xe { s3 with heap := s3.heap.push { cls := .type "slice", data := .fields #[vl, vu, .none] } }
  exact tail_any (ops := [.ref s3.heap.objs.size, v]) ht hT hg (by with_unfolding_all rfl)

/-- the items of xs[lo:hi] -/
def cutV (xs : List V) (lo hi : Option Int) : List V := (xs.drop (HT.sIx xs.length 0 lo)).take (HT.sIx xs.length xs.length hi - HT.sIx xs.length 0 lo)
theorem cutV_length (xs : List V) (lo hi : Option Int) : (cutV xs lo hi).length ≤ xs.length := by
  unfold cutV
  rw [List.length_take, List.length_drop]
  omega
/-- t[lo:hi], not the whole of it (the whole would be t itself) -/
def rSlT (K : PySem.W.Frag) : V → Option Int → Option Int → Hp → VK → Prop := fun x lo hi H Q => ∃ a xs, x = .ref a ∧ SqT K H a xs ∧
  ¬ (HT.sIx xs.length 0 lo = 0 ∧ HT.sIx xs.length xs.length hi = xs.length) ∧ ∀ p, H p = none → Q (.ref p) (upd H p (.tup (cutV xs lo hi)))
/-! ### t < u, t + u -/
def rLtT (K : PySem.W.Frag) : R2 := fun x y H Q => ∃ a b ns ms, x = .ref a ∧ y = .ref b ∧ SqT K H a (ns.map V.int) ∧ SqT K H b (ms.map V.int) ∧ Q (.bl (HT.lexLt ns ms)) H
/-- t + u, t not empty: u empty gives t itself -/
def rCatT (K : PySem.W.Frag) : R2 := fun x y H Q => ∃ a b xs ys, x = .ref a ∧ y = .ref b ∧ SqT K H a xs ∧ SqT K H b ys ∧ xs ≠ [] ∧ xs.length + ys.length ≤ sizeLine ∧
  (ys = [] → Q (.ref a) H) ∧ (ys ≠ [] → ∀ p, H p = none → Q (.ref p) (upd H p (.tup (xs ++ ys))))
end
end L2

namespace L2
open PySem PySem.Spec PyProof.Rows

/-! ### places -/
/-- the place that an index of any sign means -/
def ixN (n : Nat) (i : Int) : Option Nat := if 0 ≤ i then (if i < n then some i.toNat else none) else if -(n : Int) ≤ i then some (i + n).toNat else none
def atI {α : Type} (xs : List α) (i : Int) : Option α := (ixN xs.length i).bind fun j => xs[j]?
theorem ixN_seq {n : Nat} {i : Int} {j : Nat} (h : ixN n i = some j) : seqIndex? i n = some j ∧ j < n ∧ -(n : Int) ≤ i ∧ i < n := by
  unfold ixN at h
  by_cases h0 : 0 ≤ i
  · rw [if_pos h0] at h
    by_cases h1 : i < n
    · rw [if_pos h1] at h
      have e : i.toNat = j := Option.some.inj h
      exact ⟨by rw [seqIndex_of h0 h1, e], by omega, by omega, h1⟩
    · rw [if_neg h1] at h; cases h
  · rw [if_neg h0] at h
    by_cases h1 : -(n : Int) ≤ i
    · rw [if_pos h1] at h
      have e : (i + n).toNat = j := Option.some.inj h
      exact ⟨by rw [seqIndex_neg (by omega) h1, e], by omega, h1, by omega⟩
    · rw [if_neg h1] at h; cases h
theorem atI_get {α : Type} {xs : List α} {i : Int} {v : α} (h : atI xs i = some v) : ∃ j, seqIndex? i xs.length = some j ∧ xs[j]? = some v ∧ j < xs.length ∧ -(xs.length : Int) ≤ i ∧ i < xs.length := by
  unfold atI at h
  cases e : ixN xs.length i with
  | none => rw [e] at h; cases h
  | some j =>
    rw [e] at h
    obtain ⟨h1, h2, h3, h4⟩ := ixN_seq e
    exact ⟨j, h1, h, h2, h3, h4⟩
theorem atI_nat {α : Type} {xs : List α} {j : Nat} {v : α} (h : xs[j]? = some v) : atI xs (j : Int) = some v := by
  have hj : j < xs.length := (List.getElem?_eq_some_iff.mp h).1
  have e : ixN xs.length (j : Int) = some j := by
    unfold ixN
    rw [if_pos (by omega), if_pos (by omega)]; simp
  unfold atI; rw [e]; exact h
/-! ### what may be subscripted -/
/-- what stands as an index of a plain subscript -/
def PlainIx (b : Expr) : Prop := ∀ o i, subscripted b false o i = operate [o, i] (getItem o i)
/-- a subscript by values -/
def IxR (X : Cx) (r : R2) : Prop :=
  ∀ (value slice : Expr) (pins : List (Addr × Obj)) (s : Shared) (σ : St) (H : Hp) (x y : V) (v u : Value) (Q : VK), Inv X pins σ H s → RelV x v → RelV y u → r x y H Q →
    subscripted slice false v u = operate [v, u] (getItem v u) → wpAny (model X.prog X.w) X.A (subscriptTail value slice v u) (EP X pins σ Q) X.xe s
/-- a call of a builtin's method by values: the receiver, the arguments -/
def MtR (X : Cx) (id : String) (r : V → List V → Hp → VK → Prop) : Prop :=
  ∀ (pins : List (Addr × Obj)) (s : Shared) (σ : St) (H : Hp) (x : V) (xs : List V) (v : Value) (us : List Value) (Q : VK), Inv X pins σ H s → RelV x v → Vals xs us → r x xs H Q →
    wpAny (model X.prog X.w) X.A (call (.builtin id) (v :: us)) (EP X pins σ Q) X.xe s
section
variable {X : Cx} {a b : Expr} {ta tb : TE} {pos : Pos}
/-- a[b] -/
theorem pe_ix {r : R2} (hr : IxR X r) (ha : PE X a ta) (hb : PE X b tb) (hs : PlainIx b) : PE X (.Subscript a b pos) (tOp r ta tb) := by
  intro pins s σ H Q I h
  exact Subscript_ (binT ha hb I h fun v u s2 x y H2 I2 rx ry q => hr a b pins s2 σ H2 x y v u Q I2 rx ry q (hs _ _))

def rIxL (K : PySem.W.Frag) : R2 := fun x y H Q => ∃ p xs i v, x = .ref p ∧ y = .int i ∧ SqL K H p xs ∧ atI xs i = some v ∧ Q v H
def rIxT (K : PySem.W.Frag) : R2 := fun x y H Q => ∃ p xs i v, x = .ref p ∧ y = .int i ∧ SqT K H p xs ∧ atI xs i = some v ∧ Q v H
def rIxS : R2 := fun x y H Q => ∃ z i c, x = .str z ∧ y = .int i ∧ z.length ≤ sizeLine ∧ atI z.cps.toList i = some c ∧ Q (.str ⟨#[c]⟩) H
theorem ix_list : IxR X (rIxL X.K) := by
  intro value slice pins s σ H x y v u Q I rx ry h hs
  obtain ⟨p, xs, i, z, rfl, rfl, hq, he, q⟩ := h
  cases rx
  obtain ⟨t, rfl⟩ := ry
  obtain ⟨its, r, pl, hz⟩ := I.list hq
  obtain ⟨j, h1, h2, h3, h4, h5⟩ := atI_get he
  obtain ⟨w, ew, rw'⟩ := r.get h2
  have hl := r.length
  have hn := line63
  have fin : EP X pins σ Q w s := ⟨z, H, I, rw', q⟩
  by_cases h0 : 0 ≤ i
  · have hj : i.toNat = j := by
      rw [seqIndex_of h0 h5] at h1
      exact Option.some.inj h1
    exact item_listR pl.isList h0 (by omega) (by rw [hj]; simpa using ew) fin hs
  · have hj : (i + (its.toArray.size : Int)).toNat = j := by
      rw [seqIndex_neg (by omega) h4] at h1
      rw [List.size_toArray, ← hl]
      exact Option.some.inj h1
    exact subscriptTail_builtinR (x := w) pl.isList.typeIs slot_list_getitem.lookup
      (wpAny_getItem_list_neg (Q := fun r s' => r = w ∧ EP X pins σ Q r s') pl.isList (by omega) (by rw [List.size_toArray] <;> omega) (by omega) (by rw [hj]; simpa using ew) ⟨rfl, fin⟩) hs
theorem ix_tup : IxR X (rIxT X.K) := by
  intro value slice pins s σ H x y v u Q I rx ry h hs
  obtain ⟨p, xs, i, z, rfl, rfl, hq, he, q⟩ := h
  cases rx
  obtain ⟨t, rfl⟩ := ry
  obtain ⟨its, r, pl, hz⟩ := I.tuple hq
  obtain ⟨j, h1, h2, h3, h4, h5⟩ := atI_get he
  obtain ⟨w, ew, rw'⟩ := r.get h2
  have hl := r.length
  have hn := line63
  have fin : EP X pins σ Q w s := ⟨z, H, I, rw', q⟩
  exact subscriptTail_builtinR (x := w) pl.typeIs slot_tuple_getitem.lookup
    (getItem_tuple (j := j) (Q := fun r s' => r = w ∧ EP X pins σ Q r s') pl (by omega) (by omega) (by rw [List.size_toArray, ← hl]; exact h1) (by simpa using ew) ⟨rfl, fin⟩) hs
/-- list, tuple or str -/
def rIx (K : PySem.W.Frag) : R2 := fun x y H Q => rIxL K x y H Q ∨ rIxT K x y H Q ∨ rIxS x y H Q
/-! ### xs[i] = v, any sign -/
def rSetL : V → V → V → Hp → (Hp → Prop) → Prop := fun o i v H Q => ∃ p xs k j, o = .ref p ∧ i = .int k ∧ H p = some (.lst xs) ∧ ixN xs.length k = some j ∧ Q (upd H p (.lst (xs.set j v)))
/-! ### slices -/
theorem slice_bounds (lo hi : Option Int) (n : Nat) : (sliceBounds lo hi none n).1 = ((HT.sIx n 0 lo : Nat) : Int) ∧ (sliceBounds lo hi none n).2.1 = ((HT.sIx n n hi : Nat) : Int) ∧ (sliceBounds lo hi none n).2.2 = 1 := by
  refine ⟨?_, ?_, rfl⟩
  · cases lo with
    | none => simp [sliceBounds, HT.sIx]
    | some i =>
      simp only [sliceBounds, HT.sIx, Option.getD_none, show (1 : Int) > 0 by decide, if_true]
      by_cases h : i < 0
      · simp only [h, if_true] <;> omega
      · simp only [h, if_false] <;> omega
  · cases hi with
    | none => simp [sliceBounds, HT.sIx]
    | some i =>
      simp only [sliceBounds, HT.sIx, Option.getD_none, show (1 : Int) > 0 by decide, if_true]
      by_cases h : i < 0
      · simp only [h, if_true] <;> omega
      · simp only [h, if_false] <;> omega
theorem slicePick_cut (its : List Value) (lo hi : Option Int) : slicePick its.toArray lo hi none = ((its.drop (HT.sIx its.length 0 lo)).take (HT.sIx its.length its.length hi - HT.sIx its.length 0 lo)).toArray := by
  obtain ⟨h1, h2, h3⟩ := slice_bounds lo hi its.toArray.size
  unfold slicePick
  rw [h1, h2, h3]
  simp only [sliceRange_one, pick_run, List.size_toArray] <;> rfl
/-- xs[lo:hi] of a list: a new list -/
def rSlL (K : PySem.W.Frag) : V → Option Int → Option Int → Hp → VK → Prop := fun x lo hi H Q => ∃ a xs, x = .ref a ∧ SqL K H a xs ∧ ∀ p, H p = none → Q (.ref p) (upd H p (.lst (cutV xs lo hi)))
theorem sl_list : SlR X (rSlL X.K) := by
  intro pins s σ H x v vl vu lo hi sl Q I rx hs pl pu h
  obtain ⟨a, xs, rfl, hx, q⟩ := h
  cases rx
  obtain ⟨its, r, ht, hz⟩ := I.list hx
  have hlen := r.length
  refine ⟨"list", _, slot_list_getitem.lookup, ht.isList.typeIs, ?_⟩
  refine wpAny_getItem_list_slice ht.isList hs pl pu .none (by simp) ?_ (by rw [List.size_toArray] <;> omega)
  rw [slicePick_cut, ← hlen]
  refine ⟨.ref s.heap.objs.size, _, I.laid (t' := s.toks) (o := .lst (cutV xs lo hi)) (fun b ob q => Heap.get?_push_of_some _ q) (Nat.le_refl _) ?_, rfl, q _ (I.hok.fresh (Nat.le_refl _))⟩
  exact ⟨Nat.le_trans (cutV_length xs lo hi) hz, _, 0, (r.drop (HT.sIx xs.length 0 lo)).take (HT.sIx xs.length xs.length hi - HT.sIx xs.length 0 lo), Heap.get?_push_size _ rfl⟩

/-! ### in, not in: flat items -/
def flatV : V → Bool
  | .non => true
  | .bl _ => true
  | .int _ => true
  | .str _ => true
  | _ => false
/-- == of flat values -/
def eqV : V → V → Bool
  | .non, .non => true
  | .bl a, .bl b => a == b
  | .bl a, .int b => (if a then 1 else 0) == b
  | .int a, .bl b => a == (if b then 1 else 0)
  | .int a, .int b => a == b
  | .str a, .str b => a == b
  | _, _ => false
/-- the items' answers, read off the values (a value's own answer does not lean on its token) -/
def eqU (x : V) (u : Value) : Bool := match u with
  | .none => eqV .non x
  | .bool b => eqV (.bl b) x
  | .int i _ => eqV (.int i) x
  | .str z _ => eqV (.str z) x
  | _ => false
def inV (x : V) (xs : List V) : Bool := xs.any fun y => eqV y x
/-- x in a list or tuple of flat items -/
def rIn (K : PySem.W.Frag) (neg : Bool) : R2 := fun x y H Q => ∃ p xs, y = .ref p ∧ (SqL K H p xs ∨ SqT K H p xs) ∧ flatV x = true ∧ xs.all flatV = true ∧ Q (.bl (if neg then !inV x xs else inV x xs)) H
/-! ### len, list(x), tuple(x) of any list or tuple that is read -/
theorem call_len_seq : CallR X (.builtin "len") (fun xs H Q => ∃ p ys, xs = [.ref p] ∧ (SqL X.K H p ys ∨ SqT X.K H p ys) ∧ Q (.int ys.length) H) := by
  intro pins s σ H xs us Q I r h
  obtain ⟨p, ys, rfl, hq, q⟩ := h
  obtain ⟨u, rfl, rx⟩ := vals1 r
  cases rx
  have hn := line63
  rcases hq with hq | hq
  · obtain ⟨its, r', pl, hz⟩ := I.list hq
    have hlen := r'.length
    exact Calls.call_len_list pl.isList (by simp only [List.size_toArray] <;> omega) ⟨.int ys.length, H, I.tok _, ⟨s.toks + 1, by rw [List.size_toArray, hlen]⟩, q⟩
  · obtain ⟨its, r', pl, hz⟩ := I.tuple hq
    have hlen := r'.length
    exact len_tuple pl (by simp only [List.size_toArray] <;> omega) ⟨.int ys.length, H, I.tok _, ⟨s.toks + 1, by rw [List.size_toArray, hlen]⟩, q⟩
theorem call_list_of : CallR X (.type "list") (fun xs H Q => ∃ p ys, xs = [.ref p] ∧ (SqL X.K H p ys ∨ SqT X.K H p ys) ∧ ∀ l, H l = none → Q (.ref l) (upd H l (.lst ys))) := by
  intro pins s σ H xs us Q I r h
  obtain ⟨p, ys, rfl, hq, q⟩ := h
  obtain ⟨u, rfl, rx⟩ := vals1 r
  cases rx
  have fin : ∀ (its : List Value), Vals ys its → ys.length ≤ sizeLine → ∀ (h' : Heap) (c' : Nat), (∀ b o', s.heap.get? b = some o' → h'.get? b = some o') →
      h'.get? s.heap.objs.size = some { cls := .type "list", dict := none, data := .seq its.toArray c', slots := #[] } → EP X pins σ Q (.ref s.heap.objs.size) { s with heap := h' } := fun its r' hz h' c' kp e =>
    ⟨.ref s.heap.objs.size, _, I.laid (t' := s.toks) kp (Nat.le_refl _) (show ObjOk X.prog X.w _ h' _ (.lst ys) from ⟨hz, its, c', r', e⟩), rfl, q _ (I.hok.fresh (Nat.le_refl _))⟩
  rcases hq with hq | hq
  · obtain ⟨its, r', pl, hz⟩ := I.list hq
    have hlen := r'.length
    obtain ⟨o, ho, hc, n, hd⟩ := pl.isList
    exact call_list_seq p (.inl rfl) ho hc hd (fun h' c' kp e => fin its r' hz h' c' kp e) (by simp only [List.size_toArray] <;> omega)
  · obtain ⟨its, r', pl, hz⟩ := I.tuple hq
    have hlen := r'.length
    obtain ⟨o, ho, hc, n, hd⟩ := pl
    exact call_list_seq p (.inr rfl) ho hc hd (fun h' c' kp e => fin its r' hz h' c' kp e) (by simp only [List.size_toArray] <;> omega)
theorem call_tuple_of : CallR X (.type "tuple") (fun xs H Q => ∃ p ys, xs = [.ref p] ∧ ((SqL X.K H p ys ∧ ∀ l, H l = none → Q (.ref l) (upd H l (.tup ys))) ∨ (SqT X.K H p ys ∧ Q (.ref p) H))) := by
  intro pins s σ H xs us Q I r h
  obtain ⟨p, ys, rfl, h⟩ := h
  obtain ⟨u, rfl, rx⟩ := vals1 r
  cases rx
  rcases h with ⟨hq, q⟩ | ⟨hq, q⟩
  · obtain ⟨its, r', pl, hz⟩ := I.list hq
    have hlen := r'.length
    refine call_tuple_list pl.isList (fun h' kp => ?_) (by simp only [List.size_toArray] <;> omega)
    have I1 : Inv X pins σ H { s with heap := h' } := I.kept (t' := s.toks) kp
    have I2 : Inv X pins σ (upd H h'.objs.size (.tup ys)) { s with heap := h'.push { cls := .type "tuple", data := .seq its.toArray } } :=
      I1.laid (t' := s.toks) (fun b o e => Heap.get?_push_of_some _ e) (Nat.le_refl _) (show ObjOk X.prog X.w _ _ _ (.tup ys) from ⟨hz, its, r', IsTup.new _ _⟩)
    exact ⟨.ref h'.objs.size, _, I2, rfl, q _ (I1.hok.fresh (Nat.le_refl _))⟩
  · obtain ⟨its, r', pl, hz⟩ := I.tuple hq
    exact call_tuple_same pl ⟨.ref p, H, I, rfl, q⟩

/-! ### the call of a builtin's method: o.m(..) -/
/-- the value is of that builtin type -/
def tyV (K : PySem.W.Frag) (T : String) (x : V) (H : Hp) : Prop := match x with
  | .str _ => T = "str"
  | .int _ => T = "int"
  | .ref p => (T = "list" ∧ ∃ xs, SqL K H p xs) ∨ (T = "tuple" ∧ ∃ o, K.lookup p = some o ∧ o.cls = .type "tuple" ∧ o.dict = none) ∨
      (T = "dict" ∧ ((∃ kvs, H p = some (.dK kvs)) ∨ ∃ kvs, H p = some (.dT kvs))) ∨ (T = "set" ∧ ∃ S n, H p = some (.set S n))
  | _ => False
theorem tyV_is {pins : List (Addr × Obj)} {σ : St} {H : Hp} {s : Shared} {T : String} {x : V} {v : Value} (I : Inv X pins σ H s) (r : RelV x v) (ty : tyV X.K T x H) :
    s.TypeIs v T ∧ ∀ a, v = .ref a → ∃ ob, s.heap.get? a = some ob ∧ ob.dict = none := by
  cases x with
  | str z =>
    obtain ⟨t, rfl⟩ := r
    cases (show T = "str" from ty)
    exact ⟨typeIs_str s z t, fun _ e => nomatch e⟩
  | int i =>
    obtain ⟨t, rfl⟩ := r
    cases (show T = "int" from ty)
    exact ⟨typeIs_int s i t, fun _ e => nomatch e⟩
  | ref p =>
    cases r
    rcases ty with ⟨rfl, xs, hq⟩ | ⟨rfl, o, hk, hc, hd⟩ | ⟨rfl, hk⟩ | ⟨rfl, S, n, hk⟩
    · obtain ⟨its, _, pl, _⟩ := I.list hq
      refine ⟨pl.isList.typeIs, fun a e => ?_⟩
      cases e
      obtain ⟨o, n, e, c, hd, _⟩ := pl
      exact ⟨o, e, hd⟩
    · refine ⟨⟨o, I.kIn p o hk, hc⟩, fun a e => ?_⟩
      cases e
      exact ⟨o, I.kIn _ o hk, hd⟩
    · have z : ∃ o, s.heap.get? p = some o ∧ o.ExactDict := by
        rcases hk with ⟨kvs, hk⟩ | ⟨kvs, hk⟩
        · obtain ⟨_, _, _, _, o, _, _, e, ex, _⟩ := I.hok p _ hk
          exact ⟨o, e, ex⟩
        · obtain ⟨_, _, _, _, o, _, _, e, ex, _⟩ := I.hok p _ hk
          exact ⟨o, e, ex⟩
      obtain ⟨o, e, ex⟩ := z
      refine ⟨⟨o, e, ex.1⟩, fun a e2 => ?_⟩
      cases e2
      exact ⟨o, e, ex.2.1⟩
    · obtain ⟨o, _, _, _, e, ex, _⟩ := I.hok p _ hk
      refine ⟨⟨o, e, ex.1⟩, fun a e2 => ?_⟩
      cases e2
      exact ⟨o, e, ex.2.1⟩
  | _ => exact False.elim ty
def tBM0 (K : PySem.W.Frag) (T : String) (r : V → List V → Hp → VK → Prop) (to : TE) : TE := fun σ H Q => to σ H fun x H1 => tyV K T x H1 ∧ r x [] H1 Q
def tBM (K : PySem.W.Frag) (T : String) (r : V → List V → Hp → VK → Prop) (to : TE) (t : TA) : TE := fun σ H Q => to σ H fun x H1 => tyV K T x H1 ∧ t σ H1 fun xs H2 => r x xs H2 Q
variable {o e : Expr} {es : List Expr} {to : TE} {t : TA} {name : Str} {apos cpos : Pos} {T id : String} {r : V → List V → Hp → VK → Prop}
theorem pe_bm0 (pa : PlainAttrs T) (slot : Slot T name id) (hty : typeOf (.builtin id) = pure (.type "method_descriptor")) (hm : MtR X id r) (ho : PE X o to)
    (hbase : attributeBase o name X.env (eval o X.env) = eval o X.env := by rfl) (hline : (apos.endLine == cpos.line) = true := by rfl) : PE X (.Call (.Attribute o name apos) [] [] cpos) (tBM0 X.K T r to) := by
  intro pins s σ H Q I h
  refine wpAny_Call_method0_late hbase hline (thn (ho pins s σ H _ I h) fun v s1 ⟨x, H1, I1, r1, ty, q1⟩ => ?_)
  obtain ⟨h1, h2⟩ := tyV_is I1 r1 ty
  exact ⟨T, id, pa, slot, hty, h1, h2, Calls.callWith_builtin rfl (PySem.evalArgs_none (hm pins s1 σ H1 x [] v [] Q I1 r1 .nil q1))⟩
theorem pe_bm (pa : PlainAttrs T) (slot : Slot T name id) (hty : typeOf (.builtin id) = pure (.type "method_descriptor")) (hm : MtR X id r) (ho : PE X o to) (ha : PA X (e :: es) t)
    (hbase : attributeBase o name X.env (eval o X.env) = eval o X.env := by rfl)
    (hfew : ((backTo cpos (starEach (e :: es) X.env)).all (fun x => !x.1) && (backToKw cpos (keywordEach [] X.env)).all (fun x => x.1.isSome)
      && decide ((e :: es).length + ([] : List Keyword).length + (if ([] : List Keyword).isEmpty then 0 else 1) < 30)) = true := by rfl)
    (hline : (apos.endLine == cpos.line) = true := by rfl) (hs : starEach (e :: es) X.env = (false, eval e X.env) :: starEach es X.env := by rfl) (hplain : (backTo cpos (starEach es X.env)).any (·.1) = false := by rfl) :
    PE X (.Call (.Attribute o name apos) (e :: es) [] cpos) (tBM X.K T r to t) := by
  intro pins s σ H Q I h
  refine wpAny_Call_method_late hbase hfew hline rfl (thn (ho pins s σ H _ I h) fun v s1 ⟨x, H1, I1, r1, ty, q1⟩ => ?_)
  obtain ⟨h1, h2⟩ := tyV_is I1 r1 ty
  refine ⟨T, id, pa, slot, hty, h1, h2, ?_⟩
  have hA := ha cpos pins s1 σ H1 _ I1 q1
  rw [hs] at hA ⊢
  refine Calls.callWith_builtin (by show (false || (backTo cpos (starEach es X.env)).any (·.1)) = false; rw [hplain] <;> rfl) (Calls.evalArgs_plain ?_)
  exact thn hA fun us s2 ⟨vs, H2, I2, r2, q2⟩ => hm pins s2 σ H2 x vs v us Q I2 r1 r2 q2
/- xs.append(e), list.index on a module's tuple .. are MtR facts of 06m -/
end
end L2

namespace L2
open PySem PySem.Spec PyProof.Rows

def MtM (X : Cx) (id : String) (r : V → List V → Hp → VK → Prop) : Prop :=
  ∀ (pins : List (Addr × Obj)) (s : Shared) (σ : St) (H : Hp) (x : V) (xs : List V) (v : Value) (us : List Value) (Q : VK), Inv X pins σ H s → RelV x v → Vals xs us → r x xs H Q →
    wpAny (model X.prog X.w) X.A (call (.builtin id) (v :: us)) (EP X pins σ Q) X.xe s

/-! ### lists of values -/
theorem Vals.one : ∀ {x : V} {us : List Value}, Vals [x] us → ∃ u, us = [u] ∧ RelV x u
  | _, _, .cons r .nil => ⟨_, rfl, r⟩
theorem Vals.zero : ∀ {us : List Value}, Vals [] us → us = []
  | _, .nil => rfl
section
variable {X : Cx} {pins : List (Addr × Obj)} {σ : St} {H : Hp} {s : Shared} {l b : Addr} {xs ys zs : List V}

/-! ### the two steps: a tracked list is rewritten, a new list is laid -/
theorem Inv.lset {its its' : List Value} {n : Nat} {f : Array Value → Array Value} {t' : Nat} (I : Inv X pins σ H s) (hH : H l = some (.lst xs))
    (e : s.heap.get? l = some { cls := .type "list", data := .seq its.toArray n }) (hf : f its.toArray = its'.toArray) (hv : Vals ys its') (hz : ys.length ≤ sizeLine) :
    Inv X pins σ (upd H l (.lst ys)) { s with heap := s.heap.update l (Obj.mapSeq f), toks := t' } := by
  have q := PySem.IsL.update e f
  rw [hf] at q
  refine I.write (x := l) (e := l) (by rw [hH]; exact trivial) (.inl rfl) (fun b' u hb hu => (Heap.get?_update_other s.heap (Obj.mapSeq f) (Ne.symm hb)).trans hu) ⟨_, q⟩ ?_
  exact ⟨hz, its', _, hv, q⟩
theorem Inv.fresh (I : Inv X pins σ H s) : H s.heap.objs.size = none := I.hok.fresh (Nat.le_refl _)
theorem Inv.lstM (I : Inv X pins σ H s) (hH : H l = some (.lst xs)) : xs.length ≤ sizeLine ∧ ∃ (its : List Value) (n : Nat), Vals xs its ∧ xs.length = its.length ∧ s.heap.get? l = some { cls := .type "list", data := .seq its.toArray n } := by
  obtain ⟨z, its, n, r, e⟩ := I.hok l _ hH
  exact ⟨z, its, n, r, r.length, e⟩

end

section
variable {X : Cx}

/-! ### methods -/
def rAppend : V → List V → Hp → VK → Prop := fun x vs H Q => ∃ l xs y, x = .ref l ∧ vs = [y] ∧ H l = some (.lst xs) ∧ xs.length < sizeLine ∧ Q .non (upd H l (.lst (xs ++ [y])))
theorem mt_append : MtM X "list.append" rAppend := by
  intro pins s σ H x vs v us Q I rx rv h
  obtain ⟨l, xs, y, rfl, rfl, hH, hz, q⟩ := h
  cases rx
  obtain ⟨u, rfl, ru⟩ := rv.one
  obtain ⟨z, its, n, r, hl, e⟩ := I.lstM hH
  refine call_meets F.slot_list_append ⟨_, e, rfl⟩ F.entry_list_append (F.args_list_append_2 _ _) (PySem.list_append l its.toArray n u (by rw [List.size_toArray]; omega)) ⟨e, ?_⟩
  refine ⟨.non, _, I.lset (its' := its ++ [u]) hH e (by simp) (r.append (.cons ru .nil)) ?_, rfl, q⟩
  rw [List.length_append, List.length_singleton]
  omega

def rExtend : V → List V → Hp → VK → Prop := fun x vs H Q => ∃ l b xs zs, x = .ref l ∧ vs = [.ref b] ∧ H l = some (.lst xs) ∧ H b = some (.lst zs) ∧ xs.length + zs.length ≤ sizeLine ∧ Q .non (upd H l (.lst (xs ++ zs)))
def rPop : V → List V → Hp → VK → Prop := fun x vs H Q => ∃ l xs y, x = .ref l ∧ vs = [] ∧ H l = some (.lst xs) ∧ xs[xs.length - 1]? = some y ∧ Q y (upd H l (.lst xs.dropLast))
def rPopAt : V → List V → Hp → VK → Prop := fun x vs H Q => ∃ l xs i k y, x = .ref l ∧ vs = [.int i] ∧ H l = some (.lst xs) ∧ -(2 ^ 63) ≤ i ∧ i < 2 ^ 63 ∧ seqIndex? i xs.length = some k ∧ xs[k]? = some y ∧ Q y (upd H l (.lst (xs.eraseIdx k)))
def rReverse : V → List V → Hp → VK → Prop := fun x vs H Q => ∃ l xs, x = .ref l ∧ vs = [] ∧ H l = some (.lst xs) ∧ Q .non (upd H l (.lst xs.reverse))
def rClear : V → List V → Hp → VK → Prop := fun x vs H Q => ∃ l xs, x = .ref l ∧ vs = [] ∧ H l = some (.lst xs) ∧ Q .non (upd H l (.lst []))
/-! ### list + list, list += list, list * int -/
def rCat : R2 := fun x y H Q => ∃ l b xs zs, x = .ref l ∧ y = .ref b ∧ H l = some (.lst xs) ∧ H b = some (.lst zs) ∧ xs.length + zs.length ≤ sizeLine ∧ ∀ p, H p = none → Q (.ref p) (upd H p (.lst (xs ++ zs)))
/-- a list times an int (a negative one is nothing) -/
def rRep : R2 := fun x y H Q => ∃ l k xs, x = .ref l ∧ y = .int k ∧ H l = some (.lst xs) ∧ -(2 ^ 63) ≤ k ∧ k < 2 ^ 63 ∧ xs.length * k.toNat ≤ sizeLine ∧
  ∀ p, H p = none → Q (.ref p) (upd H p (.lst (List.replicate k.toNat xs).flatten))
/-! ### del xs[i] -/
end

/-! ### xs[a:b] = ys -/
section
variable {prog : Program} {w : World} {A : Around} {E : Value → Shared → Prop} {s : Shared}
set_option maxRecDepth 100000 in
end

section
variable {X : Cx}
end
end L2
namespace L2
open PySem PySem.Spec PyProof.Rows

/-! ### lists of pairs as tables -/
section
variable {κ : Type} [DecidableEq κ]
def valV (kvs : List (κ × V)) (k : κ) : Option V := (kvs.find? fun kv => decide (kv.1 = k)).map (·.2)
/-- in its place, or at the end -/
def putK (kvs : List (κ × V)) (k : κ) (v : V) : List (κ × V) :=
  if (kvs.any fun kv => decide (kv.1 = k)) = true then kvs.map (fun kv => if kv.1 = k then (kv.1, v) else kv) else kvs ++ [(k, v)]
def dropK (kvs : List (κ × V)) (k : κ) : List (κ × V) := kvs.filter fun kv => decide (kv.1 ≠ k)

theorem valV_pos {p : κ × V} {r : List (κ × V)} {k : κ} (e : p.1 = k) : valV (p :: r) k = some p.2 := by simp [valV, List.find?_cons, e]
theorem valV_neg {p : κ × V} {r : List (κ × V)} {k : κ} (e : ¬ p.1 = k) : valV (p :: r) k = valV r k := by simp [valV, List.find?_cons, e]
theorem valV_any (k : κ) : ∀ kvs : List (κ × V), (kvs.any fun kv => decide (kv.1 = k)) = (valV kvs k).isSome
  | [] => rfl
  | p :: r => by
    rw [List.any_cons]
    by_cases e : p.1 = k
    · simp only [valV_pos e, decide_eq_true e, Bool.true_or, Option.isSome_some]
    · rw [valV_neg e, decide_eq_false e, Bool.false_or]; exact valV_any k r
theorem length_putK (kvs : List (κ × V)) (k : κ) (v : V) : (putK kvs k v).length ≤ kvs.length + 1 := by
  unfold putK
  split
  · rw [List.length_map]; omega
  · rw [List.length_append, List.length_cons, List.length_nil]; omega
theorem putK_new {kvs : List (κ × V)} {k : κ} (v : V) (h : valV kvs k = none) : putK kvs k v = kvs ++ [(k, v)] := by
  unfold putK
  rw [valV_any, h]
  exact if_neg (by decide)

theorem RelO.isSome_eq {o : Option V} {u : Option Value} (r : RelO o u) : o.isSome = u.isSome := by
  cases o with
  | none => cases u with
    | none => rfl
    | some _ => exact (show False from r).elim
  | some _ => cases u with
    | none => exact (show False from r).elim
    | some _ => rfl
theorem RelO.getD {o : Option V} {u : Option Value} {d : V} {d' : Value} (r : RelO o u) (rd : RelV d d') : RelV (o.getD d) (u.getD d') := by
  cases o with
  | none => cases u with
    | none => exact rd
    | some _ => exact (show False from r).elim
  | some _ => cases u with
    | none => exact (show False from r).elim
    | some _ => exact r

/-- raw tables of the same keys -/
theorem KV.val {kvs : List (κ × V)} {vs : List (κ × Value)} (r : KV kvs vs) (k : κ) : RelO (valV kvs k) (valueAt vs k) := by
  unfold KV at r
  induction r with
  | nil => exact True.intro
  | @cons p q ps qs h t ih =>
    obtain ⟨h1, h2⟩ := h
    by_cases e : p.1 = k
    · have e' : q.1 = k := h1.symm.trans e
      have b : valueAt (q :: qs) k = some q.2 := by simp [valueAt, List.find?_cons, e']
      rw [valV_pos e, b]; exact h2
    · have e' : ¬ q.1 = k := fun z => e (h1.trans z)
      have b : valueAt (q :: qs) k = valueAt qs k := by simp [valueAt, List.find?_cons, e']
      rw [valV_neg e, b]; exact ih
theorem KV.any {kvs : List (κ × V)} {vs : List (κ × Value)} (r : KV kvs vs) (k : κ) : (kvs.any fun kv => decide (kv.1 = k)) = vs.any fun kv => decide (kv.1 = k) := by
  unfold KV at r
  induction r with
  | nil => rfl
  | cons h t ih => rw [List.any_cons, List.any_cons, ih, h.1]
theorem KV.repl {kvs : List (κ × V)} {vs : List (κ × Value)} (r : KV kvs vs) (k : κ) {y : V} {u : Value} (ry : RelV y u) :
    KV (kvs.map fun kv => if kv.1 = k then (kv.1, y) else kv) (vs.map fun kv => if kv.1 = k then (kv.1, u) else kv) := by
  unfold KV at r ⊢
  induction r with
  | nil => exact .nil
  | @cons p q ps qs h t ih =>
    rw [List.map_cons, List.map_cons]
    refine .cons ?_ ih
    obtain ⟨h1, h2⟩ := h
    by_cases e : p.1 = k
    · rw [if_pos e, if_pos (h1.symm.trans e)]; exact ⟨h1, ry⟩
    · rw [if_neg e, if_neg (fun z => e (h1.trans z))]; exact ⟨h1, h2⟩
theorem KV.put {kvs : List (κ × V)} {vs : List (κ × Value)} (r : KV kvs vs) (k : κ) {y : V} {u : Value} (ry : RelV y u) : KV (putK kvs k y) (stored vs k u) := by
  unfold putK stored
  rw [r.any k]
  by_cases e : (vs.any fun kv => decide (kv.1 = k)) = true
  · rw [if_pos e, if_pos e]; exact r.repl k ry
  · rw [if_neg e, if_neg e]; exact Paired.snoc r ⟨rfl, ry⟩
theorem KV.length {kvs : List (κ × V)} {vs : List (κ × Value)} (r : KV kvs vs) : kvs.length = vs.length := Paired.length r
end


/-! ### a tracked dict, its keys ints and texts or tuples of these -/
theorem kV_is {P : Program} {w : World} {k : Key} {u : Value} (r : RelV (kV k) u) : (mixKind P w).is k u = true := by
  cases k with
  | inl i => obtain ⟨t, e⟩ := (show ∃ t, u = Value.int i t from r); subst e; exact mixKind_int P w i t
  | inr x => obtain ⟨t, e⟩ := (show ∃ t, u = Value.str x t from r); subst e; exact mixKind_str P w x t
theorem items_are {P : Program} {w : World} : ∀ {ks : List Key} {us : List Value}, Vals (ks.map kV) us → ItemsAre (mixKind P w) ks us
  | [], _, r => by rw [List.map_nil] at r; cases r; exact .nil
  | k :: ks, _, r => by
    rw [List.map_cons] at r
    cases r with
    | cons h t => exact .cons (kV_is h) (items_are t)

/-- raw entries of a dict with tuple keys -/
abbrev KT (H : Hp) : List (List Key × V) → List (List Key × Addr × Value) → Prop := Paired fun p q => p.1 = q.1 ∧ H q.2.1 = some (.tup (p.1.map kV)) ∧ RelV p.2 q.2.2
theorem KT.val {H : Hp} {kvs : List (List Key × V)} {xs : List (List Key × Addr × Value)} (r : KT H kvs xs) (k : List Key) : RelO (valV kvs k) ((atKey xs k).map (·.2)) := by
  induction r with
  | nil => exact True.intro
  | @cons p q ps qs h t ih =>
    obtain ⟨h1, _, h2⟩ := h
    by_cases e : p.1 = k
    · have e' : q.1 = k := h1.symm.trans e
      have b : atKey (q :: qs) k = some q.2 := by simp [atKey, List.find?_cons, e']
      rw [valV_pos e, b]; exact h2
    · have e' : ¬ q.1 = k := fun z => e (h1.trans z)
      have b : atKey (q :: qs) k = atKey qs k := by simp [atKey, List.find?_cons, e']
      rw [valV_neg e, b]; exact ih
theorem KT.repl {H : Hp} {kvs : List (List Key × V)} {xs : List (List Key × Addr × Value)} (r : KT H kvs xs) (k : List Key) {y : V} {u : Value} (ry : RelV y u) :
    KT H (kvs.map fun kv => if kv.1 = k then (kv.1, y) else kv) (xs.map (putAt k u)) := by
  induction r with
  | nil => exact .nil
  | @cons p q ps qs h t ih =>
    rw [List.map_cons, List.map_cons]
    refine .cons ?_ ih
    obtain ⟨h1, h2, h3⟩ := h
    unfold putAt
    by_cases e : p.1 = k
    · rw [if_pos e, if_pos (h1.symm.trans e)]; exact ⟨h1, h2, ry⟩
    · rw [if_neg e, if_neg (fun z => e (h1.trans z))]; exact ⟨h1, h2, h3⟩
theorem KT.put {H : Hp} {kvs : List (List Key × V)} {xs : List (List Key × Addr × Value)} (r : KT H kvs xs) (k : List Key) {b : Addr} {y : V} {u : Value} (hb : H b = some (.tup (k.map kV))) (ry : RelV y u) :
    KT H (putK kvs k y) (storedH xs k b u) := by
  have e : (kvs.any fun kv => decide (kv.1 = k)) = (atKey xs k).isSome := by
    rw [valV_any, (r.val k).isSome_eq, Option.isSome_map]
  unfold putK storedH
  rw [e]
  by_cases q : (atKey xs k).isSome = true
  · rw [if_pos q, if_pos q]; exact r.repl k ry
  · rw [if_neg q, if_neg q]; exact Paired.snoc r ⟨rfl, hb, ry⟩
theorem KT.keeps {H H' : Hp} {kvs : List (List Key × V)} {xs : List (List Key × Addr × Value)} (r : KT H kvs xs) (ht : ∀ b ys, H b = some (.tup ys) → H' b = some (.tup ys)) : KT H' kvs xs :=
  Paired.mapP r fun _ _ z => ⟨z.1, ht _ _ z.2.1, z.2.2⟩

section
variable {P : Program} {w : World} {H : Hp} {h : Heap} {a : Addr}
theorem rd_of {u : HO} (ok : HOk P w H h) (e : Rd H a u) : ObjOk P w H h a u := e.ok ok
theorem dk_rd {kvs : List (Key × V)} (ok : HOk P w H h) (e : Rd H a (.dK kvs)) : kvs.length ≤ sizeLine ∧ (a == sysModules) = false ∧ ∃ vs, KV kvs vs ∧ h.DictOf (mixKind P w) a vs :=
  show ObjOk P w H h a (.dK kvs) from rd_of ok e
theorem dk_of {kvs : List (Key × V)} (ok : HOk P w H h) (e : H a = some (.dK kvs)) : kvs.length ≤ sizeLine ∧ (a == sysModules) = false ∧ ∃ vs, KV kvs vs ∧ h.DictOf (mixKind P w) a vs := dk_rd ok (.inl e)
/-- a tracked tuple of ints and texts is a key -/
theorem key_of {ks : List Key} (ok : HOk P w H h) (e : H a = some (.tup (ks.map kV))) : (tupleKind (mixKind P w)).is h ks a := by
  obtain ⟨_, its, r, o, h1, h2, n, h3⟩ := (show ObjOk P w H h a (.tup (ks.map kV)) from ok a _ e)
  exact ⟨o, its.toArray, n, h1, h2, h3, by simpa using items_are r⟩
theorem dt_rd {kvs : List (List Key × V)} (ok : HOk P w H h) (e : Rd H a (.dT kvs)) : kvs.length ≤ sizeLine ∧ (a == sysModules) = false ∧
    ∃ xs, KT H kvs xs ∧ h.DictOfH (tupleKind (mixKind P w)) a xs := by
  obtain ⟨z, y, xs, r, o, es, ep, h1, h2, h3, h4, h5⟩ := (show ObjOk P w H h a (.dT kvs) from rd_of ok e)
  refine ⟨z, y, xs, r, o, es, ep, h1, h2, h3, h4, fun x hx => ?_, h5⟩
  have all : ∀ {l : List (List Key × V)} {m : List (List Key × Addr × Value)}, KT H l m → ∀ x ∈ m, (tupleKind (mixKind P w)).is h x.1 x.2.1 := by
    intro l m q
    induction q with
    | nil => intro x hx; exact nomatch hx
    | @cons p q ps qs hq t ih =>
      intro x hx
      rcases List.mem_cons.mp hx with e | hx
      · subst e
        exact key_of ok (by rw [← hq.1]; exact hq.2.1)
      · exact ih x hx
  exact all r x hx
theorem dt_of {kvs : List (List Key × V)} (ok : HOk P w H h) (e : H a = some (.dT kvs)) : kvs.length ≤ sizeLine ∧ (a == sysModules) = false ∧
    ∃ xs, KT H kvs xs ∧ h.DictOfH (tupleKind (mixKind P w)) a xs := dt_rd ok (.inl e)
end

/-- what the dict at a holds at the key y -/
def DGet (H : Hp) (a : Addr) (y : V) (r : Option V) : Prop :=
  (∃ kvs k, Rd H a (.dK kvs) ∧ y = kV k ∧ r = valV kvs k) ∨ ∃ kvs k b, Rd H a (.dT kvs) ∧ y = .ref b ∧ H b = some (.tup (k.map kV)) ∧ r = valV kvs k
/-- the heap behind a[y] = v -/
def DPut (H : Hp) (a : Addr) (y v : V) (H' : Hp) : Prop :=
  (∃ kvs k, H a = some (.dK kvs) ∧ y = kV k ∧ kvs.length < sizeLine ∧ H' = upd H a (.dK (putK kvs k v))) ∨
  ∃ kvs k b, H a = some (.dT kvs) ∧ y = .ref b ∧ H b = some (.tup (k.map kV)) ∧ kvs.length < sizeLine ∧ H' = upd H a (.dT (putK kvs k v))
theorem DGet.t {H : Hp} {a b : Addr} {kvs : List (List Key × V)} {k : List Key} (e : H a = some (.dT kvs)) (eb : H b = some (.tup (k.map kV))) : DGet H a (.ref b) (valV kvs k) := .inr ⟨kvs, k, b, .inl e, rfl, eb, rfl⟩
theorem DPut.t {H : Hp} {a b : Addr} {kvs : List (List Key × V)} {k : List Key} {v : V} (e : H a = some (.dT kvs)) (eb : H b = some (.tup (k.map kV))) (hl : kvs.length < sizeLine) :
    DPut H a (.ref b) v (upd H a (.dT (putK kvs k v))) := .inr ⟨kvs, k, b, e, rfl, eb, hl, rfl⟩


section
variable {X : Cx} {pins : List (Addr × Obj)} {σ : St} {H : Hp} {s : Shared} {a : Addr} {y v : V} {u r : Value} {o : Option V} {A : Around} {E : Value → Shared → Prop}

theorem Inv.big (I : Inv X pins σ H s) : sysModules < s.heap.objs.size := by
  have h : mainGlobals < s.heap.objs.size := (I.mod.glob.keeps I.bk).lt
  exact Nat.lt_trans (by decide) h

/-- a dict's object is replaced -/
theorem d_write {h' : Heap} {t' : Nat} {ob : HO} (I : Inv X pins σ H s) (mu : Mut (H a)) (hs : Heap.SameBut a s.heap h') (he : ∃ q, h'.get? a = some q) (new : ObjOk X.prog X.w (upd H a ob) h' a ob) :
    Inv X pins σ (upd H a ob) { s with heap := h', toks := t' } :=
  I.write (x := a) (e := a) mu (.inl rfl) (fun b q hb z => (hs.2 b hb).trans z) he new
theorem dk_new {P : Program} {w : World} {H' : Hp} {h' : Heap} {kvs : List (Key × V)} {vs : List (Key × Value)} (z : kvs.length ≤ sizeLine) (hd : (a == sysModules) = false) (rel : KV kvs vs) (dd : h'.DictOf (mixKind P w) a vs) :
    ObjOk P w H' h' a (.dK kvs) := ⟨z, hd, vs, rel, dd⟩
/-- d[y] = v -/
theorem d_setItem {H' : Hp} {Q : Unit → Shared → Prop} (hu : A.units + 1 < cLine) (I : Inv X pins σ H s) (g : DPut H a y v H') (ry : RelV y u) (rv : RelV v r) (h : ∀ s', Inv X pins σ H' s' → Q () s') :
    wpAny (model X.prog X.w) A (setItem (.ref a) u r) Q E s := by
  rcases g with ⟨kvs, k, e, ey, l, eH⟩ | ⟨kvs, k, b, e, ey, eb, l, eH⟩
  · subst ey eH
    obtain ⟨z, hd, vs, rel, dd⟩ := dk_of I.hok e
    have hz : vs.length ≤ sizeLine := by rw [← rel.length]; exact z
    have hl : (putK kvs k v).length ≤ sizeLine := by have := length_putK kvs k v; omega
    refine wpAny_setItem_pairs (hsz := hz) (kV_is ry) dd fun h' dd' hs => h _ ?_
    have he : ∃ q, h'.get? a = some q := let ⟨q, _, _, hq, _⟩ := dd'; ⟨q, hq⟩
    exact d_write I (by rw [e]; exact True.intro) hs he (dk_new hl hd (rel.put k rv) dd')
  · subst ey eH
    cases (show u = Value.ref b from ry)
    obtain ⟨z, hd, xs, rel, dd⟩ := dt_of I.hok e
    have hz : xs.length ≤ sizeLine := by rw [← Paired.length rel]; exact z
    have hl : (putK kvs k v).length ≤ sizeLine := by have := length_putK kvs k v; omega
    refine wpAny_setItem_heap (hsz := hz) (tupleKind_room_in1 hu) (key_of I.hok eb) dd fun h' dd' hs => h _ ?_
    obtain ⟨q, es, ep, hq, h2, h3, h4, _, h5⟩ := dd'
    refine d_write I (by rw [e]; exact True.intro) hs ⟨q, hq⟩ ⟨hl, hd, _, (rel.put k eb rv).keeps fun c ys ec => ?_, q, es, ep, hq, h2, h3, h4, h5⟩
    rw [upd_ne (ne_of ec e (fun z => nomatch z))]
    exact ec
end

section
variable {X : Cx} {pins : List (Addr × Obj)} {σ : St} {H : Hp} {s : Shared} {a : Addr} {kvs : List (Key × V)} {k : Key} {u : Value} {A : Around} {E : Value → Shared → Prop}
end


/-! ### readings and rules -/
/-- the element of a subscription, not a slice -/
def NoSl (i : Expr) : Prop := ∀ ov iv, subscripted i false ov iv = operate [ov, iv] (getItem ov iv)
/-- d[y] -/
def tDGet (td ty : TE) : TE := fun σ H Q => td σ H fun x H1 => ty σ H1 fun y H2 => ∃ a v, x = .ref a ∧ DGet H2 a y (some v) ∧ Q v H2
/-- y in d, y not in d -/
def tDIn (ty td : TE) : TE := fun σ H Q => ty σ H fun y H1 => td σ H1 fun x H2 => ∃ a o, x = .ref a ∧ DGet H2 a y o ∧ Q (.bl o.isSome) H2
def tDNotIn (ty td : TE) : TE := fun σ H Q => ty σ H fun y H1 => td σ H1 fun x H2 => ∃ a o, x = .ref a ∧ DGet H2 a y o ∧ Q (.bl (!o.isSome)) H2
/-- d[y] = v -/
def sDPut (td ty tv : TE) : TS := fun D σ H => tv σ H fun v H1 => td σ H1 fun x H2 => ty σ H2 fun y H3 => ∃ a H4, x = .ref a ∧ DPut H3 a y v H4 ∧ D.nx σ H4
/-- d[y] op= v -/
def sDAug (td ty tv : TE) (rd : V → V → Hp → VK → Prop) : TS := fun D σ H => td σ H fun x H1 => ty σ H1 fun y H2 => ∃ a v, x = .ref a ∧ DGet H2 a y (some v) ∧
  tv σ H2 fun y2 H3 => rd v y2 H3 fun z H4 => ∃ H5, DPut H4 a y z H5 ∧ D.nx σ H5
/-- del d[y] -/
def sDDel (td ty : TE) : TS := fun D σ H => td σ H fun x H1 => ty σ H1 fun y H2 => ∃ a kvs k, x = .ref a ∧ H2 a = some (.dK kvs) ∧ y = kV k ∧ (valV kvs k).isSome = true ∧ D.nx σ (upd H2 a (.dK (dropK kvs k)))

section
variable {X : Cx} {o i e value : Expr} {pos pos' tpos : Pos} {td ty tv : TE}
theorem ps_dput (hu : X.A.units + 1 < cLine) (ho : PE X o td) (hi : PE X i ty) (hv : PE X value tv) (hs : swapsWith value (some (.Subscript o i pos')) pos.line X.env = pure false) :
    PS X (.Assign [.Subscript o i pos'] value pos) (sDPut td ty tv) := by
  intro pins s σ H D I h
  refine wpAny_Assign_Subscript (thn (hv pins s σ H _ I h) fun r s1 ⟨v, H1, I1, rv, q1⟩ => thn (ho pins s1 σ H1 _ I1 q1) fun u s2 ⟨x, H2, I2, rx, q2⟩ => thn (hi pins s2 σ H2 _ I2 q2) fun iv s3 ⟨y, H3, I3, ry, a, H4, ex, g, q3⟩ => ?_) hs
  subst ex
  obtain rfl : u = Value.ref a := rx
  exact d_setItem hu I3 g ry rv fun s4 I4 => ⟨σ, H4, I4, q3⟩
end


/-! ### displays -/
theorem dt_empty {P : Program} {w : World} {H : Hp} (h : Heap) (hb : sysModules < h.objs.size) : ObjOk P w H (h.push { cls := .type "dict", data := .dict #[] }) h.objs.size (.dT []) :=
  ⟨Nat.zero_le _, beq_eq_false_iff_ne.mpr (Ne.symm (Nat.ne_of_lt hb)), [], .nil, _, #[], 0, Heap.get?_push_size _ rfl, ⟨rfl, rfl, rfl⟩, rfl, rfl, List.nodup_nil⟩
/-- {}, to be a dict of the kind that is wanted -/
def tDNewK : TE := fun _ H Q => ∀ p, H p = none → Q (.ref p) (upd H p (.dK []))
def tDNewT : TE := fun _ H Q => ∀ p, H p = none → Q (.ref p) (upd H p (.dT []))
section
variable {X : Cx} {pos : Pos}
theorem pe_dnewT : PE X (.Dict [] [] pos) tDNewT := fun pins s σ H Q I h =>
  wpAny_Dict_empty ⟨.ref s.heap.objs.size, _, I.laid (a := s.heap.objs.size) (o := .dT []) (t' := s.toks) (fun _ _ q => Heap.get?_push_of_some _ q) (Nat.le_refl _) (dt_empty s.heap I.big), rfl, h _ (I.hok.fresh (Nat.le_refl _))⟩
end

/-- the pairs of a display, from the left -/
def tPairs : List (TE × TE) → St → Hp → (List (V × V) → Hp → Prop) → Prop
  | [], _, H, Q => Q [] H
  | (tk, tv) :: r, σ, H, Q => tk σ H fun x H1 => tv σ H1 fun y H2 => tPairs r σ H2 fun ps H3 => Q ((x, y) :: ps) H3
abbrev VV : List (V × V) → List (Value × Value) → Prop := Paired fun p q => RelV p.1 q.1 ∧ RelV p.2 q.2
def PPs (X : Cx) (pos : Pos) (keys : List (Option Expr)) (values : List Expr) (trs : List (TE × TE)) : Prop :=
  ∀ (pins : List (Addr × Obj)) (s : Shared) (σ : St) (H : Hp) (Q : List (V × V) → Hp → Prop), Inv X pins σ H s → tPairs trs σ H Q →
    wpAny (model X.prog X.w) X.A (evalPairs (pairTrees keys values X.env pos)) (fun vs s' => ∃ ps H', Inv X pins σ H' s' ∧ VV ps vs ∧ Q ps H') X.xe s
def mergeK (kvs more : List (Key × V)) : List (Key × V) := more.foldl (fun acc kv => putK acc kv.1 kv.2) kvs
/-- {k: v, ..} with keys ints and texts; the new dict stands empty while the pairs are made -/
def tDisp (trs : List (TE × TE)) : TE := fun σ H Q => ∀ p, H p = none → tPairs trs σ (upd H p (.dK [])) fun ps H2 => H2 p = some (.dK []) ∧ ∃ kvs : List (Key × V), ps = kvs.map (fun kv => (kV kv.1, kv.2)) ∧ kvs.length ≤ 15 ∧ Q (.ref p) (upd H2 p (.dK (mergeK [] kvs)))
/-! ### methods -/
/-- a method call o.m(e) of a built-in, with one argument: what must be seen of the text -/
structure M1 (X : Cx) (o : Expr) (m : Str) (apos : Pos) (e : Expr) (cpos : Pos) : Prop where
  base : attributeBase o m X.env (eval o X.env) = eval o X.env
  few : ((backTo cpos (starEach [e] X.env)).all (fun x => !x.1) && (backToKw cpos (keywordEach [] X.env)).all (fun x => x.1.isSome)
    && decide (([e] : List Expr).length + ([] : List Keyword).length + (if ([] : List Keyword).isEmpty then 0 else 1) < 30)) = true
  line : (apos.endLine == cpos.line) = true
  trees : backTo cpos (starEach [e] X.env) = [(false, eval e X.env)]
structure M2 (X : Cx) (o : Expr) (m : Str) (apos : Pos) (e f : Expr) (cpos : Pos) : Prop where
  base : attributeBase o m X.env (eval o X.env) = eval o X.env
  few : ((backTo cpos (starEach [e, f] X.env)).all (fun x => !x.1) && (backToKw cpos (keywordEach [] X.env)).all (fun x => x.1.isSome)
    && decide (([e, f] : List Expr).length + ([] : List Keyword).length + (if ([] : List Keyword).isEmpty then 0 else 1) < 30)) = true
  line : (apos.endLine == cpos.line) = true
  trees : backTo cpos (starEach [e, f] X.env) = [(false, eval e X.env), (false, eval f X.env)]

/-- a is a dict, whatever its keys -/
def IsD (H : Hp) (a : Addr) : Prop := (∃ kvs, Rd H a (.dK kvs)) ∨ ∃ kvs, Rd H a (.dT kvs)
theorem isD_at {X : Cx} {pins : List (Addr × Obj)} {σ : St} {H : Hp} {s : Shared} {a : Addr} (I : Inv X pins σ H s) (d : IsD H a) :
    s.TypeIs (.ref a) "dict" ∧ (∀ b, Value.ref a = .ref b → ∃ ob, s.heap.get? b = some ob ∧ ob.dict = none) ∧ (a == sysModules) = false := by
  rcases d with ⟨kvs, e⟩ | ⟨kvs, e⟩
  · obtain ⟨_, hd, vs, _, dd⟩ := dk_rd I.hok e
    refine ⟨dd.typeIs, fun b q => ?_, hd⟩
    cases q
    obtain ⟨ob, _, _, h1, h2, _⟩ := dd
    exact ⟨ob, h1, h2.2.1⟩
  · obtain ⟨_, hd, xs, _, dd⟩ := dt_rd I.hok e
    refine ⟨dd.typeIs, fun b q => ?_, hd⟩
    cases q
    obtain ⟨ob, _, _, h1, h2, _⟩ := dd
    exact ⟨ob, h1, h2.2.1⟩

section
variable {X : Cx} {pins : List (Addr × Obj)} {σ : St} {H : Hp} {s : Shared} {a : Addr} {y d : V} {u r : Value} {o : Option V} {A : Around} {E : Value → Shared → Prop}
/-- d.get(y) -/
theorem d_get1 {Q : Value → Shared → Prop} (hu : A.units + 1 < cLine) (I : Inv X pins σ H s) (g : DGet H a y o) (ry : RelV y u) (h : ∀ w' s', Inv X pins σ H s' → RelV (o.getD .non) w' → Q w' s') :
    wpAny (model X.prog X.w) A (call (.builtin "dict.get") [.ref a, u]) Q E s := by
  rcases g with ⟨kvs, k, e, ey, l⟩ | ⟨kvs, k, b, e, ey, eb, l⟩
  · subst ey
    obtain ⟨z, hd, vs, rel, dd⟩ := dk_rd I.hok e
    refine call_meetsIn PySem.F.slot_dict_get dd.typeIs PySem.F.entry_dict_get (PySem.F.args_dict_get_2 _ _) (meets_dict_get (mixKind X.prog X.w) a (kV_is ry) hd) ⟨_, dd.mapOf, h _ _ (I.tok _) ?_⟩
    rw [l]
    exact (rel.val k).getD rfl
  · subst ey
    cases (show u = Value.ref b from ry)
    obtain ⟨z, hd, xs, rel, dd⟩ := dt_rd I.hok e
    refine call_meetsIn PySem.F.slot_dict_get dd.typeIs PySem.F.entry_dict_get (PySem.F.args_dict_get_2 _ _) (meetsH_dict_get (tupleKind (mixKind X.prog X.w)) a b hd) ⟨tupleKind_room_in1 hu, k, xs, key_of I.hok eb, dd, h _ _ (I.tok _) ?_⟩
    rw [l]
    exact (rel.val k).getD rfl
end

def tDGet1 (td ty : TE) : TE := fun σ H Q => td σ H fun x H1 => ∃ a, x = .ref a ∧ IsD H1 a ∧ ty σ H1 fun y H2 => ∃ o, DGet H2 a y o ∧ Q (o.getD .non) H2
def tDGet2 (td ty tx : TE) : TE := fun σ H Q => td σ H fun x H1 => ∃ a, x = .ref a ∧ IsD H1 a ∧ ty σ H1 fun y H2 => tx σ H2 fun z H3 => ∃ o, DGet H3 a y o ∧ Q (o.getD z) H3
/-- d.pop(k): there; d.pop(k, x): there or not -/
def tDPop1 (td ty : TE) : TE := fun σ H Q => td σ H fun x H1 => ∃ a, x = .ref a ∧ IsD H1 a ∧ ty σ H1 fun y H2 => ∃ kvs k v, H2 a = some (.dK kvs) ∧ y = kV k ∧ valV kvs k = some v ∧ Q v (upd H2 a (.dK (dropK kvs k)))
def tDPop2 (td ty tx : TE) : TE := fun σ H Q => td σ H fun x H1 => ∃ a, x = .ref a ∧ IsD H1 a ∧ ty σ H1 fun y H2 => tx σ H2 fun z H3 => ∃ kvs k, H3 a = some (.dK kvs) ∧ y = kV k ∧
  (∀ v, valV kvs k = some v → Q v (upd H3 a (.dK (dropK kvs k)))) ∧ (valV kvs k = none → Q z H3)
section
variable {X : Cx} {o e f : Expr} {apos cpos : Pos} {td ty tx : TE}
theorem pe_dget1 (hu : X.A.units + 1 < cLine) (ho : PE X o td) (he : PE X e ty) (m : M1 X o "get" apos e cpos) : PE X (.Call (.Attribute o "get" apos) [e] [] cpos) (tDGet1 td ty) := by
  intro pins s σ H Q I h
  refine wpAny_Call_method m.base m.few m.line PySem.F.plainAttrs_dict PySem.F.slot_dict_get PySem.F.type_dict_get (thn (ho pins s σ H _ I h) fun u s1 ⟨x, H1, I1, rx, a, ex, d, q1⟩ => ?_)
  subst ex
  obtain rfl : u = Value.ref a := rx
  obtain ⟨t1, t2, _⟩ := isD_at I1 d
  refine ⟨t1, t2, ?_⟩
  rw [m.trees]
  refine Calls.callWith_builtin rfl (Calls.evalArgs_plain (Calls.spliced_cons (thn (he pins s1 σ H1 _ I1 q1) fun iv s2 ⟨y, H2, I2, ry, ov, g, q2⟩ => Calls.spliced_nil ?_)))
  exact d_get1 hu I2 g ry fun w' s3 I3 rw' => ⟨_, H2, I3, rw', q2⟩
end

/-! ### dict(d): a copy -/
section
variable {X : Cx} {pins : List (Addr × Obj)} {σ : St} {H : Hp} {s : Shared} {a : Addr} {kvs : List (Key × V)} {A : Around} {E : Value → Shared → Prop}
end


section
variable {X : Cx} {pins : List (Addr × Obj)} {σ : St} {H : Hp} {s : Shared} {a : Addr} {y : V} {u : Value} {A : Around} {E : Value → Shared → Prop}
end
end L2


namespace Att
open PySem PySem.W PySem.Calls PyProof.Rows

/-! ### the script -/
theorem ints_of_wellAll {P : Params} {h : Heap} : ∀ (ns : List Int) (vs : List Value), WellAll P h vs (ns.map WData.int) → IntsAre vs ns := by
  intro ns
  induction ns with
  | nil =>
    intro vs w
    rw [List.map_nil] at w
    cases w
    exact .nil
  | cons n ns ih =>
    intro vs w
    rw [List.map_cons] at w
    cases w with
    | cons a b =>
      cases a
      exact .cons _ _ (ih _ b)

theorem script_of {l : OpenLaw} {n : Nat} (hn : l.most = some n) {P : Params} {h : Heap} {args : List WData} {vals : List Value}
    (hpre : l.row.toRowW.claim.pre args = true) (hwl : WellAll P h vals args) :
    ∃ a vs ns, vals = [Value.ref a] ∧ args = [WData.list (ns.map WData.int)] ∧ h.get? a = some { cls := .type "list", data := .seq vs.toArray } ∧ IntsAre vs ns ∧ ns.length ≤ n := by
  have hsh : WShape.hasAll [] args [.list .int] = true := (pre_splitW hpre).1
  have hc : l.pre.holds [] { args := args } = true := (pre_splitW hpre).2
  obtain ⟨d, r, rfl, h1, h2⟩ := hasAllW_cons hsh
  obtain rfl := hasAllW_nil h2
  obtain ⟨xs, rfl, h3⟩ := hasW_list h1
  obtain ⟨ns, rfl⟩ := items_int h3
  have hlen : ns.length ≤ n := by
    unfold OpenLaw.pre at hc
    have h4 : (WTm.not (.lt (.lit (.int (n : Int))) (.len (.arg 0)))).holds [] { args := [.list (ns.map .int)] } = true := by
      have h4 := (holds_andW hc).1
      rw [hn] at h4
      exact h4
    have h5 := condW_of h4 (w_not (w_lt w_lit (w_len_list (w_arg rfl))))
    rw [List.length_map] at h5
    refine Nat.le_of_not_lt fun q => ?_
    have q' : (n : Int) < ((ns.length : Nat) : Int) := by omega
    first
      | (rw [decide_eq_true q'] at h5; exact absurd h5 (by decide))
      | (simp at h5; omega)
  cases hwl with
  | cons w1 w2 =>
    cases w2
    cases w1 with
    | list ho hall => exact ⟨_, _, ns, rfl, rfl, ho, ints_of_wellAll ns _ hall, hlen⟩

theorem post_true (l : OpenLaw) (args : List WData) : l.row.toRowW.claim.post args (.bool true) args = true :=
  postW_of (r := l.row.toRowW) (X := (true == true))
    (show WShape.has [] (.bool true) .bool = true by first | rfl | decide | simp [WShape.has, WShape.arms, WShape.armsAll])
    (show (WTm.eq .res (.lit (.bool true))).value [] { args := args, res := some (.bool true), after := args } = some (.bool (true == true)) from w_eq_bool (w_res rfl) w_lit) rfl

/-! ### the attachment: holds_open's last premise (the goal 'hc' behind k_head) from a wpAny of the law's body -/
/-- the same from a codeAny of the CALL (for a layer whose function contracts speak of calls) -/
theorem attach_call {l : OpenLaw} {n : Nat} {q : Program} {loose : List Str} {XP : (Str → Option Value) → Heap → Prop} {YP : World → Heap → Prop} {d : DefRec}
    (hn : l.most = some n) (hdf : d.params.defaults = [])
    (call : ∀ (w : World) (s₀ s₁ : Shared) (mg mb : Str → Option Value) (fa : Addr) (o : Obj) (pm cd doc : Value) (a : Addr) (vs : List Value) (ns : List Int),
      Ground q loose [] XP w s₀ mg mb s₁.heap → YP w s₁.heap →
      s₁.heap.get? fa = some o → o.data = .func (docDef d.name d.params d.body d.scope pm cd doc) → s₁.heap.CodeRec cd d.name → mg d.name = some (.ref fa) →
      s₁.heap.get? a = some { cls := .type "list", data := .seq vs.toArray } → IntsAre vs ns → ns.length ≤ n → s₁.gens = #[] →
      codeAny (model l.prog w) callerA (.call (.ref fa) ⟨[.ref a], []⟩) (fun r s' => r = .ok (.ret (.bool true)) ∧ OldK s₁.heap s'.heap ∧ s'.os = s₁.os ∧ AllBare s'.gens) s₁) :
    WalkO q loose XP YP l.row.toRowW d [] (fun f vs => PySem.call f vs) := by
  intro w s₀ s₁ mg mb G Y fa o pm cd doc dV kV ho hd hcd hD hmg hg args vals as hpre hlay hrd hwl hlo
  obtain rfl : dV = .none := Dflts.none hD hdf
  obtain rfl : kV = .none := Dflts.noKw hD
  obtain ⟨a, vs, ns, rfl, rfl, hobj, hints, hlen⟩ := script_of hn hpre hwl
  refine enter_call (codeAny_mono (call w s₀ s₁ mg mb fa o pm cd doc a vs ns G Y ho (fd_plain hd) hcd hmg hobj hints hlen hg) fun r s' hq => ?_)
  obtain ⟨rfl, h2, h3, h4⟩ := hq
  exact ⟨.inl ⟨.bool true, .bool true, [], rfl, fun _ => rfl, .bool true, post_true l _, fun _ => ⟨List.Pairwise.nil, fun _ hm => (nomatch hm)⟩⟩, h2, h3, h4⟩

/-! ### rules over ANY heap (no ledger) from facts about the written part K: the library's own take a ledger (News) for what they write -/
section
variable {prog : Program} {w : World} {A : Around} {E : Value → Shared → Prop} {s : Shared} {K : Frag}

/-! the whole heap as the ledger: makes every rule that writes through a ledger a rule over any heap -/
def noObjs (h : Heap) : Heap := { h with objs := #[] }
def ledger (h : Heap) (L d : Addr) : List (Addr × Obj) := (List.range h.objs.size).filterMap fun a => if a = L ∨ a = d then none else (h.get? a).map fun o => (a, o)
end
end Att

namespace L2
open PySem PySem.Spec PyProof.Rows

theorem vals_ints : ∀ {vs : List Value} {ns : List Int}, IntsAre vs ns → Vals (ns.map V.int) vs
  | _, _, .nil => .nil
  | _, _, .cons n t h => .cons ⟨t, rfl⟩ (vals_ints h)

/-- nothing is tracked but the script, known to the object (or it is an object of the module) -/
def Only (H : Hp) : Prop := ∀ b, H b = none ∨ ∃ o xs, H b = some (.frz o (.lst xs))

/-- THE HEAD: the law's promise, at the heap behind the top. F, the promise of the law's def, may use that base is part of the heap (so K.In base, base.Ns mainGlobals mg stand in Mod) -/
theorem law_call {P : Program} {w : World} {K : PySem.W.Frag} {mg mb : Str → Option Value} {CX : CXT} {k : Nat} {fa a : Addr} {fd : FuncData} {x : Str} {sp : Sp} {s₁ : Shared} {vs : List Value} {ns : List Int}
    (KX : K.In s₁.heap) (hns : s₁.heap.Ns mainGlobals mg) (hb : s₁.heap.Ns builtinsNs mb) (hbb : ∀ x : Str, x ≠ "__name__" → mb x = bootBuiltins x) (hlim : s₁.heap.NoLimit) (hg : s₁.gens = #[])
    (ha : s₁.heap.get? a = some { cls := .type "list", data := .seq vs.toArray }) (hi : IntsAre vs ns) (hl : ns.length ≤ sizeLine) (hr : Room k callerA)
    (F : ∀ base : Heap, K.In base → base.Ns mainGlobals mg → FnOk P w K mg base CX k fa fd [x] sp) (hbind : ∀ (s : Shared) (u : Value), BindsTo s fd ⟨[u], []⟩ [(x, u)])
    (hsp : ∀ H : Hp, Only H → SqL K H a (ns.map V.int) → sp [.ref a] H (fun v _ => v = .bl true) fun _ _ _ => False)
    (hCX : ∀ H e s', CX [] H s₁ (fun _ _ _ => False) e s' → False) :
    codeAny (model P w) callerA (.call (.ref fa) ⟨[.ref a], []⟩) (fun r s' => r = .ok (.ret (.bool true)) ∧ OldK s₁.heap s'.heap ∧ s'.os = s₁.os ∧ AllBare s'.gens) s₁ := by
  have rv := vals_ints hi
  have lenV := hi.length
  -- from an abstract heap in which nothing but the script may be tracked
  have core : ∀ H : Hp, Only H → SqL K H a (ns.map V.int) → HOk P w H s₁.heap → (∀ b, H b ≠ none → b = a) → (H a ≠ none → K.lookup a = none) →
      codeAny (model P w) callerA (.call (.ref fa) ⟨[.ref a], []⟩) (fun r s' => r = .ok (.ret (.bool true)) ∧ OldK s₁.heap s'.heap ∧ s'.os = s₁.os ∧ AllBare s'.gens) s₁ := by
    intro H hO hS hok hA hK
    have base_of : ∀ {b : Addr} {o : Obj}, s₁.heap.get? b = some o → H b = none → (hidT s₁.heap H).get? b = some o := fun e n => hidT_get e n
    have noA : ∀ {b : Addr} {o : Obj} {es : Array DictEntry} {ep : Nat}, s₁.heap.get? b = some o → o.data = .dict es ep → H b = none := fun {b o es ep} e d => by
      cases q : H b with
      | none => rfl
      | some u =>
        have e' : b = a := hA b (by rw [q]; simp)
        subst e'
        rw [ha] at e; cases e
        have d' : Data.seq vs.toArray _ = Data.dict es ep := d
        cases d'
    have nsK : ∀ {b : Addr} {m : Str → Option Value}, s₁.heap.Ns b m → (hidT s₁.heap H).Ns b m := fun {b m} ⟨o, es, ep, e, d, r⟩ => ⟨o, es, ep, base_of e (noA e d), d, r⟩
    have hKb : K.In (hidT s₁.heap H) := fun b o e => base_of (KX b o e) (by
      cases q : H b with
      | none => rfl
      | some u =>
        have e' : b = a := hA b (by rw [q]; simp)
        subst e'
        rw [hK (by rw [q]; simp)] at e; cases e)
    have hM : Mod K mg (hidT s₁.heap H) := ⟨hKb, nsK hns, ⟨mb, nsK hb, hbb⟩, let ⟨mc, h1, h2⟩ := hlim; ⟨mc, nsK h1, h2⟩⟩
    have e0 : Env0 P w K mg (hidT s₁.heap H) callerA [] s₁ H := ⟨rfl, hM, fun b o e => of_hidT e, Nat.le_of_eq (hidT_size _ _), trivial, fun b hb => absurd (show b ∈ ([] : List Addr) from hb) (by simp), hok, .of_eq hg⟩
    refine codeAny_mono ((F _ hKb (nsK hns)).run callerA [] s₁ H ⟨[.ref a], []⟩ [.ref a] [.ref a] _ _ hr e0 (hbind s₁ (.ref a)) (.cons rfl .nil) (hsp H hO hS)) fun r s' h => ?_
    cases r with
    | error e => exact (hCX H e s' h).elim
    | ok fl =>
      cases fl with
      | next => exact False.elim h
      | brk => exact False.elim h
      | cont => exact False.elim h
      | ret u =>
        obtain ⟨v, H', os, bare, un, hok', r', q⟩ := h
        have q' : v = .bl true := q
        subst q'
        obtain rfl : u = Value.bool true := r'
        refine ⟨rfl, OldK.of_keep fun b o e => ?_, os, bare⟩
        cases q : H b with
        | none => exact un.keep b o e q (by intro z; exact absurd (show b ∈ ([] : List Addr) from z) (by simp)) (by simp)
        | some u =>
          rcases hO b with z | ⟨ob, xs, z⟩
          · rw [q] at z; cases z
          · have z2 := un.frzs b ob _ z
            obtain ⟨e1, _⟩ := hok b _ z
            obtain ⟨e2, _⟩ := hok' b _ z2
            rw [e] at e1; cases e1
            exact e2
  cases hk : K.lookup a with
  | some o =>
    -- the script is one of the module's own objects
    have e := KX a o hk
    rw [ha] at e
    cases e
    refine core (fun _ => none) (fun _ => .inl rfl) (.inr ⟨_, vs.toArray, _, hk, rfl, rfl, rfl, by rw [List.size_toArray, lenV]; exact hl, by simpa using rv⟩) (fun b u z => by have z' : (none : Option HO) = some u := z; cases z') (fun b z => absurd rfl z) fun z => absurd rfl z
  | none =>
    refine core (fun b => if b = a then some (.frz { cls := .type "list", data := .seq vs.toArray } (.lst (ns.map V.int))) else none) (fun b => ?_) (.inl (.inr ⟨{ cls := .type "list", data := .seq vs.toArray }, if_pos rfl⟩)) (fun b u z => ?_) (fun b z => ?_) fun _ => hk
    · by_cases hb : b = a
      · exact .inr ⟨_, _, if_pos hb⟩
      · exact .inl (if_neg hb)
    · by_cases hb : b = a
      · have z' := (if_pos hb).symm.trans z
        cases z'
        subst hb
        exact ⟨ha, by rw [List.length_map]; exact hl, vs, _, rv, ha⟩
      · have z' := (if_neg hb).symm.trans z
        cases z'
    · by_cases hb : b = a
      · exact hb
      · exact absurd (if_neg hb) z
end L2

namespace L2
open PySem PySem.Spec PyProof.Rows

abbrev KOf {K : PySem.W.Frag} {h : Heap} (_ : K.In h) : PySem.W.Frag := K

/-- the goal that k_head leaves (case hc), from the law's promise. F gives the function object fd (K's own) once, then the promise over every base -/
theorem walk_of {l : PySem.W.OpenLaw} {n k : Nat} {q : Program} {loose : List Str} {XP : (Str → Option Value) → Heap → Prop} {YP : World → Heap → Prop} {d : DefRec} {K : Params → PySem.W.Frag} {CX : World → CXT} {sp : World → Sp} {x : Str}
    (hn : l.most = some n) (hn2 : n ≤ sizeLine) (hdf : d.params.defaults = []) (hr : Room k callerA)
    (hY : ∀ (w : World) (h : Heap), YP w h → (K w.params).In h)
    (F : ∀ (w : World) (mg : Str → Option Value) (fa : Addr) (h : Heap), (K w.params).In h → h.Ns mainGlobals mg → mg d.name = some (.ref fa) →
      ∃ fd : FuncData, (∀ (s : Shared) (u : Value), BindsTo s fd ⟨[u], []⟩ [(x, u)]) ∧
        ∀ base : Heap, (K w.params).In base → base.Ns mainGlobals mg → FnOk l.prog w (K w.params) mg base (CX w) k fa fd [x] (sp w))
    (hsp : ∀ (w : World) (H : Hp) (a : Addr) (ns : List Int), ns.length ≤ n → Only H → SqL (K w.params) H a (ns.map V.int) → sp w [.ref a] H (fun v _ => v = .bl true) fun _ _ _ => False)
    (hCX : ∀ (w : World) (H : Hp) (s : Shared) (e : Value) (s' : Shared), CX w [] H s (fun _ _ _ => False) e s' → False) :
    PySem.W.WalkO q loose XP YP l.row.toRowW d [] (fun f vs => PySem.call f vs) := by
  refine Att.attach_call hn hdf fun w s₀ s₁ mg mb fa o pm cd doc a vs ns G Y ho hd hcd hmg hobj hints hlen hg => ?_
  have KX := hY w _ Y
  obtain ⟨fd, hb, hF⟩ := F w mg fa _ KX G.T.g hmg
  exact law_call KX G.T.g G.T.b G.T.builtins G.T.nolimit hg hobj hints (Nat.le_trans hlen hn2) hr hF hb (fun H hO hS => hsp w H a ns hlen hO hS) fun H e s' => hCX w H s₁ e s'
/-- the same where the promise hangs on the written part alone: (sp := My.sp_law), no hole under a binder -/
theorem walk_ofK {l : PySem.W.OpenLaw} {n k : Nat} {q : Program} {loose : List Str} {XP : (Str → Option Value) → Heap → Prop} {YP : World → Heap → Prop} {d : DefRec} {K : Params → PySem.W.Frag} {CX : CXT} {sp : PySem.W.Frag → Sp} {x : Str}
    (hn : l.most = some n) (hn2 : n ≤ sizeLine) (hdf : d.params.defaults = []) (hr : Room k callerA)
    (hY : ∀ (w : World) (h : Heap), YP w h → (K w.params).In h)
    (F : ∀ (w : World) (mg : Str → Option Value) (fa : Addr) (h : Heap), (K w.params).In h → h.Ns mainGlobals mg → mg d.name = some (.ref fa) →
      ∃ fd : FuncData, (∀ (s : Shared) (u : Value), BindsTo s fd ⟨[u], []⟩ [(x, u)]) ∧
        ∀ base : Heap, (K w.params).In base → base.Ns mainGlobals mg → FnOk l.prog w (K w.params) mg base CX k fa fd [x] (sp (K w.params)))
    (hsp : ∀ (K : PySem.W.Frag) (H : Hp) (a : Addr) (ns : List Int), ns.length ≤ n → Only H → SqL K H a (ns.map V.int) → sp K [.ref a] H (fun v _ => v = .bl true) fun _ _ _ => False)
    (hCX : ∀ (H : Hp) (s : Shared) (e : Value) (s' : Shared), CX [] H s (fun _ _ _ => False) e s' → False) :
    PySem.W.WalkO q loose XP YP l.row.toRowW d [] (fun f vs => PySem.call f vs) :=
  walk_of (K := K) (CX := fun _ => CX) (sp := fun w => sp (K w.params)) hn hn2 hdf hr hY F (fun w H a ns h1 h2 h3 => hsp (K w.params) H a ns h1 h2 h3) fun _ H s e s' => hCX H s e s'
end L2



/-! SHORT WORDS over the layer: a def of the text, its body, what a loop and a test want. -/
namespace L2
open PySem PySem.Spec PyProof.Rows

/-! ### the text by places -/
/-- the j-th statement of a class's body -/
def inClass (s : Stmt) (j : Nat) : Stmt := match s with
  | .ClassDef _ _ _ body _ _ _ _ _ _ _ => body.getD j (.Pass ⟨0, 0, 0, 0⟩)
  | _ => .Pass ⟨0, 0, 0, 0⟩
def defArgs (s : Stmt) : Arguments := match s with
  | .FunctionDef _ a _ _ _ _ _ _ _ _ => a
  | _ => { posonlyargs := [], args := [], vararg := none, kwonlyargs := [], kw_defaults := [], kwarg := none, defaults := [] }
def defBody (s : Stmt) : List Stmt := match s with
  | .FunctionDef _ _ b _ _ _ _ _ _ _ => b
  | _ => []
def defScope (s : Stmt) : Scope := match s with
  | .FunctionDef _ _ _ _ _ _ sc _ _ _ => sc
  | _ => { kind := .function, names := [], isGenerator := false, isCoroutine := false }

/-! ### no exception leaves a def -/
abbrev CX0 : CXT := fun _ _ _ _ _ _ => False
abbrev E0 : XK := fun _ _ _ => False
theorem pass0 {X : Cx} : Passes CX0 X E0 := fun _ _ _ _ _ _ _ h => h.elim

/-! ### a def (or method) of the text as it stands behind the top -/
structure Fun (K : PySem.W.Frag) (x qual : Str) (st : Stmt) (f : Addr) (fd : FuncData) : Prop where
  ex : ∃ (oc : Value) (od : Option Addr) (kV doc pm : Value) (an : Option Addr) (cdv ct : Value) (osl : Array (Option Value)),
    fd = PySem.W.fnOf x qual (defArgs st) (defBody st) (defScope st) .none kV doc pm an cdv ct ∧ K.lookup f = some ⟨oc, od, .func fd, osl⟩ ∧ PySem.W.codeIn K cdv qual = true
  kp : PySem.W.keepIn K (.ref f) = true
section
variable {P : Program} {w : World} {K : PySem.W.Frag} {mg : Str → Option Value} {base : Heap}
/-- THE RULE for a def: its body as a term of rules, and the reading of that term -/
theorem Fun.ok {x qual : Str} {st : Stmt} {f : Addr} {fd : FuncData} {N ps : List Str} {k : Nat} {sp : Sp} (F : Fun K x qual st f fd) (S : FnScope N ps (defScope st)) (len : ∀ vs H Q E, sp vs H Q E → vs.length = ps.length)
    (hbody : ∀ (cdv : Value) (A : Around) (outer : List Env) (s : Shared) (H : Hp) (vs : List V) (Q : VK) (E : XK), Room k (A.deeper (envOfC qual (defScope st) s.heap.objs.size f cdv)) → sp vs H Q E →
      ∃ t, PSs (cxOf CX0 P w K mg base N qual (defScope st) f cdv A outer s H E).nox (defBody st) t ∧ t { nx := fun _ H' => Q .non H', rt := Q } (start N vs) H) : FnOk P w K mg base CX0 (k + 1) f fd ps sp := by
  obtain ⟨oc, od, kV, doc, pm, an, cdv, ct, osl, rfl, lk, hcd⟩ := F.ex
  refine fn_of lk hcd S len fun A outer s H vs Q E hr hsp => ?_
  obtain ⟨t, h, q⟩ := hbody cdv A outer s H vs Q E hr hsp
  exact ⟨t, h.nox, q⟩
/-- how its arguments bind (no defaults): h is «fun _ _ _ _ _ _ us hl => match us, hl with | [_, _], _ => rfl», one _ a parameter -/
theorem Fun.binds {x qual : Str} {st : Stmt} {f : Addr} {fd : FuncData} {ps : List Str} (F : Fun K x qual st f fd)
    (h : ∀ (kV doc pm : Value) (an : Option Addr) (cdv ct : Value) (us : List Value), us.length = ps.length → bindArgs (PySem.W.fnOf x qual (defArgs st) (defBody st) (defScope st) .none kV doc pm an cdv ct) ⟨us, []⟩ = pure (ps.zip us)) : Binds K fd ps [] := by
  obtain ⟨oc, od, kV, doc, pm, an, cdv, ct, osl, rfl, lk, hcd⟩ := F.ex
  exact .all (h kV doc pm an cdv ct)
theorem fun_mk {x qual : Str} {st : Stmt} {f : Addr} {oc : Value} {od an : Option Addr} {osl : Array (Option Value)} {kV doc pm cdv ct : Value} (l : K.lookup f = some ⟨oc, od, .func (PySem.W.fnOf x qual (defArgs st) (defBody st) (defScope st) .none kV doc pm an cdv ct), osl⟩)
    (c : PySem.W.codeIn K cdv qual = true) (k : PySem.W.keepIn K (.ref f) = true) : Fun K x qual st f (PySem.W.fnOf x qual (defArgs st) (defBody st) (defScope st) .none kV doc pm an cdv ct) := ⟨⟨oc, od, kV, doc, pm, an, cdv, ct, osl, rfl, l, c⟩, k⟩
end
theorem small1000 {n : Nat} (h : n ≤ 1000) : n < sizeLine := Nat.lt_of_le_of_lt h (by decide)

/-! ### expressions in short: the name that stands in the i-th slot -/
section
variable {X : Cx}
theorem pv (i : Nat) {x : Str} {pos : Pos} (hN : X.N[i]? = some x := by rfl) (hv : Vis X.env.scope x := by first | exact Or.inl rfl | exact Or.inr (Or.inl rfl) | exact Or.inr (Or.inr rfl)) (hd : (x == ("__debug__" : Str)) = false := by decide)
    (hcd : (x == ("__classdict__" : Str)) = false := by decide) : PE X (.Name x pos) (tVar i) := pe_var hN hv hd hcd
end

/-! ### tests -/
/-! ### heaps -/
/-- all that was tracked is as it was -/
def Same (H H' : Hp) : Prop := ∀ b o, H b = some o → H' b = some o
theorem Same.refl (H : Hp) : Same H H := fun _ _ h => h
theorem Same.trans {H H1 H2 : Hp} (a : Same H H1) (b : Same H1 H2) : Same H H2 := fun c o h => b c o (a c o h)
theorem Same.free {H H' : Hp} (e : Same H H') {l : Addr} (h : H' l = Option.none) : H l = Option.none := by
  cases q : H l with
  | none => rfl
  | some o =>
    rw [e l o q] at h
    cases h
theorem Same.seq {K : PySem.W.Frag} {H H' : Hp} {a : Addr} {xs : List V} (e : Same H H') (h : SqL K H a xs) : SqL K H' a xs := by
  rcases h with (h | ⟨o, h⟩) | h
  · exact .inl (.inl (e _ _ h))
  · exact .inl (.inr ⟨o, e _ _ h⟩)
  · exact .inr h

section
variable {X : Cx}
end
/-! ### a dict's pairs: keys that differ -/
section
variable {κ : Type} [DecidableEq κ]
theorem nd_snoc : ∀ {l : List κ} {k : κ}, l.Nodup → ¬ k ∈ l → (l ++ [k]).Nodup
  | [], k, _, _ => by simp
  | a :: r, k, h, hk => by
    obtain ⟨h1, h2⟩ := List.nodup_cons.mp h
    show (a :: (r ++ [k])).Nodup
    refine List.nodup_cons.mpr ⟨fun m => ?_, nd_snoc h2 fun m => hk (List.mem_cons.mpr (Or.inr m))⟩
    rcases List.mem_append.mp m with q | q
    · exact h1 q
    · exact hk (List.mem_cons.mpr (Or.inl (List.mem_singleton.mp q).symm))
end
end L2


/-! ## My extension of the layer -/
namespace PySem
open Sem (wp)
theorem forIn_cl {env : Env} {f : Str × NameKind → List (Str × Addr) → Sem (ForInStep (List (Str × Addr)))}
    (h1 : ∀ x r, x.2 ≠ .free → f x r = pure (.yield r)) (h2 : ∀ x r c, x.2 = .free → env.cells.lookup x.1 = some c → f x r = pure (.yield ((x.1, c) :: r))) :
    ∀ (l : List (Str × NameKind)) (acc : List (Str × Addr)), (∀ x ∈ l, x.2 = .free → ∃ c, env.cells.lookup x.1 = some c) → (∀ x c, acc.lookup x = some c → env.cells.lookup x = some c) →
      ∃ cl, forIn l acc f = pure cl ∧ (∀ x c, cl.lookup x = some c → env.cells.lookup x = some c) ∧ (∀ x ∈ l, x.2 = .free → ∃ c, cl.lookup x.1 = some c) ∧ (∀ x c, acc.lookup x = some c → ∃ c', cl.lookup x = some c')
  | [], acc, _, ha => ⟨acc, rfl, ha, (fun _ h => nomatch h), (fun x c h => ⟨c, h⟩)⟩
  | x :: l, acc, h, ha => by
    by_cases hf : x.2 = .free
    · obtain ⟨c, hc⟩ := h x List.mem_cons_self hf
      have hself : ((x.1, c) :: acc).lookup x.1 = some c := by rw [List.lookup_cons]; simp
      have hne : ∀ y, y ≠ x.1 → ((x.1, c) :: acc).lookup y = acc.lookup y := fun y e => by
        have : (y == x.1) = false := beq_eq_false_iff_ne.mpr e
        rw [List.lookup_cons, this]
      have ha' : ∀ y d, ((x.1, c) :: acc).lookup y = some d → env.cells.lookup y = some d := fun y d hy => by
        by_cases e : y = x.1
        · subst e; rw [hself] at hy; cases hy; exact hc
        · rw [hne y e] at hy; exact ha y d hy
      obtain ⟨cl, e1, e2, e3, e4⟩ := forIn_cl h1 h2 l ((x.1, c) :: acc) (fun y hy => h y (List.mem_cons_of_mem _ hy)) ha'
      refine ⟨cl, ?_, e2, fun y hy hk => ?_, fun y d hy => ?_⟩
      · rw [List.forIn_cons, h2 x acc c hf hc, pure_bind]; exact e1
      · rcases List.mem_cons.mp hy with rfl | hy
        · exact e4 _ c hself
        · exact e3 y hy hk
      · by_cases e : y = x.1
        · subst e; exact e4 _ c hself
        · exact e4 y d (by rw [hne y e]; exact hy)
    · obtain ⟨cl, e1, e2, e3, e4⟩ := forIn_cl h1 h2 l acc (fun y hy => h y (List.mem_cons_of_mem _ hy)) ha
      refine ⟨cl, ?_, e2, fun y hy hk => ?_, e4⟩
      · rw [List.forIn_cons, h1 x acc hf, pure_bind]; exact e1
      · rcases List.mem_cons.mp hy with rfl | hy
        · exact (hf hk).elim
        · exact e3 y hy hk
theorem closure_ok {scope : Scope} {env : Env} (h : ∀ x ∈ scope.names, x.2 = .free → ∃ c, env.cells.lookup x.1 = some c) :
    ∃ cl, closureFor scope env = pure cl ∧ (∀ x c, cl.lookup x = some c → env.cells.lookup x = some c) ∧ ∀ x ∈ scope.names, x.2 = .free → ∃ c, cl.lookup x.1 = some c := by
  obtain ⟨cl, e1, e2, e3, _⟩ := forIn_cl (env := env) (f := fun x r => match x with | (name, kind) => if (kind == .free) = true then (do let c ← cellOf env name; pure (ForInStep.yield ((name, c) :: r))) else pure (ForInStep.yield r))
    (fun x r hx => by
      obtain ⟨n, k⟩ := x
      have : (k == NameKind.free) = false := by simpa using hx
      simp only [this, Bool.false_eq_true, if_false])
    (fun x r c hx hc => by
      obtain ⟨n, k⟩ := x
      have hx : k = .free := hx
      have hc : env.cells.lookup n = some c := hc
      subst hx
      simp only [cellOf, hc, beq_self_eq_true, if_true, pure_bind]) scope.names [] h (by simp)
  refine ⟨cl, ?_, e2, e3⟩
  unfold closureFor
  first
    | (rw [show _ = pure cl from e1]; rfl)
    | exact (congrArg (· >>= pure) e1).trans (pure_bind ..)

section
variable {prog : Program} {w : World} {A : Around} {R : Result → Shared → Prop} {s : Shared}
theorem codeAny_compLoop_gen {elt target iter : Expr} {scope : Scope} {pos : Pos} {it acc : Value} {env : Env} (I : Nat → Shared → Prop)
    (turn : ∀ n s, I n s → wpAny (model prog w) A (pyNext it) (fun r s₁ => match r with
      | none => R (.ok .next) s₁
      | some v => wpAny (model prog w) A (letOwnedTupleGo target it v) (fun _ s₂ => wpAny (model prog w) A (assign target env v) (fun _ s₃ => wpAny (model prog w) A (eval elt env) (fun x s₄ =>
          wpAny (model prog w) A (call (.builtin "list.append") [acc, x]) (fun _ s₅ => ∃ m, m < n ∧ I m s₅) (fun _ _ => False) s₄) (fun _ _ => False) s₃) (fun _ _ => False) s₂) (fun _ _ => False) s₁) (fun _ _ => False) s)
    (n : Nat) (h : I n s) : codeAny (model prog w) A (.compLoop (.ListComp elt [⟨target, iter, [], 0⟩] scope pos) 0 it acc env) R s := by
  refine codeAny_loop rfl I (fun n s hI => ?_) n h
  show wpAny _ _ ((compTurn (.ListComp elt [⟨target, iter, [], 0⟩] scope pos) 0 it acc env).onRaise (fun x => do noteFrame x env; theTreesLotGoes x)) _ _ s
  refine wpAny_noted ?_
  rw [compTurn_list1]
  refine wpAny_bind (wpAny_standAt (wpAny_bind (wpAny_mono (turn n s hI) (fun r s₁ h₁ => ?_) fun _ _ h' => h'.elim)))
  cases r with
  | none => exact wpAny_pure h₁
  | some v =>
    exact wpAny_bind (wpAny_mono h₁ (fun _ s₂ h₂ => wpAny_bind (wpAny_mono h₂ (fun _ s₃ h₃ => wpAny_bind (wpAny_bind (wpAny_mono h₃ (fun x s₄ h₄ => wpAny_bind (wpAny_mono h₄
      (fun _ s₅ h₅ => wpAny_pure (wpAny_pure ⟨rfl, h₅⟩)) fun _ _ h' => h'.elim)) fun _ _ h' => h'.elim))) fun _ _ h' => h'.elim)) fun _ _ h' => h'.elim)
end
end PySem

namespace L2
open PySem PySem.Spec PyProof.Rows

section
variable {X : Cx} {pins : List (Addr × Obj)} {σ : St} {H : Hp} {s : Shared} {h' : Heap}
/-- the records at ch turn, a new object is laid and tracked -/
theorem Inv.turnL {t' : Nat} {ch : List Addr} {t : Addr} {o : HO} (I : Inv X pins σ H s) (hf : ∀ b ∈ ch, FpOk X pins H b)
    (k : ∀ b u, b ∉ ch → s.heap.get? b = some u → h'.get? b = some u) (hp : s.heap.objs.size ≤ t) (new : ObjOk X.prog X.w (upd H t o) h' t o) :
    Inv X pins σ (upd H t o) { s with heap := h', toks := t' } := by
  have hn : H t = none := I.hok.fresh hp
  have nch : ∀ b u, H b = some u → b ∉ ch := fun b u e z => by rw [(hf b z).1] at e; cases e
  have net : ∀ b u, s.heap.get? b = some u → b ≠ t := fun b u e => Nat.ne_of_lt (Nat.lt_of_lt_of_le (Heap.lt_size e) hp)
  refine I.step (g' := s.gens) (d' := s.drawn) (ch := ch) (fun b hb => ?_) (fun b u _ _ hc e _ => k b u hc e) (fun b u _ _ hc e _ => ⟨u.slots, k b u hc e⟩)
    (fun b u _ e n => by rw [upd_ne (net b u e)]; exact n) (fun b u hc e => ⟨u, k b u hc e⟩)
    (fun b xs e => by rw [upd_ne (ne_of_none e hn)]; exact e) (fun b u xs e => by rw [upd_ne (ne_of_none e hn)]; exact e)
    (fun b ps e => ⟨#[], by rw [upd_ne (ne_of_none e hn), e]; simp⟩) (fun m hm => ?_) (fun b u e => ?_) I.bare
  · obtain ⟨_, f1, _, f3, f4, f5⟩ := hf b hb
    exact ⟨f3, f1, f4, f5⟩
  · obtain ⟨ob, es, ep, ho, r⟩ := hm
    exact ⟨ob, es, ep, k _ ob (fun z => (hf _ z).2.1 rfl) ho, r⟩
  · by_cases hb : b = t
    · subst hb; rw [upd_same] at e; cases e; exact new
    · rw [upd_ne hb] at e
      refine (I.hok b u e).stay (fun c v hc q => k c v ?_ q) (fun c q => by rw [upd_ne (ne_of_none q hn)]; exact q) fun c xs q => by rw [upd_ne (ne_of_none q hn)]; exact q
      rcases hc with z | z
      · rw [z]; exact nch b u e
      · exact nch c _ z
end

/-! ### enumerate of a list, its pairs taken apart on the spot -/
def Ite (K : PySem.W.Frag) (a : Addr) : It :=
  ⟨fun i H => ∃ xs x, SqL K H a xs ∧ xs[i]? = some x,
   fun i H x H' => ∃ t v, x = .ref t ∧ H t = none ∧ H' = upd H t (.tup [.int (i : Int), v]) ∧ ∀ xs, SqL K H a xs → xs[i]? = some v,
   fun i H => ∃ xs, SqL K H a xs ∧ xs.length ≤ i⟩
section
variable {X : Cx}
def iEnum (K : PySem.W.Frag) (ta : TA) : TI := fun σ H R => ta σ H fun vs H1 => ∃ a, vs = [.ref a] ∧ (∃ xs, SqL K H1 a xs) ∧ R (Ite K a) H1
end

/-! ### list comprehensions, one clause, no test -/
def relS (scope sc0 : Scope) : Scope := { scope with names := scope.names.map fun (n, k) => if (k == .free && sc0.kind == .function && sc0.names.lookup n == some .cell) then (n, .cell) else (n, k) }
def blk (X : Cx) (N' : List Str) (scope : Scope) (cl : List (Str × Addr)) (C : Addr) (s : Shared) (H : Hp) (ex : List Addr) (pins : List (Addr × Obj)) : Cx :=
  { X with N := N', s₀ := s, H₀ := H, env := compEnvC scope cl C X.env, outer := X.stack, ex := ex, fn := fun _ => false, pn := X.pn ++ pins, xe := fun _ _ => False }
def capOk (N : List Str) (sc : Scope) (p : Str × Option Nat) : Bool :=
  match p.2 with
  | none => true
  | some j => N[j]? == some p.1 && sc.names.lookup p.1 == some NameKind.free
/-- the block's names N', caps: from which slot of the def each comes (none: its own) -/
structure BlkScope (N : List Str) (sc0 sc : Scope) (N' : List Str) (caps : List (Option Nat)) : Prop where
  kind : sc.kind = .function
  names : ∀ x ∈ sc.names, x.2 = .local → sc.names.lookup x.1 = some .local
  nocell : ∀ x ∈ sc.names, x.2 ≠ .cell
  frees : ∀ x ∈ sc.names, x.2 = .free → sc0.names.lookup x.1 = some .cell ∨ sc0.names.lookup x.1 = some .free
  len : caps.length = N'.length
  cap : ((N'.zip caps).all (capOk N sc)) = true
  nd : N'.Nodup
def capσ (caps : List (Option Nat)) (σ : St) : St := caps.map fun o => o.bind fun j => σ.getD j none
def Wk (σ' σ : St) : Prop := σ'.length = σ.length ∧ ∀ (i : Nat) v, σ'[i]? = some (some v) → σ[i]? = some (some v)
theorem Wk.set {σ : St} {i : Nat} {v : V} (h : σ[i]? = some none) : Wk σ (σ.set i (some v)) := by
  refine ⟨by simp, fun j w e => ?_⟩
  by_cases hj : i = j
  · subst hj; rw [h] at e; cases e
  · rw [List.getElem?_set_ne hj]; exact e
theorem lookup_relS {names : List (Str × NameKind)} {f : Str × NameKind → Str × NameKind} (hf : ∀ x, (f x).1 = x.1) {x : Str} {k : NameKind} (h : (names.map f).lookup x = some k) : ∃ y ∈ names, y.1 = x ∧ (f y).2 = k := by
  induction names with
  | nil => simp at h
  | cons y r ih =>
    rw [List.map_cons] at h
    have hl : List.lookup x (f y :: r.map f) = match x == (f y).1 with | true => some (f y).2 | false => List.lookup x (r.map f) := by
      cases f y with
      | mk a b =>
        simp only [List.lookup_cons]
        cases x == a <;> rfl
    rw [hl] at h
    cases hb : x == (f y).1 with
    | true =>
      rw [hb] at h
      cases h
      exact ⟨y, List.mem_cons_self, by rw [← hf y]; exact (beq_iff_eq.mp hb).symm, rfl⟩
    | false =>
      rw [hb] at h
      obtain ⟨z, hz, e1, e2⟩ := ih h
      exact ⟨z, List.mem_cons_of_mem _ hz, e1, e2⟩

section
variable {X : Cx} {pins : List (Addr × Obj)} {σ : St} {H : Hp} {s : Shared} {scope : Scope} {cl : List (Str × Addr)} {C : Addr} {N' : List Str} {ex : List Addr} {caps : List (Option Nat)}
theorem blk_ok (I : Inv X pins σ H s) (S : BlkScope X.N X.env.scope scope N' caps) (hcl1 : ∀ x c, cl.lookup x = some c → X.env.cells.lookup x = some c) (hcl2 : ∀ x ∈ scope.names, x.2 = .free → ∃ c, cl.lookup x.1 = some c)
    (hC : s.heap.objs.size ≤ C) (hf : ∀ b ∈ ex, FpOk X pins H b) (hex : ∀ b ∈ ex, b < s.heap.objs.size) : (blk X N' scope cl C s H ex pins).Ok where
  mod := I.ok.mod
  kind := S.kind
  glob := I.ok.glob
  blt := I.ok.blt
  above := hC
  inj := fun x y c hx hy => I.ok.inj x y c (hcl1 x c hx) (hcl1 y c hy)
  has := fun x hx => by
    have hx' : (relS scope X.env.scope).names.lookup x = some .cell ∨ (relS scope X.env.scope).names.lookup x = some .free := hx
    have fin : ∀ k, (k = NameKind.cell ∨ k = NameKind.free) → (relS scope X.env.scope).names.lookup x = some k → ∃ c, cl.lookup x = some c := fun k hk hl => by
      obtain ⟨y, hy, e1, e2⟩ := lookup_relS (fun z => by obtain ⟨n, k⟩ := z; dsimp only; split <;> rfl) hl
      obtain ⟨n, k0⟩ := y
      have e1 : n = x := e1
      subst e1
      have hfree : k0 = .free := by
        dsimp only at e2
        split at e2
        · rename_i hcond
          simp only [Bool.and_eq_true, beq_iff_eq] at hcond
          exact hcond.1.1
        · have e2 : k0 = k := e2
          rcases hk with rfl | rfl
          · exact absurd e2 (S.nocell _ hy)
          · exact e2
      exact hcl2 _ hy hfree
    rcases hx' with h | h
    · exact fin _ (.inl rfl) h
    · exact fin _ (.inr rfl) h
  cab := fun _ _ h => by cases h
  hd := I.ok.hd
  frames := I.ok.frames
  stk := .inl rfl
  exf := fun b hb => ⟨Nat.ne_of_lt (Nat.lt_of_lt_of_le (hex b hb) hC), fun x c hc => (hf b hb).2.2.2.2.1 x c (hcl1 x c hc)⟩
  bs := I.bs
  bsz := Nat.le_trans I.ok.bsz I.sz
  noex := fun b o e hb => by
    rcases (hf b hb).2.2.2.1 with z | z
    · exact I.ok.noex b o e z
    · exact absurd (Nat.lt_of_lt_of_le (Heap.lt_size (I.ok.bs b o e).1) z) (Nat.lt_irrefl _)
  exfs := fun b hb hm => by
    rcases List.mem_cons.mp (I.stkSub b hm) with z | z
    · exact (hf b hb).2.1 z
    · exact (hf b hb).2.2.1 z
  funs := I.stack
  frf := I.stkFree

theorem capσ_get {i : Nat} {v : V} (h : (capσ caps σ)[i]? = some (some v)) : ∃ j, caps[i]? = some (some j) ∧ σ[j]? = some (some v) := by
  unfold capσ at h
  rw [List.getElem?_map] at h
  cases hc : caps[i]? with
  | none => rw [hc] at h; simp at h
  | some o =>
    rw [hc] at h
    cases o with
    | none => simp at h
    | some j =>
      refine ⟨j, rfl, ?_⟩
      have h : σ.getD j none = some v := by simpa using h
      rw [List.getD_eq_getElem?_getD] at h
      cases hj : σ[j]? with
      | none => rw [hj] at h; simp at h
      | some w => rw [hj] at h; simp at h; rw [h]

theorem blk_inv {acc n t' : Nat} {h₁ : Heap} {m : Str → Option Value} (I : Inv X pins σ H s) (S : BlkScope X.N X.env.scope scope N' caps) (hcl1 : ∀ x c, cl.lookup x = some c → X.env.cells.lookup x = some c) (hcl2 : ∀ x ∈ scope.names, x.2 = .free → ∃ c, cl.lookup x.1 = some c)
    (hC : s.heap.objs.size ≤ C) (hf : ∀ b ∈ ex, FpOk X pins H b) (hex : ∀ b ∈ ex, b < s.heap.objs.size) (hns : h₁.Ns C m) (old : ∀ b o, s.heap.get? b = some o → h₁.get? b = some o)
    (hacc : h₁.get? acc = some { cls := .type "list", data := .seq #[] n }) (hge : s.heap.objs.size ≤ acc) (hne : acc ≠ C) :
    Inv (blk X N' scope cl C s H ex pins) [] (capσ caps σ) (upd H acc (.lst [])) { s with heap := h₁, toks := t' } where
  ok := blk_ok I S hcl1 hcl2 hC hf hex
  os := rfl
  bare := I.bare
  base := Un.laid old hge (I.hok.fresh hge)
  loc := ⟨m, hns, fun i x v e1 e2 e3 => by
    obtain ⟨j, hj, hv⟩ := capσ_get e2
    have hz : (x, some j) ∈ N'.zip caps := by
      have : (N'.zip caps)[i]? = some (x, some j) := by rw [List.getElem?_zip_eq_some]; exact ⟨e1, hj⟩
      exact List.mem_of_getElem? this
    have hk := List.all_eq_true.mp S.cap _ hz
    simp only [capOk, Bool.and_eq_true, beq_iff_eq] at hk
    obtain ⟨hN, hfr⟩ := hk
    have hmem : (x, NameKind.free) ∈ scope.names := by
      have e : ∀ {l : List (Str × NameKind)}, l.lookup x = some .free → (x, NameKind.free) ∈ l := fun {l} => mem_of_lookup
      exact e hfr
    have h0 := S.frees _ hmem rfl
    obtain ⟨m0, hn0, hl⟩ := I.loc
    obtain ⟨u, r, l⟩ := hl j x v hN hv (by
      rcases h0 with h0 | h0
      · exact .inr (.inl h0)
      · exact .inr (.inr h0))
    refine ⟨u, r, ?_⟩
    have hcase : ∃ c, X.env.cells.lookup x = some c ∧ s.heap.IsCell c (some u) := by
      rcases l with ⟨hk, _⟩ | ⟨_, c, hc, hcell⟩
      · have hk' : X.env.scope.names.lookup x = some .local := hk
        rcases h0 with h0 | h0 <;> (rw [h0] at hk'; cases hk')
      · exact ⟨c, hc, hcell⟩
    obtain ⟨c, hc, hcell⟩ := hcase
    obtain ⟨c', hc'⟩ := hcl2 _ hmem rfl
    have ec := hcl1 x c' hc'
    rw [hc] at ec
    cases ec
    refine .inr ⟨?_, c, hc', hcell.keeps old⟩
    have e3' : Vis (relS scope X.env.scope) x := e3
    rcases e3' with h | h | h
    · exfalso
      obtain ⟨y, hy, q1, q2⟩ := lookup_relS (fun z => by obtain ⟨n, k⟩ := z; dsimp only; split <;> rfl) h
      obtain ⟨nn, k0⟩ := y
      have q1 : nn = x := q1
      subst q1
      dsimp only at q2
      split at q2
      · cases q2
      · have q2 : k0 = .local := q2
        subst q2
        have := S.names _ hy rfl
        have this : scope.names.lookup nn = some .local := this
        rw [hfr] at this; cases this
    · exact .inl h
    · exact .inr h⟩
  cell := fun x c e => let ⟨v, z⟩ := I.cell x c (hcl1 x c e); ⟨v, z.keeps old⟩
  free := by
    show upd H acc (.lst []) C = none
    rw [upd_ne (Ne.symm hne)]; exact I.hok.fresh hC
  freeC := fun x c e => by
    obtain ⟨v, z⟩ := I.cell x c (hcl1 x c e)
    have hl : c ≠ acc := Nat.ne_of_lt (Nat.lt_of_lt_of_le z.lt hge)
    rw [upd_ne hl]; exact I.freeC x c (hcl1 x c e)
  pin := fun p hp => by
    have hp' : p ∈ X.pn ++ pins := by
      have : p ∈ (X.pn ++ pins) ++ [] := hp
      simpa using this
    obtain ⟨e, n, ne, nf, d⟩ := I.pin p hp'
    have hlt := Heap.lt_size e
    refine ⟨old _ _ e, ?_, Nat.ne_of_lt (Nat.lt_of_lt_of_le hlt hC), fun z => ?_, d⟩
    · rw [upd_ne (Nat.ne_of_lt (Nat.lt_of_lt_of_le hlt hge))]; exact n
    · rcases List.mem_cons.mp (I.stkSub _ z) with z | z
      · exact ne z
      · exact nf z
  hok := I.hok.laid old hge ⟨Nat.zero_le _, [], n, .nil, hacc⟩
  len := by
    show (capσ caps σ).length = N'.length
    unfold capσ; rw [List.length_map]; exact S.len

/-- back from the block -/
theorem blk_back {H' : Hp} {s' : Shared} {σ' : St} {pins' : List (Addr × Obj)} (I : Inv X pins σ H s) (J : Inv (blk X N' scope cl C s H ex pins) pins' σ' H' s') (hf : ∀ b ∈ ex, FpOk X pins H b) : Inv X pins σ H' s' :=
  I.call' (ch := ex) J.os J.base J.hok J.bare fun b hb => by
    obtain ⟨_, f1, _, f3, f4, f5⟩ := hf b hb
    exact ⟨f3, f1, f4, f5⟩
/-- an untracked object at C, younger than the state s, has changed -/
theorem Inv.letC {H' : Hp} {s' : Shared} {h'' : Heap} {σ' : St} (I : Inv X pins σ H s) (hC : s.heap.objs.size ≤ C) (J : Inv X pins σ' H' s') (hn : H' C = none) (hs : Heap.SameBut C s'.heap h'') : Inv X pins σ' H' { s' with heap := h'' } := by
  refine J.turned (it := C) (t' := s'.toks) (fun b o hb e => (hs.2 b hb).trans e) hn (Nat.ne_of_gt (Nat.lt_of_lt_of_le I.lt hC)) (.inr (Nat.le_trans I.sz hC)) (fun x c e => ?_) fun p hp => ?_
  · obtain ⟨v, z⟩ := I.cell x c e
    exact Nat.ne_of_lt (Nat.lt_of_lt_of_le z.lt hC)
  · obtain ⟨e, _⟩ := I.pin p hp
    exact Nat.ne_of_lt (Nat.lt_of_lt_of_le (Heap.lt_size e) hC)
end

def tComp (wi : TI) (g : TG) (te : TE) (caps : List (Option Nat)) : TE := fun σ H Q => wi σ H fun J H1 => ∀ acc, H1 acc = none → ∃ W : Nat → Nat → List V → Hp → Prop, (∃ m, W 0 m [] (upd H1 acc (.lst []))) ∧ ∀ i m ys H, W i m ys H →
  (J.stop i H ∧ Q (.ref acc) H) ∨ (J.go i H ∧ ∃ N : List V → Hp → Prop, (∀ ys' H', N ys' H' → ∃ m', m' < m ∧ W (i + 1) m' ys' H') ∧ ∀ x H', J.yld i H x H' → g x (capσ caps σ) H' fun σ2 H2 => Wk (capσ caps σ) σ2 ∧ te σ2 H2 fun y H3 => H3 acc = some (.lst ys) ∧ ys.length < sizeLine ∧ N (ys ++ [y]) (upd H3 acc (.lst (ys ++ [y]))))

section
variable {X : Cx} {scope : Scope} {N' : List Str} {caps : List (Option Nat)} {elt iter tg : Expr} {pos : Pos} {wi : TI} {g : TG} {te : TE}

def CompR (caps : List (Option Nat)) (g : TG) (te : TE) (σ : St) (Q : VK) (J : It) (H1 : Hp) : Prop := ∀ acc, H1 acc = none → ∃ W : Nat → Nat → List V → Hp → Prop, (∃ m, W 0 m [] (upd H1 acc (.lst []))) ∧ ∀ i m ys H, W i m ys H →
  (J.stop i H ∧ Q (.ref acc) H) ∨ (J.go i H ∧ ∃ N : List V → Hp → Prop, (∀ ys' H', N ys' H' → ∃ m', m' < m ∧ W (i + 1) m' ys' H') ∧ ∀ x H', J.yld i H x H' → g x (capσ caps σ) H' fun σ2 H2 => Wk (capσ caps σ) σ2 ∧ te σ2 H2 fun y H3 => H3 acc = some (.lst ys) ∧ ys.length < sizeLine ∧ N (ys ++ [y]) (upd H3 acc (.lst (ys ++ [y]))))
theorem comp_core {pins : List (Addr × Obj)} {s : Shared} {σ : St} {H : Hp} {cl : List (Str × Addr)} {Q : VK} {E : Value → Shared → Prop} {RR : Value → Addr → Result → Shared → Prop} {it : Addr} {fp : List Addr} {tn : Nat → Heap → Prop} {J : It} (hc : X.calm = true) (S : BlkScope X.N X.env.scope scope N' caps)
    (hg : ∀ cl C s H ex pins, PG (blk X N' scope cl C s H ex pins) tg g) (he : ∀ cl C s H ex pins, PE (blk X N' scope cl C s H ex pins) elt te)
    (hcl1 : ∀ x c, cl.lookup x = some c → X.env.cells.lookup x = some c) (hcl2 : ∀ x ∈ scope.names, x.2 = .free → ∃ c, cl.lookup x.1 = some c)
    (I : Inv X pins σ H s) (T : Turn X.prog X.w X.K tg J fp it tn) (st : tn 0 s.heap) (f2 : ∀ b ∈ fp, FpOk X pins H b) (R : CompR caps g te σ Q J H)
    (hRR : ∀ acc C H' s' m, s.heap.objs.size ≤ C → s'.heap.Ns C m → Inv X pins σ H' s' → H' C = none → Q (.ref acc) H' → RR (.ref acc) C (.ok .next) s') :
    wpAny (model X.prog X.w) X.A (newList []) (fun acc s₃ => wpAny (model X.prog X.w) X.A (newFunctionEnv scope X.env.globals cl [] X.env.qual none .none (some X.env)) (fun cenv s₄ =>
      codeAny (model X.prog X.w) X.A (.compStart (.ListComp elt [⟨tg, iter, [], 0⟩] scope pos) 0 (.ref it) acc { cenv with scope := relabel scope X.env }) (RR acc cenv.locals) s₄) E s₃) E s := by
  refine wpAny_newObj_type (wpAny_newFunctionEnv S.nocell (by intro y hy; simp at hy) (fun h₁ hns₁ hsb₁ => ?_) S.kind)
  dsimp only at hns₁ hsb₁ ⊢
  generalize hP2 : s.heap.push { cls := .type "list", dict := none, data := .seq ([] : List Value).toArray } = P2 at hns₁ hsb₁ ⊢
  have hC : P2.objs.size = s.heap.objs.size + 1 := by rw [← hP2, Heap.size_push]
  have hDC : s.heap.objs.size ≠ P2.objs.size := by rw [hC]; exact Nat.ne_of_lt (Nat.lt_succ_self _)
  have hCle : s.heap.objs.size ≤ P2.objs.size := by rw [hC]; exact Nat.le_succ _
  have old : ∀ b o, s.heap.get? b = some o → h₁.get? b = some o := fun b o e => hsb₁.extBut b o (by rw [hC]; exact Nat.ne_of_lt (Nat.lt_succ_of_lt (Heap.lt_size e))) (Heap.get?_push_of_some _ (hP2 ▸ Heap.get?_push_of_some _ e))
  have hacc : h₁.get? s.heap.objs.size = some { cls := .type "list", data := .seq #[] } := hsb₁.extBut _ _ hDC (Heap.get?_push_of_some _ (hP2 ▸ Heap.get?_push_size _ rfl))
  have hex : ∀ b ∈ fp, b < s.heap.objs.size := fun b hb => by obtain ⟨o, e, _⟩ := T.obj 0 _ st b hb; exact Heap.lt_size e
  obtain ⟨W, ⟨m0, w0⟩, turn⟩ := R s.heap.objs.size (I.hok.fresh (Nat.le_refl _))
  have I3 : ∀ t', Inv (blk X N' scope cl P2.objs.size s H fp pins) [] (capσ caps σ) (upd H s.heap.objs.size (.lst [])) { s with heap := h₁, toks := t' } := fun t' => blk_inv (t' := t') I S hcl1 hcl2 hCle f2 hex hns₁ old hacc (Nat.le_refl _) hDC
  have stat : ∀ {H' : Hp}, (∀ b ∈ fp, H' b = none) → ∀ b ∈ fp, FpOk (blk X N' scope cl P2.objs.size s H fp pins) [] H' b := fun hn b hb => by
    obtain ⟨_, q1, q2, q3, q4, q5⟩ := f2 b hb
    refine ⟨hn b hb, Nat.ne_of_lt (Nat.lt_of_lt_of_le (hex b hb) hCle), fun z => ?_, .inl hb, fun x c e => q4 x c (hcl1 x c e), fun p hp => q5 p ?_⟩
    · rcases List.mem_cons.mp (I.stkSub b z) with z | z
      · exact q1 z
      · exact q2 z
    · have : p ∈ (X.pn ++ pins) ++ [] := hp
      simpa using this
  have loop : ∀ s₃ : Shared, s₃ = { s with heap := h₁, toks := s.toks + ([] : List (Str × Value)).length } →
      codeAny (model X.prog X.w) X.A (.compLoop (.ListComp elt [⟨tg, iter, [], 0⟩] scope pos) 0 (.ref it) (.ref s.heap.objs.size) (compEnvC scope cl P2.objs.size X.env)) (RR (.ref s.heap.objs.size) P2.objs.size) s₃ := by
    rintro s₃ rfl
    refine codeAny_compLoop_gen (fun n s' => ∃ i ys H', Inv (blk X N' scope cl P2.objs.size s H fp pins) [] (capσ caps σ) H' s' ∧ tn i s'.heap ∧ (∀ b ∈ fp, H' b = none) ∧ W i n ys H') ?_ m0
      ⟨0, [], _, I3 _, T.keep 0 _ _ st (fun b _ o e => old b o e), fun b hb => by rw [upd_ne (Nat.ne_of_lt (hex b hb))]; exact (f2 b hb).1, w0⟩
    rintro n s4 ⟨i, ys, H4, I4, st4, fr4, w4⟩
    rcases turn i n ys H4 w4 with ⟨stop, q⟩ | ⟨go, N, hN, step⟩
    · refine thn (T.done (blk X N' scope cl P2.objs.size s H fp pins) rfl rfl rfl hc i [] s4 _ H4 _ I4 (stat fr4) st4 stop) fun r s5 ⟨hr, I5⟩ => ?_
      subst hr
      obtain ⟨m, hm, _⟩ := id I5.loc
      exact hRR _ _ H4 s5 m hCle hm (blk_back I I5 f2) I5.free q
    · refine thn (T.item (blk X N' scope cl P2.objs.size s H fp pins) rfl rfl rfl hc i [] s4 _ H4 _ I4 (stat fr4) st4 go) fun r s5 ⟨u, hr, h5⟩ => ?_
      subst hr
      refine thn h5 fun _ s6 ⟨x, H6, I6, r6, y6, st6, fr6⟩ => ?_
      have I6' := I6.pinned (stat fr6) (T.obj _ _ st6)
      refine thn (hg cl _ s H fp pins _ s6 _ H6 x u _ I6' r6 (step x H6 y6)) fun _ s7 ⟨σ7, H7, I7, wk7, q7⟩ => ?_
      refine thn (he cl _ s H fp pins _ s7 σ7 H7 _ I7 q7) fun yv s8 ⟨y, H8, I8, r8, ha8, hsz8, w8⟩ => ?_
      refine thn (mt_append (X := blk X N' scope cl P2.objs.size s H fp pins) _ s8 σ7 H8 (.ref s.heap.objs.size) [y] (.ref s.heap.objs.size) [yv] (fun _ H9 => H9 = upd H8 s.heap.objs.size (.lst (ys ++ [y]))) I8 rfl (.cons r8 .nil) ⟨_, ys, y, rfl, rfl, ha8, hsz8, rfl⟩) fun _ s9 ⟨_, H9, I9, _, e9⟩ => ?_
      subst e9
      obtain ⟨m', hm', w8⟩ := hN _ _ w8
      refine ⟨m', hm', i + 1, ys ++ [y], _, I9.unpinned.weak wk7.1 wk7.2, T.keep _ _ _ st6 fun b hb o e => (I9.pin (b, o) (List.mem_append_right _ (List.mem_append_right _ (mem_pinsAt hb e)))).1, fun b hb => ?_, w8⟩
      obtain ⟨o, e, d⟩ := T.obj _ _ st6 b hb
      exact (I9.pin (b, o) (List.mem_append_right _ (List.mem_append_right _ (mem_pinsAt hb e)))).2.1
  exact codeAny_compStart_list (loop _ rfl) (T.self _ 0 _ _ _ (T.keep 0 _ _ st (fun b _ o e => old b o e)) (loop _ rfl))

theorem clos_of {pins : List (Addr × Obj)} {s : Shared} {σ : St} {H : Hp} (I : Inv X pins σ H s) (S : BlkScope X.N X.env.scope scope N' caps) :
    ∃ cl, closureFor scope X.env = pure cl ∧ (∀ x c, cl.lookup x = some c → X.env.cells.lookup x = some c) ∧ ∀ x ∈ scope.names, x.2 = .free → ∃ c, cl.lookup x.1 = some c :=
  closure_ok fun x hx hf => I.ok.has x.1 (S.frees x hx hf)

theorem pe_comp {N : List Str} {sc0 : Scope} (S : BlkScope N sc0 scope N' caps) (hc : X.calm = true) (hi : PI X tg iter wi)
    (hg : ∀ cl C s H ex pins, PG (blk X N' scope cl C s H ex pins) tg g) (he : ∀ cl C s H ex pins, PE (blk X N' scope cl C s H ex pins) elt te)
    (hs : ∀ x, foldedSetIterable iter X.env x = pure x := by intro _; rfl) (hN0 : X.N = N := by rfl) (h00 : X.env.scope = sc0 := by rfl) : PE X (.ListComp elt [⟨tg, iter, [], 0⟩] scope pos) (tComp wi g te caps) := by
  subst hN0 h00
  intro pins s σ H Q I h
  obtain ⟨cl, hclos, hcl1, hcl2⟩ := clos_of I S
  rw [eval_ListComp]
  refine wpAny_comprehension_free (use := none) rfl hs hclos S.kind S.names (thn (hi pins s σ H _ I h) fun xv s1 h1 => thn h1 fun itv s2 h2 => ?_)
  obtain ⟨it, fp, tn, J, H2, e, I2, T, st2, f2, R⟩ := h2
  subst e
  refine comp_core (RR := fun acc C => compPost (model X.prog X.w) X.A X.xe none (EP X pins σ Q) acc C) hc S hg he hcl1 hcl2 I2 T st2 f2 R ?_
  intro acc C H' s' m hC hm J' hn q
  exact ⟨m, hm, fun h' hs' => ⟨.ref _, H', I2.letC hC J' hn hs', rfl, q⟩⟩

end

/-! ### what a comprehension's reading wants -/
theorem comp_range {lo : Int} {n : Nat} {g : TG} {te : TE} {caps : List (Option Nat)} {σ : St} {H : Hp} {Q : VK} (Pv : Addr → Nat → List V → Hp → Prop) (h0 : ∀ acc, H acc = none → Pv acc 0 [] (upd H acc (.lst [])))
    (hs : ∀ acc i ys H', H acc = none → i < n → Pv acc i ys H' → g (.int (lo + i)) (capσ caps σ) H' fun σ2 H2 => Wk (capσ caps σ) σ2 ∧ te σ2 H2 fun y H3 => H3 acc = some (.lst ys) ∧ ys.length < sizeLine ∧ Pv acc (i + 1) (ys ++ [y]) (upd H3 acc (.lst (ys ++ [y]))))
    (hd : ∀ acc ys H', H acc = none → Pv acc n ys H' → Q (.ref acc) H') : CompR caps g te σ Q (Itr lo n) H := by
  intro acc hacc
  refine ⟨fun i m ys H => m = n - i ∧ i ≤ n ∧ Pv acc i ys H, ⟨n, by simp, Nat.zero_le _, h0 acc hacc⟩, ?_⟩
  rintro i m ys H' ⟨rfl, hi, p⟩
  by_cases hlt : i < n
  · refine .inr ⟨hlt, Pv acc (i + 1), fun ys' H' p' => ⟨n - (i + 1), by omega, rfl, hlt, p'⟩, fun x H'' y => ?_⟩
    obtain ⟨e, y⟩ := y
    subst e y
    exact hs acc i ys _ hacc hlt p
  · have e : i = n := by omega
    subst e
    exact .inl ⟨Nat.le_refl _, hd acc ys H' hacc p⟩

/-! ### isinstance, == of lists -/
def cvV : V → Option Value
  | .ty n => some (.type n)
  | .ref a => some (.ref a)
  | _ => none
section
variable {X : Cx}
theorem call_isinst : CallR X (.builtin "isinstance") (fun xs H Q => ∃ x c t cv b, xs = [x, c] ∧ TyOf X.K H x t ∧ cvV c = some cv ∧ PySem.W.kitOne X.K t cv = some b ∧ Q (.bl b) H) := by
  intro pins s σ H xs us Q I r h
  obtain ⟨x, c, t, cv, b, rfl, ty, hc, hk, q⟩ := h
  obtain ⟨u, w', rfl, r1, r2⟩ := vals2 r
  have e : w' = cv := by
    cases c with
    | ty n => have h1 : w' = Value.type n := r2; have h2 : some (Value.type n) = some cv := hc; cases h2; exact h1
    | ref a => have h1 : w' = Value.ref a := r2; have h2 : some (Value.ref a) = some cv := hc; cases h2; exact h1
    | non => cases hc
    | bl _ => cases hc
    | int _ => cases hc
    | str _ => cases hc
    | byt _ => cases hc
    | flt _ => cases hc
  subst e
  exact isinst_ok I r1 ty hk fun tk => ⟨.bl b, H, I.tok tk, rfl, q⟩
/-- lists of ints -/
theorem op_eqI (hu : X.A.units + 64 < cLine) : OpR X (compareOp .Eq) (fun x y H Q => ∃ (a b : Addr) (ns ms : List Int), x = .ref a ∧ y = .ref b ∧ SqL X.K H a (ns.map V.int) ∧ SqL X.K H b (ms.map V.int) ∧ Q (.bl (decide (ns = ms))) H) := by
  intro pins s σ H x y v u Q I rx ry h
  obtain ⟨a, b, ns, ms, rfl, rfl, ha, hb, q⟩ := h
  cases rx; cases ry
  obtain ⟨its, rv, p, _⟩ := I.list ha
  obtain ⟨its', rv', p', _⟩ := I.list hb
  exact PySem.W.ke_eq_ints p.isList p'.isList (intsAre_of rv) (intsAre_of rv') hu ⟨.bl _, H, I, rfl, q⟩
theorem op_neI (hu : X.A.units + 64 < cLine) : OpR X (compareOp .NotEq) (fun x y H Q => ∃ (a b : Addr) (ns ms : List Int), x = .ref a ∧ y = .ref b ∧ SqL X.K H a (ns.map V.int) ∧ SqL X.K H b (ms.map V.int) ∧ Q (.bl (!decide (ns = ms))) H) := by
  intro pins s σ H x y v u Q I rx ry h
  obtain ⟨a, b, ns, ms, rfl, rfl, ha, hb, q⟩ := h
  cases rx; cases ry
  obtain ⟨its, rv, p, _⟩ := I.list ha
  obtain ⟨its', rv', p', _⟩ := I.list hb
  exact PySem.W.ke_ne_ints p.isList p'.isList (intsAre_of rv) (intsAre_of rv') hu ⟨.bl _, H, I, rfl, q⟩
end
/-! a value's data, as == reads it -/
mutual
inductive Dt (K : PySem.W.Frag) (H : Hp) : V → PyData → Prop where
  | non : Dt K H .non .none
  | bl (b : Bool) : Dt K H (.bl b) (.bool b)
  | int (i : Int) : Dt K H (.int i) (.int i)
  | str (x : Str) : Dt K H (.str x) (.str x)
  | lst {a : Addr} {xs : List V} {ds : List PyData} : SqL K H a xs → Dts K H xs ds → Dt K H (.ref a) (.list ds)
  | tup {a : Addr} {xs : List V} {ds : List PyData} : SqT K H a xs → Dts K H xs ds → Dt K H (.ref a) (.tuple ds)
inductive Dts (K : PySem.W.Frag) (H : Hp) : List V → List PyData → Prop where
  | nil : Dts K H [] []
  | cons {x : V} {xs : List V} {d : PyData} {ds : List PyData} : Dt K H x d → Dts K H xs ds → Dts K H (x :: xs) (d :: ds)
end
section
variable {X : Cx} {pins : List (Addr × Obj)} {σ : St} {H : Hp} {s : Shared}
mutual
theorem Dt.reads (I : Inv X pins σ H s) : ∀ {x : V} {d : PyData} {u : Value}, Dt X.K H x d → RelV x u → ∃ as, Reads s.heap u d as
  | _, _, _, .non, r => by cases r; exact ⟨_, .none⟩
  | _, _, _, .bl b, r => by cases r; exact ⟨_, .bool b⟩
  | _, _, _, .int i, r => by obtain ⟨t, rfl⟩ := r; exact ⟨_, .int i t⟩
  | _, _, _, .str x, r => by obtain ⟨t, rfl⟩ := r; exact ⟨_, .str x t⟩
  | _, _, _, .lst h hs, r => by
    cases r
    obtain ⟨its, rv, p, _⟩ := I.list h
    obtain ⟨as, q⟩ := Dts.reads I hs rv
    obtain ⟨o, ho, hc, n, hd⟩ := p.isList
    exact ⟨_, .list ho hc hd (by simpa using q)⟩
  | _, _, _, .tup h hs, r => by
    cases r
    obtain ⟨its, rv, p, _⟩ := I.tuple h
    obtain ⟨as, q⟩ := Dts.reads I hs rv
    obtain ⟨o, ho, hc, n, hd⟩ := p
    exact ⟨_, .tuple ho hc hd (by simpa using q)⟩
theorem Dts.reads (I : Inv X pins σ H s) : ∀ {xs : List V} {ds : List PyData} {us : List Value}, Dts X.K H xs ds → Vals xs us → ∃ as, ReadsAll s.heap us ds as
  | _, _, _, .nil, r => by cases r; exact ⟨_, .nil⟩
  | _, _, _, .cons h hs, r => by
    cases r with
    | cons r rr =>
      obtain ⟨as, q⟩ := Dt.reads I h r
      obtain ⟨bs, q'⟩ := Dts.reads I hs rr
      exact ⟨_, .cons q q'⟩
end
end
section
variable {X : Cx}
end
end L2
/-! ## Reading the terms, step by step -/
namespace L2
open PySem PySem.Spec PyProof.Rows
section
variable {t u : TS} {te ta tb tc : TE} {tt uu : TT} {tar : TA} {g : TG} {D : Ends} {σ : St} {H : Hp} {Q : VK} {QB : Bool → Hp → Prop} {QL : List V → Hp → Prop} {QS : St → Hp → Prop} {v x y : V} {i j : Int} {n : Nat} {K : PySem.W.Frag}
theorem r_seq (h : t { D with nx := u D } σ H) : tSeq t u D σ H := h
theorem r_next (h : D.nx σ H) : tNext D σ H := h
theorem r_nx {f b c : St → Hp → Prop} {r : VK} (h : f σ H) : Ends.nx ⟨f, r, b, c⟩ σ H := h
theorem r_rt {f b c : St → Hp → Prop} {r : VK} (h : r v H) : Ends.rt ⟨f, r, b, c⟩ v H := h
theorem r_asg (h : te σ H fun x H1 => g x σ H1 D.nx) : tAsg te g D σ H := h
theorem r_gname (h : QS (σ.set n (some v)) H) : gName n v σ H QS := h
theorem r_drop (h : te σ H fun _ H1 => D.nx σ H1) : tDrop te D σ H := h
theorem r_ret (h : te σ H D.rt) : tRet te D σ H := h
theorem r_ifs (h : tt σ H fun b H1 => if b = true then t D σ H1 else u D σ H1) : tIfS tt t u D σ H := h
theorem r_var (e : σ[n]? = some (some v)) (h : Q v H) : tVar n σ H Q := ⟨v, e, h⟩
theorem r_C (h : Q v H) : tC v σ H Q := h
theorem r_op {r : R2} (h : ta σ H fun x H1 => tb σ H1 fun y H2 => r x y H2 Q) : tOp r ta tb σ H Q := h
theorem r_test (h : te σ H fun x H' => ∃ k, x = .bl k ∧ QB k H') : tTest te σ H QB := h
theorem r_tB (h : te σ H fun x H' => ∃ k, x = .bl k ∧ QB k H') : tB te σ H QB := h
theorem r_bl {k : Bool} {Q : Bool → Prop} (h : Q k) : ∃ k', V.bl k = .bl k' ∧ Q k' := ⟨k, rfl, h⟩
theorem r_and (h : tt σ H fun c H1 => if c = true then uu σ H1 QB else QB false H1) : tAnd tt uu σ H QB := h
theorem r_or (h : tt σ H fun c H1 => if c = true then QB true H1 else uu σ H1 QB) : tOr tt uu σ H QB := h
theorem r_not (h : tt σ H fun c H1 => QB (!c) H1) : tNot tt σ H QB := h
theorem r_andV (h : ta σ H fun x H1 => ∃ c, x = .bl c ∧ if c = true then tb σ H1 Q else Q (.bl false) H1) : tAndV ta tb σ H Q := h
theorem r_notV (h : ta σ H fun x H1 => ∃ c, x = .bl c ∧ Q (.bl (!c)) H1) : tNotV ta σ H Q := h
theorem r_chain {r r' : R2} (h : ta σ H fun x H1 => tb σ H1 fun y H2 => r x y H2 fun z H3 => ∃ k, z = .bl k ∧ (if k = true then tc σ H3 fun w' H4 => r' y w' H4 Q else Q (.bl false) H3)) : tChain r r' ta tb tc σ H Q := h
theorem r_call {sp : Sp} {dvs : List V} {E : XK} (h : tar σ H fun vs H1 => sp (vs ++ dvs) H1 Q E) : tCall sp dvs E tar σ H Q := h
theorem r_cb {r : List V → Hp → VK → Prop} (h : tar σ H fun vs H1 => r vs H1 Q) : tCB r tar σ H Q := h
theorem r_cons (h : ta σ H fun x H1 => tar σ H1 fun xs H2 => QL (x :: xs) H2) : tCons ta tar σ H QL := h
theorem r_nil (h : QL [] H) : tNil σ H QL := h
theorem r_lst (h : tar σ H fun xs H1 => xs.length ≤ sizeLine ∧ ∀ p, H1 p = none → Q (.ref p) (upd H1 p (.lst xs))) : tLst tar σ H Q := h
theorem r_tup (h : tar σ H fun xs H1 => xs.length ≤ sizeLine ∧ ∀ p, H1 p = none → Q (.ref p) (upd H1 p (.tup xs))) : tTup tar σ H Q := h
theorem r_I0 {f : Int → Int → V} (h : Q (f i j) H) : rI0 f (.int i) (.int j) H Q := ⟨i, j, rfl, rfl, h⟩
theorem r_I {C : Int → Int → Prop} {f : Int → Int → V} (hc : C i j) (h : Q (f i j) H) : rI C f (.int i) (.int j) H Q := ⟨i, j, rfl, rfl, hc, h⟩
theorem r_eq (hs : scal x y = true) (h : Q (.bl (decide (x = y))) H) : rEq x y H Q := ⟨hs, h⟩
theorem r_ne (hs : scal x y = true) (h : Q (.bl (!decide (x = y))) H) : rNe x y H Q := ⟨hs, h⟩
theorem r_ixL {p : Addr} {xs : List V} (hs : SqL K H p xs) (ha : atI xs i = some v) (h : Q v H) : rIxL K (.ref p) (.int i) H Q := ⟨p, xs, i, v, rfl, rfl, hs, ha, h⟩
theorem r_bm {T : String} {r : V → List V → Hp → VK → Prop} {to : TE} (h : to σ H fun x H1 => tyV K T x H1 ∧ tar σ H1 fun xs H2 => r x xs H2 Q) : tBM K T r to tar σ H Q := h
theorem r_fld {a : Addr} {f : Str} (h : ta σ H fun x H1 => ∃ a C dx fs v, x = .ref a ∧ H1 a = some (.ins C dx fs) ∧ Cls K C ∧ NoAttr K C f ∧ fs.lookup f = some v ∧ Q v H1) : tFld K ta f σ H Q := h
theorem r_ite {A B : Prop} {c : Bool} (h1 : c = true → A) (h2 : c = false → B) : if c = true then A else B := by
  cases c with
  | true => exact h1 rfl
  | false => exact h2 rfl
theorem r_iteP {A B : Prop} {c : Bool} (hc : c = true) (h1 : A) : if c = true then A else B := by rw [if_pos hc]; exact h1
theorem r_iteN {A B : Prop} {c : Bool} (hc : c = false) (h1 : B) : if c = true then A else B := by rw [if_neg (by rw [hc]; decide)]; exact h1
theorem Same.upd_new {H : Hp} {p : Addr} {o : HO} (h : H p = none) : Same H (upd H p o) := fun b u e => by rw [upd_ne (ne_of_none e h)]; exact e
theorem sqL_same {K : PySem.W.Frag} {H H' : Hp} {a : Addr} {xs : List V} (e : Same H H') (h : SqL K H a xs) : SqL K H' a xs := e.seq h
theorem atI_get' {α : Type} {xs : List α} {i : Int} {v : α} (h0 : 0 ≤ i) (h : xs[i.toNat]? = some v) : atI xs i = some v := by
  have := atI_nat (xs := xs) (j := i.toNat) h
  rwa [Int.toNat_of_nonneg h0] at this
end
end L2
namespace L2
open PySem PySem.Spec PyProof.Rows
section
variable {wi : TI} {g : TG} {tb : TS} {te tl : TE} {ta : TA} {D : Ends} {σ : St} {H : Hp} {Q : VK} {R : It → Hp → Prop} {caps : List (Option Nat)} {K : PySem.W.Frag}
theorem r_for (h : wi σ H fun J H1 => ∃ W : Nat → Nat → St → Hp → Prop, (∃ m, W 0 m σ H1) ∧ ∀ i m σ H, W i m σ H →
    (J.stop i H ∧ D.nx σ H) ∨ (J.go i H ∧ ∃ N : St → Hp → Prop, (∀ σ' H', N σ' H' → ∃ m', m' < m ∧ W (i + 1) m' σ' H') ∧ ∀ x H', J.yld i H x H' → g x σ H' fun σ2 H2 => tb { D with nx := N, ct := N, bk := D.nx } σ2 H2)) : tFor wi g tb D σ H := h
theorem r_rng1 (h : ta σ H fun vs H1 => ∃ j : Int, vs = [.int j] ∧ -(2 ^ 62) ≤ j ∧ j < 2 ^ 62 ∧ R (Itr 0 j.toNat) H1) : iRng1 ta σ H R := h
theorem r_ilist (h : tl σ H fun x H1 => ∃ a, x = .ref a ∧ (∃ xs, SqL K H1 a xs) ∧ R (Itl K a) H1) : iList K tl σ H R := h
theorem r_comp (h : wi σ H fun J H1 => CompR caps g te σ Q J H1) : tComp wi g te caps σ H Q := h
theorem r_meth {C : Addr} {m : Str} {sp : Sp} {dvs : List V} {E : XK} {to : TE} (h : to σ H fun x H1 => ∃ a dx fs, x = .ref a ∧ H1 a = some (.ins C dx fs) ∧ fs.lookup m = none ∧ ta σ H1 fun vs H2 => sp (x :: (vs ++ dvs)) H2 Q E) : tMeth C m sp dvs E to ta σ H Q := h
theorem r_make {C : Addr} {sp : Sp} {dvs : List V} {E : XK} (h : ta σ H fun vs H1 => ∀ x dx, H1 x = none → H1 dx = none → dx ≠ x →
  sp (.ref x :: (vs ++ dvs)) (upd (upd H1 dx (.own x)) x (.ins C dx [])) (fun v H2 => v = .non ∧ Q (.ref x) H2) E) : tMake C sp dvs E ta σ H Q := h
theorem r_sfld {tv to : TE} {f : Str} (h : tv σ H fun y H1 => to σ H1 fun x H2 => ∃ a C dx fs, x = .ref a ∧ H2 a = some (.ins C dx fs) ∧ Cls K C ∧ NoAttr K C f ∧ fs.length < 1000 ∧
  D.nx σ (upd H2 a (.ins C dx (putF f y fs)))) : sFld K to tv f D σ H := h
end
end L2
/-! ### the same rules, the written part K named (a comprehension's block has its own context) -/
namespace L2
open PySem PySem.Spec PyProof.Rows
section
variable {X : Cx} (K : PySem.W.Frag)
theorem call_len_seqK (hK : X.K = K := by rfl) : CallR X (.builtin "len") (fun xs H Q => ∃ p ys, xs = [.ref p] ∧ (SqL K H p ys ∨ SqT K H p ys) ∧ Q (.int ys.length) H) := by subst hK; exact call_len_seq
theorem call_list_ofK (hK : X.K = K := by rfl) : CallR X (.type "list") (fun xs H Q => ∃ p ys, xs = [.ref p] ∧ (SqL K H p ys ∨ SqT K H p ys) ∧ ∀ l, H l = none → Q (.ref l) (upd H l (.lst ys))) := by subst hK; exact call_list_of
theorem call_tuple_ofK (hK : X.K = K := by rfl) : CallR X (.type "tuple") (fun xs H Q => ∃ p ys, xs = [.ref p] ∧ ((SqL K H p ys ∧ ∀ l, H l = none → Q (.ref l) (upd H l (.tup ys))) ∨ (SqT K H p ys ∧ Q (.ref p) H))) := by subst hK; exact call_tuple_of
theorem call_isinstK (hK : X.K = K := by rfl) : CallR X (.builtin "isinstance") (fun xs H Q => ∃ x c t cv b, xs = [x, c] ∧ TyOf K H x t ∧ cvV c = some cv ∧ PySem.W.kitOne K t cv = some b ∧ Q (.bl b) H) := by subst hK; exact call_isinst
theorem ix_listK (hK : X.K = K := by rfl) : IxR X (rIxL K) := by subst hK; exact ix_list
theorem ix_tupK (hK : X.K = K := by rfl) : IxR X (rIxT K) := by subst hK; exact ix_tup
theorem pe_fldK {e : Expr} {f : Str} {pos : Pos} {ta : TE} (he : PE X e ta) (hb : attributeBase e f X.env (eval e X.env) = eval e X.env) (hK : X.K = K := by rfl) : PE X (.Attribute e f pos) (tFld K ta f) := by subst hK; exact pe_fld he hb
theorem ps_fldK {o value : Expr} {f : Str} {pos pos' : Pos} {ta tv : TE} (ha : PE X o ta) (hv : PE X value tv) (hs : swapsWith value (some (.Attribute o f pos')) pos.line X.env = pure false) (hK : X.K = K := by rfl) : PS X (.Assign [.Attribute o f pos'] value pos) (sFld K ta tv f) := by subst hK; exact ps_fld ha hv hs
theorem pe_bmK {o e : Expr} {es : List Expr} {to : TE} {t : TA} {name : Str} {apos cpos : Pos} {T id : String} {r : V → List V → Hp → VK → Prop} (pa : PlainAttrs T) (slot : Slot T name id) (hty : typeOf (.builtin id) = pure (.type "method_descriptor")) (hm : MtR X id r) (ho : PE X o to) (ha : PA X (e :: es) t)
    (hbase : attributeBase o name X.env (eval o X.env) = eval o X.env := by rfl) (hfew : ((backTo cpos (starEach (e :: es) X.env)).all (fun x => !x.1) && (backToKw cpos (keywordEach [] X.env)).all (fun x => x.1.isSome)
      && decide ((e :: es).length + ([] : List Keyword).length + (if ([] : List Keyword).isEmpty then 0 else 1) < 30)) = true := by rfl)
    (hline : (apos.endLine == cpos.line) = true := by rfl) (hs : starEach (e :: es) X.env = (false, eval e X.env) :: starEach es X.env := by rfl) (hplain : (backTo cpos (starEach es X.env)).any (·.1) = false := by rfl) (hK : X.K = K := by rfl) :
    PE X (.Call (.Attribute o name apos) (e :: es) [] cpos) (tBM K T r to t) := by subst hK; exact pe_bm pa slot hty hm ho ha hbase hfew hline hs hplain
theorem pi_listK {tg l : Expr} {tl : TE} (hl : PE X l tl) (hK : X.K = K := by rfl) : PI X tg l (iList K tl) := by subst hK; exact pi_list hl
theorem pg_tupK {pos : Pos} {es : List Expr} {k : Nat} {t : TGs} {n : Nat} (hc : X.calm = true) (h : PGs X es t) (hn : (assignEach es X.env).length = n := by rfl) (hst : (assignEach es X.env).findIdx? (·.1) = none := by rfl) (hK : X.K = K := by rfl) : PG X (.Tuple es k pos) (gTup K n t) := by subst hK; exact pg_tup hc h hn hst
theorem op_eqIK (hu : X.A.units + 64 < cLine) (hK : X.K = K := by rfl) : OpR X (compareOp .Eq) (fun x y H Q => ∃ (a b : Addr) (ns ms : List Int), x = .ref a ∧ y = .ref b ∧ SqL K H a (ns.map V.int) ∧ SqL K H b (ms.map V.int) ∧ Q (.bl (decide (ns = ms))) H) := by subst hK; exact op_eqI hu
theorem op_neIK (hu : X.A.units + 64 < cLine) (hK : X.K = K := by rfl) : OpR X (compareOp .NotEq) (fun x y H Q => ∃ (a b : Addr) (ns ms : List Int), x = .ref a ∧ y = .ref b ∧ SqL K H a (ns.map V.int) ∧ SqL K H b (ms.map V.int) ∧ Q (.bl (!decide (ns = ms))) H) := by subst hK; exact op_neI hu
end
end L2
namespace L2
open PySem PySem.Spec PyProof.Rows
/-- two ways meet: what holds of both -/
def tJoin (t : TS) : TS := fun D σ H => ∃ P : St → Hp → Prop, t { D with nx := P } σ H ∧ ∀ σ' H', P σ' H' → D.nx σ' H'
theorem ps_join {X : Cx} {st : Stmt} {t : TS} (h : PS X st t) : PS X st (tJoin t) := by
  intro pins s σ H D I hw
  obtain ⟨P, h1, h2⟩ := hw
  refine thn (h pins s σ H _ I h1) fun f s' q => ?_
  cases f with
  | next => obtain ⟨σ', H', I', q⟩ := q; exact ⟨σ', H', I', h2 σ' H' q⟩
  | brk => exact q
  | cont => exact q
  | ret v => exact q
theorem r_join {t : TS} {D : Ends} {σ : St} {H : Hp} (P : St → Hp → Prop) (h1 : t { D with nx := P } σ H) (h2 : ∀ σ' H', P σ' H' → D.nx σ' H') : tJoin t D σ H := ⟨P, h1, h2⟩
end L2
/-! ## The mirror: houses as plain data -/
namespace My
open PySem L2
def cellv (ns : List Int) (k : Int) : Int := if k < ns.length then ns.getD k.toNat 0 else 0
def stir1 (c k : Int) : Int := (c % 2147483647 + 977 * k + 1) * 48271 % 2147483647
def stir2 (s k : Int) : Int := (s + 40692 * (k + 3)) * 69621 % 2147483629
def draw (c k b : Int) : Int := stir2 (stir1 c k) k / 8 % b
theorem draw_nn (c k : Int) {b : Int} (h : 0 < b) : 0 ≤ draw c k b := Int.emod_nonneg _ (by omega)
theorem draw_lt (c k : Int) {b : Int} (h : 0 < b) : draw c k b < b := Int.emod_lt_of_pos _ h
def rowBy (c : Int) (d r : Int) (k : Nat) : List Int := (List.range d.toNat).map fun (j : Nat) => draw c (7 * (k : Int) + (j : Int)) r
def waysBy (c d r : Int) : List (List Int) := (List.range r.toNat).map (rowBy c d r)
def lampsBy (c r : Int) : List Bool := (List.range r.toNat).map fun (k : Nat) => decide (draw c (k : Int) 2 = 1)
def wordBy (c d n : Int) : List Int := (List.range n.toNat).map fun (k : Nat) => draw c (k : Int) d
/-- one door on -/
def step (rss : List (List Int)) (q d : Int) : Int := (rss.getD q.toNat []).getD d.toNat 0
def walkI (rss : List (List Int)) (q : Int) (w : List Int) : Int := w.foldl (step rss) q
def trailI (rss : List (List Int)) (w : List Int) : List Int := (List.range (w.length + 1)).map fun j => walkI rss 0 (w.take j)
structure Ways (d : Int) (rss : List (List Int)) : Prop where
  row : ∀ row ∈ rss, (row.length : Int) = d ∧ ∀ x ∈ row, 0 ≤ x ∧ x < rss.length
structure Valid (d : Int) (rss : List (List Int)) (ls : List Bool) : Prop extends Ways d rss where
  d1 : 1 ≤ d
  d6 : d ≤ 6
  r1 : 1 ≤ rss.length
  r400 : rss.length ≤ 400
  ll : ls.length = rss.length
def WordOk (d : Int) (w : List Int) : Prop := ∀ x ∈ w, 0 ≤ x ∧ x < d
theorem wordBy_len (c d n : Int) : (wordBy c d n).length = n.toNat := by simp [wordBy]
theorem wordBy_ok (c : Int) {d : Int} (n : Int) (hd : 0 < d) : WordOk d (wordBy c d n) := fun x hx => by
  unfold wordBy at hx
  obtain ⟨k, hk, rfl⟩ := List.mem_map.mp hx
  exact ⟨draw_nn _ _ hd, draw_lt _ _ hd⟩
theorem map_range_snoc {α : Type} (f : Nat → α) (i : Nat) : (List.range (i + 1)).map f = (List.range i).map f ++ [f i] := by
  rw [List.range_succ, List.map_append]; rfl
end My
/-! ## Exceptions of the text's own classes: raised, passed on, caught -/
namespace L2
open PySem PySem.Spec PyProof.Rows

theorem ObjOk.ex {P : Program} {w : World} {H : Hp} {h : Heap} {a : Addr} {o : HO} (x : ObjOk P w H h a o) : ∃ ob, h.get? a = some ob := by
  cases o with
  | lst xs => obtain ⟨_, _, _, _, e⟩ := x; exact ⟨_, e⟩
  | tup xs => obtain ⟨_, _, _, ob, e, _⟩ := x; exact ⟨_, e⟩
  | dK kvs => obtain ⟨_, _, _, _, o, _, _, e, _⟩ := x; exact ⟨_, e⟩
  | dT kvs => obtain ⟨_, _, _, _, o, _, _, e, _⟩ := x; exact ⟨_, e⟩
  | set S n => obtain ⟨o, _, _, _, e, _⟩ := x; exact ⟨_, e⟩
  | ins C dx fs => obtain ⟨_, _, _, e, _⟩ := x; exact ⟨_, e⟩
  | own y => exact x
  | xd fs => obtain ⟨_, ⟨_, _, _, e, _⟩, _⟩ := x; exact ⟨_, e⟩
  | rng lo hi => obtain ⟨_, _, _, e⟩ := x; exact ⟨_, e⟩
  | frz ob u => obtain ⟨e, _⟩ := x; exact ⟨_, e⟩
  | tbl ps => exact ⟨_, x⟩
  | met f y => exact ⟨_, x⟩
  | ext φ => exact x.2.1

/-- an exception that has left a def: it flies over B, which holds all that stood at the raise but the frames -/
def CXr (P : Program) (w : World) : CXT := fun outer H s E e s' => ∃ (ea : Addr) (cls a0 : Value) (B : Heap) (H' : Hp), e = .ref ea ∧ s'.os = s.os ∧ AllBare s'.gens ∧ Un (frs outer) [] H H' s.heap s'.heap ∧ HOk P w H' s'.heap ∧
  Heap.FlyingW B outer ea cls a0 s'.heap ∧ (∀ b o, s.heap.get? b = some o → b ∉ frs outer → ∃ o', B.get? b = some o') ∧ (∀ b u, H' b = some u → ∃ o', B.get? b = some o') ∧ E cls none H'
structure Xp (X : Cx) (E : XK) : Prop where
  pass : Passes (CXr X.prog X.w) X E
  own : PassesOwn (model X.prog X.w) X.A X.env X.xe
def Xm (X : Cx) (E : XK) : Prop := ∀ (pins : List (Addr × Obj)) (σ : St) (H : Hp) (s : Shared) (h' : Heap) (e : Addr) (cls : Value) (args : List Value), Inv X pins σ H s → Heap.MadeExcOf s.heap h' e cls args → E cls none H → X.xe (.ref e) { s with heap := h' }

theorem leave_un {X : Cx} {pins : List (Addr × Obj)} {σ : St} {H : Hp} {s1 : Shared} (I : Inv X pins σ H s1) (he : X.ex = []) {B h' : Heap} (b1 : B.StaysIn s1.heap) (b2 : B.StaysIn h')
    (sm : ∀ b o, s1.heap.get? b = some o → b ∈ X.fs → ∃ sl, h'.get? b = some { o with slots := sl }) (d1 : ∀ b o, X.s₀.heap.get? b = some o → b ∉ X.fs → ∃ o', B.get? b = some o') (d2 : ∀ b u, H b = some u → ∃ o', B.get? b = some o') :
    Un X.fs [] X.H₀ H X.s₀.heap h' ∧ HOk X.prog X.w H h' := by
  have same : ∀ b o, s1.heap.get? b = some o → (∃ o', B.get? b = some o') → h'.get? b = some o := fun b o e ⟨o', e'⟩ => by
    have z := b1 b o' e'
    rw [e] at z; cases z
    exact b2 b o e'
  have nx : ∀ b, b ∉ X.ex := fun b z => by rw [he] at z; cases z
  refine ⟨⟨fun b o q n hb _ => same b o (I.base.keep b o q n hb (nx b)) (d1 b o q hb), fun b o q n hb _ => ?_, fun b o q n _ => I.base.free b o q n (nx b), fun b o q _ => ?_, I.base.tups, I.base.frzs, I.base.tbls⟩, fun b u e => ?_⟩
  · obtain ⟨sl, e1⟩ := I.base.slot b o q n hb (nx b)
    obtain ⟨sl', e2⟩ := sm b _ e1 hb
    exact ⟨sl', e2⟩
  · obtain ⟨o1, e1⟩ := I.base.there b o q (nx b)
    by_cases hb : b ∈ X.fs
    · obtain ⟨sl, e2⟩ := sm b o1 e1 hb
      exact ⟨_, e2⟩
    · exact ⟨_, same b o1 e1 (d1 b o q hb)⟩
  · refine (I.hok b u e).stay (fun c v hc q => same c v q ?_) (fun _ q => q) fun _ _ q => q
    rcases hc with z | z
    · rw [z]; exact d2 b u e
    · exact d2 c _ z

theorem Inv.offStack {X : Cx} {pins : List (Addr × Obj)} {σ : St} {H : Hp} {s : Shared} (I : Inv X pins σ H s) {b : Addr} {o : Obj} (q : X.s₀.heap.get? b = some o) (hb : b ∉ X.fs) : b ∉ frs X.stack := fun z => by
  rcases List.mem_cons.mp (I.stkSub b z) with z | z
  · rw [z] at q
    exact absurd (Nat.lt_of_lt_of_le (Heap.lt_size q) I.ok.above) (Nat.lt_irrefl _)
  · exact hb z
theorem Inv.nonrec {X : Cx} {pins : List (Addr × Obj)} {σ : St} {H : Hp} {s : Shared} (I : Inv X pins σ H s) {b : Addr} {o : Obj} (q : s.heap.get? b = some o) (hb : b ∈ X.fs) : ∀ vs, o.data ≠ .fields vs := by
  obtain ⟨_, o', e, hd⟩ := I.funs.mem hb
  rw [q] at e; cases e; exact hd

section
variable {P : Program} {w : World} {K : PySem.W.Frag} {mg : Str → Option Value} {base : Heap} {N : List Str} {qual : Str} {scope : Scope} {f : Addr} {cd : Value} {A : Around} {outer : List Env} {s : Shared} {H : Hp} {E : XK}
theorem xp_def : Xp (cxOf (CXr P w) P w K mg base N qual scope f cd A outer s H E) E where
  own := PassesOwn.leaving
  pass := by
    intro pins σ H1 s1 e s' I h
    obtain ⟨ea, cls, a0, B, H', rfl, ho, hg, u, hok, fl, dm, tr, hE⟩ := h
    have I' := I.call' ho u hok hg (fun b hb => by cases hb)
    refine wpAny_leaves_onW I.ok.frames rfl fl fun h' fl' sm => ?_
    obtain ⟨un, hk⟩ := leave_un I' rfl fl.1 fl'.1 (fun b o q hb => sm b o q (I'.nonrec q hb)) (fun b o q hb => by
      obtain ⟨o1, e1⟩ := I.base.there b o q (fun z => by cases z)
      exact dm b o1 e1 (I.offStack q hb)) tr
    exact ⟨ea, cls, a0, B, H', rfl, I'.os, hg, un, hk, fl', fun b o q hb => by
      obtain ⟨o1, e1⟩ := I.base.there b o q (fun z => by cases z)
      exact dm b o1 e1 (I.offStack q hb), tr, hE⟩
theorem xm_def : Xm (cxOf (CXr P w) P w K mg base N qual scope f cd A outer s H E) E := by
  intro pins σ H1 s1 h' e cls args I mx hE
  have hkb : (PySem.W.hideAll s1.heap (frs (cxOf (CXr P w) P w K mg base N qual scope f cd A outer s H E).stack)).StaysIn s1.heap := fun b o q => PySem.W.of_hideAll _ q
  have dm : ∀ b o, (cxOf (CXr P w) P w K mg base N qual scope f cd A outer s H E).s₀.heap.get? b = some o → b ∉ (cxOf (CXr P w) P w K mg base N qual scope f cd A outer s H E).fs → ∃ o', (PySem.W.hideAll s1.heap (frs (cxOf (CXr P w) P w K mg base N qual scope f cd A outer s H E).stack)).get? b = some o' := fun b o q hb => by
    obtain ⟨o1, e1⟩ := I.base.there b o q (fun z => by cases z)
    exact ⟨o1, PySem.W.hideAll_get _ e1 (I.offStack q hb)⟩
  have tr : ∀ b u, H1 b = some u → ∃ o', (PySem.W.hideAll s1.heap (frs (cxOf (CXr P w) P w K mg base N qual scope f cd A outer s H E).stack)).get? b = some o' := fun b u q => by
    obtain ⟨o1, e1⟩ := (I.hok b u q).ex
    exact ⟨o1, PySem.W.hideAll_get _ e1 (fun z => by rw [I.stkFree b z] at q; cases q)⟩
  refine wpAny_leaves_madeW I.ok.frames rfl hkb (PySem.W.funFrames_hide I.stack fun env he a ha => List.mem_filterMap.mpr ⟨env, he, ha⟩) mx fun h2 t fl tup hn sm => ?_
  obtain ⟨un, hk⟩ := leave_un I rfl hkb fl.1 (fun b o q hb => sm b o (mx.keeps b o q) (I.nonrec q hb)) dm tr
  exact ⟨e, cls, .ref t, _, H1, rfl, I.os, I.bare, un, hk, fl, dm, tr, hE⟩
end

/-- THE RULE for a def that may raise -/
theorem Fun.okX {P : Program} {w : World} {K : PySem.W.Frag} {mg : Str → Option Value} {base : Heap} {x qual : Str} {st : Stmt} {f : Addr} {fd : FuncData} {N ps : List Str} {k : Nat} {sp : Sp} (F : Fun K x qual st f fd) (S : FnScope N ps (defScope st)) (len : ∀ vs H Q E, sp vs H Q E → vs.length = ps.length)
    (hbody : ∀ (cdv : Value) (A : Around) (outer : List Env) (s : Shared) (H : Hp) (vs : List V) (Q : VK) (E : XK), Room k (A.deeper (envOfC qual (defScope st) s.heap.objs.size f cdv)) → sp vs H Q E →
      ∃ t, PSs (cxOf (CXr P w) P w K mg base N qual (defScope st) f cdv A outer s H E) (defBody st) t ∧ t { nx := fun _ H' => Q .non H', rt := Q } (start N vs) H) :
    FnOk P w K mg base (CXr P w) (k + 1) f fd ps sp := by
  obtain ⟨oc, od, kV, doc, pm, an, cdv, ct, osl, rfl, lk, hcd⟩ := F.ex
  exact fn_of lk hcd S len fun A outer s H vs Q E hr h => hbody cdv A outer s H vs Q E hr h

/-! ### raise -/
abbrev bmV : List Value := [.type "ValueError", .type "Exception", .type "BaseException", .type "object"]
structure ExcCls (K : PySem.W.Frag) (x : Str) (C : Addr) : Prop where
  at_ : PySem.W.nsIn K mainGlobals x = some (some (.ref C))
  exc : PySem.W.excIn K C bmV "ValueError.__new__" = true
def keyStr (e : DictEntry) : Option Str := match e.key with
  | .str n _ => some n
  | _ => none
theorem nsFind_none {es : Array DictEntry} (hk : StrKeys es) {x : Str} (h : x ∉ es.toList.filterMap keyStr) : nsFind es x = none := by
  cases e : nsFind es x with
  | none => rfl
  | some v =>
    exfalso
    unfold nsFind findBy at e
    rw [Option.map_eq_some_iff] at e
    obtain ⟨d, hd, _⟩ := e
    have hm := Array.mem_of_find?_eq_some hd
    have hp := Array.find?_some hd
    obtain ⟨n, t, hn⟩ := hk d hm
    refine h (List.mem_filterMap.mpr ⟨d, by simpa using hm, ?_⟩)
    unfold keyStr
    rw [hn] at hp ⊢
    have hp : (Value.str n t).isStr x = true := hp
    simp [Value.isStr] at hp
    simp [hp]
theorem own_mod {K : PySem.W.Frag} {mg : Str → Option Value} {base : Heap} {x : Str} {C : Addr} (M : Mod K mg base) (O : ExcCls K x C) : OwnCls x C bmV "ValueError.__new__" mg base := by
  obtain ⟨mb, hb, hbb⟩ := M.blt
  obtain ⟨o, es, ep, ho, hd, hk, hf⟩ := id M.glob
  exact PySem.W.own_of_in (p := default) (loose := es.toList.filterMap keyStr) M.kin ⟨M.glob, hb, M.nolimit, hbb, fun y _ hl _ _ _ => by rw [← hf y]; exact nsFind_none hk hl⟩ O.at_ O.exc

def tRaise (E : XK) (C : Addr) (ta : TA) : TS := fun _ σ H => ta σ H fun vs H1 => vs.length ≤ sizeLine ∧ E (.ref C) none H1
theorem ps_raise {X : Cx} {E : XK} {x : Str} {C : Addr} {e : Expr} {es : List Expr} {ta : TA} {np cpos pos : Pos} (xm : Xm X E) (hc : X.calm = true) (hg : Gl X x) (hm : X.mg x = some (.ref C)) (O : ExcCls X.K x C) (ha : PA X (e :: es) ta)
    (hd : (x == ("__debug__" : Str)) = false := by decide) (he : starEach (e :: es) X.env = (false, eval e X.env) :: starEach es X.env := by rfl) (hpl : (backTo cpos (starEach es X.env)).any (·.1) = false := by rfl) :
    PS X (.Raise (some (.Call (.Name x np) (e :: es) [] cpos)) none pos) (tRaise E C ta) := by
  intro pins s σ H D I h
  obtain ⟨tl, Nn, nm, q, bs, hdct, sn, sub, ab, col, dd, k0, k1, k2, k3, k5, mN, hC, hN, hni, T⟩ := (own_mod I.mod O).obj
  refine wpAny_Raise_call_subT (C := C) (nm := nm) (q := q) (N := Nn) (bs := bs) (bm := tl) (hdct := hdct) (sn := sn) (sub := sub) (ab := ab) (col := col) (dd := dd) (k0 := k0) (k1 := k1) (k2 := k2) (k3 := k3) (k5 := k5)
    PySem.F.excBase_ValueError (mN := mN) (T.hasType PySem.F.excBase_ValueError.hasBase) (I.ok.hd hc) (by rw [he]; show (false || (backTo cpos (starEach es X.env)).any (·.1)) = false; rw [hpl]; rfl) hni (ld_glob I hg hm ⟨rfl, ?_⟩ hd)
  have hA := ha cpos pins s σ H _ I h
  rw [he] at hA ⊢
  refine Calls.evalArgs_plain (thn hA fun us s2 hh => ?_)
  obtain ⟨vs, H2, I2, rv, hl, hE⟩ := hh
  exact ⟨rfl, by rw [← rv.length]; exact hl, I2.bk _ _ hC, hN.keeps I2.bk, T.keeps I2.bk, fun h' ea mx => xm pins σ H2 s2 h' ea _ _ I2 mx hE⟩

/-! ### f-strings of written texts and small ints: some text -/
def PJ (X : Cx) (es : List Expr) (t : St → Hp → (Hp → Prop) → Prop) : Prop :=
  ∀ (out : Str) (pins : List (Addr × Obj)) (s : Shared) (σ : St) (H : Hp) (Q : VK), out.length + 1000 * es.length + 1 ≤ sizeLine → Inv X pins σ H s → t σ H (fun H' => ∀ x, Q (.str x) H') → wpAny (model X.prog X.w) X.A (joinParts out (evalEach es X.env)) (EP X pins σ Q) X.xe s
def jNil : St → Hp → (Hp → Prop) → Prop := fun _ H Q => Q H
def jStr (t : St → Hp → (Hp → Prop) → Prop) : St → Hp → (Hp → Prop) → Prop := t
def jInt (te : TE) (t : St → Hp → (Hp → Prop) → Prop) : St → Hp → (Hp → Prop) → Prop := fun σ H Q => te σ H fun x H1 => ∃ i : Int, x = .int i ∧ i.natAbs.log2 < 64 ∧ t σ H1 Q
def tJoined (t : St → Hp → (Hp → Prop) → Prop) : TE := fun σ H Q => t σ H fun H' => ∀ x, Q (.str x) H'
section
variable {X : Cx} {e : Expr} {es : List Expr} {te : TE} {t : St → Hp → (Hp → Prop) → Prop} {pos p1 p2 : Pos} {c : Str} {k : Nat}
theorem pj_nil : PJ X [] jNil := fun out pins s σ H Q hz I h => joinParts_nil ⟨.str out, H, I.tok _, ⟨_, rfl⟩, h out⟩ (by omega)
theorem pj_str (hr : PJ X es t) (hc : c.length ≤ 1000 := by decide) : PJ X (.Constant (.str c) k pos :: es) (jStr t) := by
  intro out pins s σ H Q hz I h
  refine joinParts_cons (Calls.Constant_str ?_)
  rw [List.length_cons] at hz
  have hl : (out ++ c).length = out.length + c.length := strLen_append ..
  exact ⟨by rw [hl]; omega, hr (out ++ c) pins _ σ H Q (by rw [hl]; omega) (I.tok _) h⟩
theorem pj_int (he : PE X e te) (hr : PJ X es t) : PJ X (.FormattedValue e (-1) none pos :: es) (jInt te t) := by
  intro out pins s σ H Q hz I h
  refine joinParts_cons (FormattedValue_plain (thn (he pins s σ H _ I h) fun v s1 hh => ?_))
  obtain ⟨x, H1, I1, r, i, rfl, hi, h1⟩ := hh
  obtain ⟨tk, rfl⟩ := r
  rw [List.length_cons] at hz
  refine formatField_int_small (Nat.lt_trans hi (by decide)) ?_
  have hl : (out ++ (Str.ofString (toString i))).length = out.length + (Str.ofString (toString i)).length := strLen_append ..
  have h2 := int_text_length_le (a := i) (k := 64) (by decide) hi
  have h3 : (Str.ofString (toString i)).length = (toString i).length := PySem.ofString_length _
  exact ⟨by rw [show (out ++ (toString i : Str)).length = _ from hl, h3]; omega, hr _ pins _ σ H1 Q (by rw [show (out ++ (toString i : Str)).length = _ from hl, h3]; omega) (I1.tok _) h1⟩
theorem pe_joined {v₁ v₂ : Expr} (h : PJ X (v₁ :: v₂ :: es) t) (hz : 1000 * (es.length + 2) + 1 ≤ sizeLine := by decide) : PE X (.JoinedStr (v₁ :: v₂ :: es) pos) (tJoined t) := by
  intro pins s σ H Q I hw
  exact JoinedStr_many (h Str.empty pins s σ H Q (by show 0 + 1000 * (es.length + 1 + 1) + 1 ≤ sizeLine; omega) I hw)
end
end L2
namespace L2
open PySem PySem.W PySem.Spec PyProof.Rows PySem.Calls
section
variable {prog : Program} {w : World} {A : Around} {E : Value → Shared → Prop} {h : Heap} {g : Array GenState} {d : Drawn} {t : Nat} {os : OsState} {a C : Addr} {o : Obj} {K : Frag}
  {nm q : Str} {N : Addr} {bs bm : List Value} {hdct : Bool} {sn : List Str} {sub : List Value} {ab : Bool} {col : Option Bool} {dd : Option Addr} {k0 k1 k2 k3 k5 : Option Value} {newId : String}
theorem xc_get {R : Result → Shared → Prop} {tp : Value} (hC : h.get? C = some (excClassObj nm q C N bs bm hdct sn sub ab col dd k0 k1 k2 k3 k5 newId)) (T : OwnTail h bmV bm) (hx : h.get? a = some o) (hc : o.cls = .ref C) (hq : R (.ok (.ret (.ref C))) ⟨h, g, d, t, os⟩) :
    codeAny (model prog w) A (.call (.builtin "getset_descriptor.__get__") ⟨[.builtin "object.__class__", .ref a, tp], []⟩) R ⟨h, g, d, t, os⟩ := by
  have ofObj : (Value.ref C :: bm).contains (.type (".".intercalate ("object.__class__".cutAt '.').dropLast)) = true := by
    rw [F.owner_object_class, List.contains_cons, T.hasType (b := true) (by decide +kernel)]; rfl
  have hT5 : (⟨h, g, d, t, os⟩ : Shared).TypeIs (.builtin "object.__class__") "getset_descriptor" := F.typeOf_object_class
  refine codeAny_call_builtin F.slot_gs_get.plain
    F.entry_gs_get (F.slot_gs_get.check _ _ _ _ _ _ _ _ hT5
      (F.args_gs_get _ _ _) ?_)
  repeat (any_goals (first | assumption | (with_reducible refine wpAny_loadPart_at hx ?_; rw [hc]) | (with_reducible refine wpAny_isSubtype_exc hC ?_; rw [ofObj]) | wp_step))
  refine ⟨Code.quiet_builtin _ (by decide +kernel), codeAny_builtin
    F.entry_object_class ?_⟩
  repeat (any_goals (first | assumption | (with_reducible refine wpAny_loadPart_at hx ?_; rw [hc]) | wp_step))
theorem xc_entry {tk : Tok} {Q : Fin → Shared → Prop} (X : K.In h) (e3 : findIn K (.ref C) "__class__" = some (some (.builtin "object.__class__"))) (hC : h.get? C = some (excClassObj nm q C N bs bm hdct sn sub ab col dd k0 k1 k2 k3 k5 newId)) (T : OwnTail h bmV bm) (hx : h.get? a = some o) (hc : o.cls = .ref C)
    (hq : Q (.done (.ret (.ref C))) ⟨h, g, d, t, os⟩) :
    wpAny (model prog w) A (Builtin.«object.__getattribute__» ⟨[.ref a, .str "__class__" tk], []⟩) Q E ⟨h, g, d, t, os⟩ := by
  have hT5 : (⟨h, g, d, t, os⟩ : Shared).TypeIs (.builtin "object.__class__") "getset_descriptor" := F.typeOf_object_class
  have f5 := F.typeOf_object_class
  have f6 := F.slot_gs_get.lookup
  have f7 := F.slot_gs_set.lookup
  have LC := looks_findIn (M := model prog w) X e3
  repeat (any_goals (first | assumption | (with_reducible refine wpAny_loadPart_at hx ?_; rw [hc]) | with_reducible refine Looks.at LC ?_ | wp_step))
  refine xc_get hC T hx hc ?_
  repeat (any_goals (first | assumption | wp_step))
theorem xc_check {M : Model} {nv : Value} {Q : Unit → Shared → Prop} (hC : h.get? C = some (excClassObj nm q C N bs bm hdct sn sub ab col dd k0 k1 k2 k3 k5 newId)) (T : OwnTail h bmV bm) (hx : h.get? a = some o) (hc : o.cls = .ref C)
    (hq : Q () ⟨h, g, d, t, os⟩) : wpAny M A (checkBuiltinCall "BaseException.__getattribute__" ⟨[.ref a, nv], []⟩) Q E ⟨h, g, d, t, os⟩ := by
  have kd : builtinKind "BaseException.__getattribute__" = some .slot := by decide +kernel
  have sp : splitId "BaseException.__getattribute__" = some ("BaseException", "__getattribute__") := by decide +kernel
  have isB : (Value.ref C :: bm).contains (.type "BaseException") = true := by
    rw [List.contains_cons, T.hasType (b := true) (by decide +kernel)]; rfl
  have ok := F.args_bexc_ga (.ref a) nv
  simp only [checkBuiltinCall, kd, sp]
  refine wpAny_bind ?_
  unfold isInstance
  repeat (first | (with_reducible refine wpAny_loadPart_at hx ?_; rw [hc]) | (with_reducible refine wpAny_isSubtype_exc hC ?_; rw [isB]) | wp_step)
  exact hq
theorem xc_by {tk : Tok} {Q : Value → Shared → Prop} (X : K.In h) (e1 : findIn K (.ref C) "__getattribute__" = some (some (.builtin "BaseException.__getattribute__"))) (e2 : findIn K (.ref C) "__getattr__" = some none)
    (e3 : findIn K (.ref C) "__class__" = some (some (.builtin "object.__class__"))) (hC : h.get? C = some (excClassObj nm q C N bs bm hdct sn sub ab col dd k0 k1 k2 k3 k5 newId)) (T : OwnTail h bmV bm) (hx : h.get? a = some o) (hc : o.cls = .ref C)
    (hq : Q (.ref C) ⟨h, g, d, t, os⟩) : wpAny (model prog w) A (getAttrBy (.ref a) (.str "__class__" tk) false) Q E ⟨h, g, d, t, os⟩ := by
  have LG := looks_findIn (M := model prog w) X e1
  have LN := looks_findIn (M := model prog w) X e2
  have f3 := PySem.F.attr_ValueError.ga.bind (.ref a)
  have nh : (onTheHeap (Value.ref C) && Value.builtin "BaseException.__getattribute__" == Value.builtin "object.__getattribute__") = false := by
    rw [show (Value.builtin "BaseException.__getattribute__" == Value.builtin "object.__getattribute__") = false from by decide +kernel, Bool.and_false]
  repeat (any_goals (first | assumption | (with_reducible refine wpAny_loadPart_at hx ?_; rw [hc]) | with_reducible refine Looks.at LG ?_ | with_reducible refine Looks.at LN ?_ | wp_step))
  refine codeAny_call_builtin PySem.F.attr_ValueError.ga.plain F.entry_bexc_ga (xc_check hC T hx hc (xc_entry X e3 hC T hx hc ?_))
  repeat (any_goals (first | assumption | wp_step))
theorem xc_attr {Q : Option Value → Shared → Prop} (X : K.In h) (e1 : findIn K (.ref C) "__getattribute__" = some (some (.builtin "BaseException.__getattribute__"))) (e2 : findIn K (.ref C) "__getattr__" = some none)
    (e3 : findIn K (.ref C) "__class__" = some (some (.builtin "object.__class__"))) (hC : h.get? C = some (excClassObj nm q C N bs bm hdct sn sub ab col dd k0 k1 k2 k3 k5 newId)) (T : OwnTail h bmV bm) (hx : h.get? a = some o) (hc : o.cls = .ref C)
    (hq : Q (some (.ref C)) ⟨h, g, d, t + 1, os⟩) : wpAny (model prog w) A (getAttr? (.ref a) "__class__") Q E ⟨h, g, d, t, os⟩ := by
  unfold getAttr? getAttrBy?
  repeat (any_goals (first | assumption | with_reducible apply xc_by X e1 e2 e3 hC T hx hc | wp_step))
end
/-- what the written part tells of an error class of the text's own -/
structure ExcK (K : Frag) (x : Str) (C : Addr) : Prop extends ExcCls K x C where
  e1 : findIn K (.ref C) "__getattribute__" = some (some (.builtin "BaseException.__getattribute__"))
  e2 : findIn K (.ref C) "__getattr__" = some none
  e3 : findIn K (.ref C) "__class__" = some (some (.builtin "object.__class__"))
  e4 : (clsIn K C).isSome = true
def ExcAt (ea C : Addr) : Heap → Prop := fun h => ∃ o vs, h.get? ea = some o ∧ o.cls = .ref C ∧ o.data = .fields vs
theorem kitx_exc {K : Frag} {mg : Str → Option Value} {base : Heap} {x : Str} {C ea : Addr} (M : Mod K mg base) (O : ExcK K x C) :
    KitX K (.ref ea) (.ref C) (fun h => ExcAt ea C h ∧ ∀ b o, base.get? b = some o → h.get? b = some o) where
  ty := fun _ h _ p => by
    obtain ⟨⟨o, vs, hx, hc, _⟩, _⟩ := p
    exact hc ▸ (Looks.ld hx).andThen .now
  it := fun _ h X _ => by
    have e := O.e4
    unfold clsIn at e
    split at e
    · rename_i c' d' cd' sl' ho
      intro A' Q' E' s' k q
      unfold isType loadHead
      exact wpAny_bind (wpAny_loadPart (k _ _ (X _ _ ho)) (wpAny_pure q))
    · cases e
  ne := fun h tp dd its n sl X htp => by
    refine Bool.eq_false_iff.mpr fun q => ?_
    have e := O.e4
    have z : C = tp := Value.ref.inj (beq_iff_eq.mp q)
    subst z
    unfold clsIn at e
    split at e
    · rename_i c' d' cd' sl' ho
      have z := (X _ _ ho).symm.trans htp
      cases z
    · cases e
  ca := fun {prog w A E Q s} X p k => by
    obtain ⟨hp, g, d, t, os⟩ := s
    obtain ⟨⟨o, vs, hx, hc, _⟩, kp⟩ := p
    obtain ⟨tl, Nn, nm, q, bs, hdct, sn, sub, ab, col, dd, k0, k1, k2, k3, k5, mN, hC, hN, hni, T⟩ := ((own_mod M O.toExcCls).keeps kp).obj
    exact xc_attr X O.e1 O.e2 O.e3 hC T hx hc k
end L2
namespace L2
open PySem PySem.Spec PyProof.Rows
structure RoomH (k : Nat) (A : Around) : Prop where
  dp : A.depth + 3 * k + 5 < recursionLimit
  un : A.units + 16 * k + 200 < cLine
theorem RoomH.deeper {k : Nat} {A : Around} (r : RoomH (k + 1) A) (env : Env) : RoomH k (A.deeper env) :=
  ⟨by have := r.dp; show A.depth + 1 + 3 * k + 5 < _; omega, by have := r.un; show A.units + 3 + 16 * k + 200 < _; omega⟩
theorem RoomH.depth {k : Nat} {A : Around} (r : RoomH k A) : A.depth < recursionLimit := by have := r.dp; omega
structure FnOkH (P : Program) (w : World) (K : PySem.W.Frag) (mg : Str → Option Value) (base : Heap) (CX : CXT) (k : Nat) (f : Addr) (fd : FuncData) (ps : List Str) (sp : Sp) : Prop where
  len : ∀ vs H Q E, sp vs H Q E → vs.length = ps.length
  run : ∀ (A : Around) (outer : List Env) (s : Shared) (H : Hp) (args : Args) (us : List Value) (vs : List V) (Q : VK) (E : XK), RoomH k A → Env0 P w K mg base A outer s H → BindsTo s fd args (ps.zip us) → Vals vs us → sp vs H Q E →
    codeAny (model P w) A (.call (.ref f) args) (CR CX outer P w H s Q E) s
section
variable {X : Cx} {CX : CXT} {k : Nat} {f C : Addr} {fd : FuncData} {ps : List Str} {sp : Sp} {dvs : List V} {ds : List Value} {E : XK} {x m : Str} {p pos apos : Pos} {e o : Expr} {es : List Expr} {ta : TE} {t : TA}
theorem run_fnH {pins : List (Addr × Obj)} {σ : St} {H : Hp} {s : Shared} {Q : VK} {us : List Value} {vs : List V} (F : FnOkH X.prog X.w X.K X.mg X.base CX k f fd ps sp) (hr : RoomH k X.A) (hb : Binds X.K fd ps ds) (hd : Vals dvs ds) (hx : Passes CX X E)
    (I : Inv X pins σ H s) (r : Vals vs us) (h : sp (vs ++ dvs) H Q E) : wpAny (model X.prog X.w) X.A (call (.ref f) us) (EP X pins σ Q) X.xe s := by
  have r2 : Vals (vs ++ dvs) (us ++ ds) := r.append hd
  have hl : (us ++ ds).length = ps.length := by rw [← r2.length]; exact F.len _ _ _ _ h
  refine wpAny_call (codeAny_mono (F.run X.A X.stack s H ⟨us, []⟩ (us ++ ds) (vs ++ dvs) Q E hr I.env0 (hb s us I.kIn hl) r2 h) fun r s' hq => ?_)
  cases r with
  | error e => exact hx pins σ H s e s' I hq
  | ok fl =>
    cases fl with
    | ret u => exact I.after hq
    | next => exact False.elim hq
    | brk => exact False.elim hq
    | cont => exact False.elim hq
theorem pe_callH (F : FnOkH X.prog X.w X.K X.mg X.base CX k f fd ps sp) (hr : RoomH k X.A) (hg : Gl X x) (hm : X.mg x = some (.ref f)) (hk : PySem.W.keepIn X.K (.ref f) = true) (hb : Binds X.K fd ps ds) (hd : Vals dvs ds) (hx : Passes CX X E)
    (ha : PA X (e :: es) t) (hdb : (x == ("__debug__" : Str)) = false := by decide) (he : starEach (e :: es) X.env = (false, eval e X.env) :: starEach es X.env := by rfl) (hpl : (backTo pos (starEach es X.env)).any (·.1) = false := by rfl) :
    PE X (.Call (.Name x p) (e :: es) [] pos) (tCall sp dvs E t) := by
  intro pins s σ H Q I h
  refine wpAny_Call_Name_kw (ld_glob I hg hm ?_ hdb)
  refine PySem.W.callWith_K (h₀ := X.base) I.ok.mod.kin hk (thn (ha pos pins s σ H _ I h) fun us s1 ⟨vs, H1, I1, r, q⟩ => ⟨I1.kIn, ?_⟩) he hpl
  exact run_fnH F hr hb hd hx I1 r q
end
def cxOfH (CX : CXT) (P : Program) (w : World) (K : PySem.W.Frag) (mg : Str → Option Value) (base : Heap) (N : List Str) (qual : Str) (scope : Scope) (f : Addr) (cd : Value) (A : Around) (outer : List Env) (s : Shared) (H : Hp) (E : XK) : Cx where
  prog := P
  w := w
  K := K
  mg := mg
  base := base
  A := A.deeper (envOfC qual scope s.heap.objs.size f cd)
  N := N
  s₀ := s
  H₀ := H
  env := envOfC qual scope s.heap.objs.size f cd
  outer := outer
  stack := envOfC qual scope s.heap.objs.size f cd :: outer
  ex := []
  calm := false
  fn := fun _ => true
  pn := []
  xe := fun e s' => wpAny (model P w) (A.deeper (envOfC qual scope s.heap.objs.size f cd)) (leaving (envOfC qual scope s.heap.objs.size f cd) e) (fun _ s'' => CX outer H s E e s'') (fun e' s'' => CX outer H s E e' s'') s'
theorem inv_startH {CX : CXT} {P : Program} {w : World} {K : PySem.W.Frag} {mg : Str → Option Value} {base : Heap} {N ps : List Str} {qual : Str} {scope : Scope} {f : Addr} {cd : Value} {A : Around} {outer : List Env} {s s1 : Shared} {H : Hp} {E : XK} {us : List Value} {vs : List V}
    (S : FnScope N ps scope) (e0 : Env0 P w K mg base A outer s H) (hl : vs.length = ps.length) (r : Vals vs us)
    (x : InCallC s s.heap.objs.size (bindL (envOfC qual scope s.heap.objs.size f cd).kindOf (ps.zip us) fun _ => none) (cellsFrom (s.heap.objs.size + 1) scope.names []) (bindC (envOfC qual scope s.heap.objs.size f cd).kindOf (ps.zip us) fun _ => none) s1) :
    Inv (cxOfH CX P w K mg base N qual scope f cd A outer s H E) [] (start N vs) H s1 := by
  have hpl : ps.length ≤ N.length := by have := congrArg List.length S.pre; rw [List.length_take] at this; omega
  obtain ⟨h1, tk, rfl, hk⟩ := x.done
  have noA : ∀ b : Addr, b ∉ (cxOfH CX P w K mg base N qual scope f cd A outer s H E).ex := fun b z => absurd (show b ∈ ([] : List Addr) from z) (by simp)
  refine ⟨⟨e0.mod, S.kind, rfl, rfl, Nat.le_refl _, fun y z c h1 h2 => ?_, fun y hy => ?_, fun y c _ h => ?_, fun z => (by cases z), Around.frames_deeper e0.frames, .inr ⟨rfl, rfl⟩, fun b z => absurd z (noA b), e0.bs, e0.bsz, fun b _ _ => noA b, fun b z => absurd z (noA b), e0.funs, e0.frf⟩,
    rfl, e0.bare, Un.kept hk, ⟨_, x.toInCall.ns, fun i y v h1 h2 h3 => ?_⟩, fun y c h => ⟨_, x.cell y c h⟩, e0.hok.fresh (Nat.le_refl _), fun y c h => ?_, fun p hp => absurd (show p ∈ ([] : List (Addr × Obj)) from hp) (by simp), e0.hok.kept hk, ?_⟩
  · exact name_of_addr x.apart (PySem.mem_of_lookup h1) (PySem.mem_of_lookup h2)
  · have hy : scope.names.lookup y = some .cell ∨ scope.names.lookup y = some .free := hy
    rcases hy with hy | hy
    · exact cell_has hy
    · exact absurd rfl (S.nofree _ (PySem.mem_of_lookup hy))
  · exact Nat.le_of_lt (x.above y c (PySem.mem_of_lookup h))
  · have hi : i < vs.length := by
      unfold start at h2
      by_cases hi : i < vs.length
      · exact hi
      · rw [List.getElem?_append_right (by simpa using hi)] at h2
        rw [List.getElem?_replicate] at h2
        split at h2 <;> cases h2
    have ha : vs[i]? = some v := by
      unfold start at h2
      rw [List.getElem?_append_left (by simpa using hi), List.getElem?_map] at h2
      cases e : vs[i]? with
      | none => rw [e] at h2; cases h2
      | some a => rw [e] at h2; cases h2; rfl
    obtain ⟨u, hu, rv⟩ := r.get ha
    have hp : ps[i]? = some y := by
      rw [← S.pre, List.getElem?_take_of_lt (by omega)]; exact h1
    have ndP : ps.Nodup := by rw [← S.pre]; exact S.nd.sublist (List.take_sublist _ _)
    refine ⟨u, rv, ?_⟩
    rcases S.par y (List.mem_of_getElem? hp) with k | k
    · exact .inl ⟨k, bindL_get ndP hp hu k⟩
    · obtain ⟨c, e⟩ := cell_has (n := s.heap.objs.size + 1) k
      refine .inr ⟨.inl k, c, e, ?_⟩
      have q := x.cell y c e
      rw [bindC_get ndP hp hu (by show scope.names.lookup y ≠ _; rw [k]; decide)] at q
      exact q
  · exact e0.hok.fresh (Nat.le_of_lt (x.above y c (PySem.mem_of_lookup h)))
  · unfold start
    show _ = N.length
    rw [List.length_append, List.length_map, List.length_replicate]
    omega
theorem fn_ofH {CX : CXT} {P : Program} {w : World} {K : PySem.W.Frag} {mg : Str → Option Value} {base : Heap} {k : Nat} {f : Addr} {name qual : Str} {params : Arguments} {body : List Stmt} {scope : Scope} {dV kV doc pm cdv ct oc : Value} {an od : Option Addr}
    {osl : Array (Option Value)} {N ps : List Str} {sp : Sp} (lk : K.lookup f = some ⟨oc, od, .func (PySem.W.fnOf name qual params body scope dV kV doc pm an cdv ct), osl⟩) (hcd : PySem.W.codeIn K cdv qual = true) (S : FnScope N ps scope)
    (len : ∀ vs H Q E, sp vs H Q E → vs.length = ps.length)
    (hbody : ∀ (A : Around) (outer : List Env) (s : Shared) (H : Hp) (vs : List V) (Q : VK) (E : XK), RoomH k (A.deeper (envOfC qual scope s.heap.objs.size f cdv)) → sp vs H Q E →
      ∃ t, PSs (cxOfH CX P w K mg base N qual scope f cdv A outer s H E) body t ∧ t { nx := fun _ H' => Q .non H', rt := Q } (start N vs) H) :
    FnOkH P w K mg base CX (k + 1) f (PySem.W.fnOf name qual params body scope dV kV doc pm an cdv ct) ps sp := by
  refine ⟨len, fun A outer s H args us vs Q E hr e0 hb r hsp => ?_⟩
  have hl := len _ _ _ _ hsp
  have KX : K.In s.heap := e0.mod.kin.keeps fun b o e => (e0.bs b o e).1
  have lim : s.heap.NoLimit := e0.mod.nolimit.keeps fun b o e => (e0.bs b o e).1
  have hkind : ∀ y ∈ ps.zip us, scope.names.lookup y.1 = some .local ∨ (scope.names.lookup y.1 = some .cell ∧ ((cellsFrom (s.heap.objs.size + 1) scope.names []).lookup y.1).isSome = true) := fun ⟨n, v⟩ hy => by
    rcases S.par n (List.of_mem_zip hy).1 with q | q
    · exact .inl q
    · exact .inr ⟨q, PySem.W.cellsFrom_some _ _ _ (.inl q)⟩
  refine codeAny_call_function hr.depth (KX _ _ lk) rfl S.co S.gen rfl (PySem.W.codeRec_of KX hcd) (hb _ _ _ _ ?_)
  refine wpAny_newFunctionEnv_cells S.kind hkind fun env he s1 x => ?_
  subst he
  refine ⟨lim.keeps x.toInCall.keep, codeAny_func ?_⟩
  obtain ⟨t, ht, hq⟩ := hbody A outer s H vs Q E (hr.deeper _) hsp
  have I : Inv (cxOfH CX P w K mg base N qual scope f cdv A outer s H E) [] (start N vs) H s1 := inv_startH S e0 hl r x
  refine wpAny_mono (ht [] s1 (start N vs) H _ I hq) (fun fl s' hs => ?_) fun e s' hs => hs
  have fin : ∀ {σ' : St} {H' : Hp} {v : V} {u : Value}, Inv (cxOfH CX P w K mg base N qual scope f cdv A outer s H E) [] σ' H' s' → RelV v u → Q v H' → CE outer P w H s Q u s' :=
    fun {σ' H' v u} J rv q => ⟨v, H', J.os, J.bare, J.base, J.hok, rv, q⟩
  cases fl with
  | ret u =>
    obtain ⟨v, σ', H', J, rv, q⟩ := hs
    exact fin J rv q
  | next =>
    obtain ⟨σ', H', J, q⟩ := hs
    exact fin (v := V.non) (u := Value.none) J rfl q
  | brk =>
    obtain ⟨_, _, _, q⟩ := hs
    exact False.elim q
  | cont =>
    obtain ⟨_, _, _, q⟩ := hs
    exact False.elim q
section
variable {P : Program} {w : World} {K : PySem.W.Frag} {mg : Str → Option Value} {base : Heap}
theorem Fun.okH {x qual : Str} {st : Stmt} {f : Addr} {fd : FuncData} {N ps : List Str} {k : Nat} {sp : Sp} (F : Fun K x qual st f fd) (S : FnScope N ps (defScope st)) (len : ∀ vs H Q E, sp vs H Q E → vs.length = ps.length)
    (hbody : ∀ (cdv : Value) (A : Around) (outer : List Env) (s : Shared) (H : Hp) (vs : List V) (Q : VK) (E : XK), RoomH k (A.deeper (envOfC qual (defScope st) s.heap.objs.size f cdv)) → sp vs H Q E →
      ∃ t, PSs (cxOfH CX0 P w K mg base N qual (defScope st) f cdv A outer s H E).nox (defBody st) t ∧ t { nx := fun _ H' => Q .non H', rt := Q } (start N vs) H) : FnOkH P w K mg base CX0 (k + 1) f fd ps sp := by
  obtain ⟨oc, od, kV, doc, pm, an, cdv, ct, osl, rfl, lk, hcd⟩ := F.ex
  refine fn_ofH lk hcd S len fun A outer s H vs Q E hr hsp => ?_
  obtain ⟨t, h, q⟩ := hbody cdv A outer s H vs Q E hr hsp
  exact ⟨t, h.nox, q⟩
end
end L2

/-! ### isinstance of a caught exception; try -/
namespace L2
open PySem PySem.Spec PyProof.Rows
theorem vals_refs : ∀ {cs : List Addr} {us : List Value}, Vals (cs.map V.ref) us → us = cs.map Value.ref
  | [], _, r => by cases r; rfl
  | c :: cs, _, r => by
    cases r with
    | cons r rr => cases r; rw [vals_refs rr]; rfl
section
variable {X : Cx} (K : PySem.W.Frag)
theorem call_isinstX (hK : X.K = K := by rfl) : CallR X (.builtin "isinstance") (fun xs H Q => ∃ (ea C : Addr) (x : Str) (c : V) (cv : Value) (b : Bool), xs = [.ref ea, c] ∧ H ea = some (.ext (ExcAt ea C)) ∧ ExcK K x C ∧ cvV c = some cv ∧ PySem.W.kitOne K (.ref C) cv = some b ∧ Q (.bl b) H) := by
  subst hK
  intro pins s σ H xs us Q I r h
  obtain ⟨ea, C, x, c, cv, b, rfl, he, O, hc, hk, q⟩ := h
  obtain ⟨u, w', rfl, r1, r2⟩ := vals2 r
  have e : w' = cv := by
    cases c with
    | ty n => have h1 : w' = Value.type n := r2; have h2 : some (Value.type n) = some cv := hc; cases h2; exact h1
    | ref a => have h1 : w' = Value.ref a := r2; have h2 : some (Value.ref a) = some cv := hc; cases h2; exact h1
    | non => cases hc
    | bl _ => cases hc
    | int _ => cases hc
    | str _ => cases hc
    | byt _ => cases hc
    | flt _ => cases hc
  subst e
  cases r1
  have φ : ExcAt ea C s.heap := (show ObjOk X.prog X.w H s.heap ea (.ext (ExcAt ea C)) from I.hok ea _ he).1
  exact PySem.W.kia_one (kitx_exc I.mod O) I.kIn ⟨φ, I.bk⟩ hk (fun z => nomatch z) fun tk => ⟨.bl b, H, I.tok tk, rfl, q⟩
theorem call_isinstXT (hK : X.K = K := by rfl) : CallR X (.builtin "isinstance") (fun xs H Q => ∃ (ea C : Addr) (x : Str) (tp : Addr) (cs : List Addr) (b : Bool), xs = [.ref ea, .ref tp] ∧ H ea = some (.ext (ExcAt ea C)) ∧ ExcK K x C ∧ H tp = some (.tup (cs.map V.ref)) ∧ PySem.W.kitAny K (.ref C) (cs.map Value.ref) = some b ∧ Q (.bl b) H) := by
  subst hK
  intro pins s σ H xs us Q I r h
  obtain ⟨ea, C, x, tp, cs, b, rfl, he, O, ht, hk, q⟩ := h
  obtain ⟨u, w', rfl, r1, r2⟩ := vals2 r
  cases r1
  cases r2
  have φ : ExcAt ea C s.heap := (show ObjOk X.prog X.w H s.heap ea (.ext (ExcAt ea C)) from I.hok ea _ he).1
  obtain ⟨_, its, rv, o, h1, h2, n, h3⟩ := (show ObjOk X.prog X.w H s.heap tp (.tup (cs.map V.ref)) from I.hok tp _ ht)
  have ei := vals_refs rv
  subst ei
  obtain ⟨cl, dd, dt, sl⟩ := o
  have h2 : cl = .type "tuple" := h2
  have h3 : dt = .seq (cs.map Value.ref).toArray n := h3
  subst h2 h3
  exact PySem.W.kia_tup (kitx_exc I.mod O) I.kIn ⟨φ, I.bk⟩ h1 hk (fun z => nomatch z) fun tk => ⟨.bl b, H, I.tok tk, rfl, q⟩
end

def wish2 (X : Cx) (xe : Value → Shared → Prop) (pn : List (Addr × Obj)) : Cx := { X with xe := xe, pn := pn }
def suiteX (X : Cx) (ea : Addr) (pn : List (Addr × Obj)) : Cx := { X with A := X.A.mark (some (.ref ea)), calm := false, xe := fun _ _ => False, pn := pn }
section
variable {X : Cx} {pins pins1 : List (Addr × Obj)} {σ : St} {H : Hp} {s : Shared} {xe : Value → Shared → Prop} {ea : Addr}
theorem Inv.toW (I : Inv X pins σ H s) : Inv (wish2 X xe (X.pn ++ pins)) [] σ H s :=
  ⟨⟨I.ok.mod, I.ok.kind, I.ok.glob, I.ok.blt, I.ok.above, I.ok.inj, I.ok.has, I.ok.cab, I.ok.hd, I.ok.frames, I.ok.stk, I.ok.exf, I.ok.bs, I.ok.bsz, I.ok.noex, I.ok.exfs, I.ok.funs, I.ok.frf⟩, I.os, I.bare, I.base, I.loc, I.cell, I.free, I.freeC,
    fun p hp => I.pin p (by have z : p ∈ (X.pn ++ pins) ++ [] := hp; simpa using z), I.hok, I.len⟩
theorem Inv.ofW (I : Inv (wish2 X xe (X.pn ++ pins)) pins1 σ H s) : Inv X pins σ H s :=
  ⟨⟨I.ok.mod, I.ok.kind, I.ok.glob, I.ok.blt, I.ok.above, I.ok.inj, I.ok.has, I.ok.cab, I.ok.hd, I.ok.frames, I.ok.stk, I.ok.exf, I.ok.bs, I.ok.bsz, I.ok.noex, I.ok.exfs, I.ok.funs, I.ok.frf⟩, I.os, I.bare, I.base, I.loc, I.cell, I.free, I.freeC,
    fun p hp => I.pin p (List.mem_append_left _ hp), I.hok, I.len⟩
theorem Inv.toS (I : Inv X pins σ H s) : Inv (suiteX X ea (X.pn ++ pins)) [] σ H s :=
  ⟨⟨I.ok.mod, I.ok.kind, I.ok.glob, I.ok.blt, I.ok.above, I.ok.inj, I.ok.has, I.ok.cab, fun z => (by cases z), I.ok.frames, I.ok.stk, I.ok.exf, I.ok.bs, I.ok.bsz, I.ok.noex, I.ok.exfs, I.ok.funs, I.ok.frf⟩, I.os, I.bare, I.base, I.loc, I.cell, I.free, I.freeC,
    fun p hp => I.pin p (by have z : p ∈ (X.pn ++ pins) ++ [] := hp; simpa using z), I.hok, I.len⟩
theorem Inv.ofS (hd : X.calm = true → X.A.handled = none) (fr : X.A.frames = some X.stack) (I : Inv (suiteX X ea (X.pn ++ pins)) pins1 σ H s) : Inv X pins σ H s :=
  ⟨⟨I.ok.mod, I.ok.kind, I.ok.glob, I.ok.blt, I.ok.above, I.ok.inj, I.ok.has, I.ok.cab, hd, fr, I.ok.stk, I.ok.exf, I.ok.bs, I.ok.bsz, I.ok.noex, I.ok.exfs, I.ok.funs, I.ok.frf⟩, I.os, I.bare, I.base, I.loc, I.cell, I.free, I.freeC,
    fun p hp => I.pin p (List.mem_append_left _ hp), I.hok, I.len⟩

/-- over a call that ended in an exception, and what the machine did to the frames since -/
theorem fly_un {H' : Hp} {s' : Shared} {B h5 : Heap} (I : Inv X pins σ H s) (u : Un (frs X.stack) [] H H' s.heap s'.heap) (hok : HOk X.prog X.w H' s'.heap) (b1 : B.StaysIn s'.heap) (b2 : B.StaysIn h5) (sm : s'.heap.UpToSlots h5)
    (dm : ∀ b o, s.heap.get? b = some o → b ∉ frs X.stack → ∃ o', B.get? b = some o') (tr : ∀ b u, H' b = some u → ∃ o', B.get? b = some o') : Un (frs X.stack) [] H H' s.heap h5 ∧ HOk X.prog X.w H' h5 := by
  have same : ∀ b o, s'.heap.get? b = some o → (∃ o', B.get? b = some o') → h5.get? b = some o := fun b o e ⟨o', e'⟩ => by
    have z := b1 b o' e'
    rw [e] at z; cases z
    exact b2 b o e'
  have fr : ∀ b o, s.heap.get? b = some o → b ∈ frs X.stack → ∃ sl, h5.get? b = some { o with slots := sl } := fun b o q hb => by
    obtain ⟨sl, e1⟩ := u.slot b o q (I.stkFree b hb) hb (by simp)
    obtain ⟨_, o', e', hd⟩ := I.stack.mem hb
    rw [q] at e'; cases e'
    obtain ⟨sl', e2⟩ := sm b _ e1 hd
    exact ⟨sl', e2⟩
  refine ⟨⟨fun b o q n hb hx => same b o (u.keep b o q n hb hx) (dm b o q hb), fun b o q n hb _ => fr b o q hb, fun b o q n hx => u.free b o q n hx, fun b o q hx => ?_, u.tups, u.frzs, u.tbls⟩, fun b v e => ?_⟩
  · by_cases hb : b ∈ frs X.stack
    · obtain ⟨sl, e2⟩ := fr b o q hb
      exact ⟨_, e2⟩
    · obtain ⟨o1, e1⟩ := u.there b o q hx
      exact ⟨_, same b o1 e1 (dm b o q hb)⟩
  · refine (hok b v e).stay (fun c v hc q => same c v q ?_) (fun _ q => q) fun _ _ q => q
    rcases hc with z | z
    · rw [z]; exact tr b _ e
    · exact tr c _ z

/-- a local name is let go -/
theorem Inv.goes {i : Nat} {n : Str} {m : Str → Option Value} {h' : Heap} {v : Option Value} {t' : Nat} (I : Inv X pins σ H s) (hN : X.N.Nodup) (hi : X.N[i]? = some n)
    (hm : ∀ (j : Nat) (x : Str) (v : V), X.N[j]? = some x → σ[j]? = some (some v) → Vis X.env.scope x → ∃ u, RelV v u ∧ Look X.env s.heap m x u)
    (hn' : h'.Ns X.env.locals (fun x => if x = n then v else m x)) (hs : Heap.SameBut X.env.locals s.heap h') : Inv X pins (σ.set i none) H { s with heap := h', toks := t' } := by
  have keep : ∀ b o, b ≠ X.env.locals → s.heap.get? b = some o → h'.get? b = some o := fun b o hb e => (hs.2 b hb).trans e
  have neL : ∀ b o, X.s₀.heap.get? b = some o → b ≠ X.env.locals := fun b o e => Nat.ne_of_lt (Nat.lt_of_lt_of_le (Heap.lt_size e) I.ok.above)
  refine ⟨I.ok, I.os, I.bare, ⟨fun b o e q hb hx => keep b o (neL b o e) (I.base.keep b o e q hb hx), fun b o e q hb hx => ?_, I.base.free, fun b o e hx => ?_, I.base.tups, I.base.frzs, I.base.tbls⟩, ⟨_, hn', fun j y w' e1 e2 e3 => ?_⟩, fun y c e => ?_, I.free, I.freeC, fun p hp => ?_, fun b ob e => ?_, by simpa using I.len⟩
  · obtain ⟨sl, e1⟩ := I.base.slot b o e q hb hx
    exact ⟨sl, keep b _ (neL b o e) e1⟩
  · obtain ⟨o', e1⟩ := I.base.there b o e hx
    exact ⟨o', keep b _ (neL b o e) e1⟩
  · by_cases hj : i = j
    · subst hj
      rw [List.getElem?_set] at e2
      simp only [if_true] at e2
      split at e2 <;> cases e2
    · rw [List.getElem?_set_ne hj] at e2
      have hy : y ≠ n := fun z => hj (nodup_ix hN hi (z ▸ e1))
      obtain ⟨u, r, l⟩ := hm j y w' e1 e2 e3
      refine ⟨u, r, ?_⟩
      rcases l with ⟨k, q⟩ | ⟨k, c, q, z⟩
      · exact .inl ⟨k, by dsimp only; rw [if_neg hy]; exact q⟩
      · obtain ⟨oc, hoc, hcd⟩ := z
        exact .inr ⟨k, c, q, oc, keep c oc (I.cne y c q) hoc, hcd⟩
  · obtain ⟨v', oc, hoc, hcd⟩ := I.cell y c e
    exact ⟨v', oc, keep c oc (I.cne y c e) hoc, hcd⟩
  · obtain ⟨e, q, ne, nf, d⟩ := I.pin p hp
    exact ⟨keep p.1 p.2 ne e, q, ne, nf, d⟩
  · refine (I.hok b ob e).stay (fun c w' hc q => keep c w' (fun z => ?_) q) (fun _ q => q) fun _ _ q => q
    have hf := I.free
    rcases hc with z' | z'
    · rw [← z', z] at e; rw [hf] at e; cases e
    · rw [z, hf] at z'; cases z'
end

def suiteEnds (i : Nat) (D : Ends) : Ends := ⟨fun σ' H2 => D.nx (σ'.set i none) H2, D.rt, fun σ' H2 => D.bk (σ'.set i none) H2, fun σ' H2 => D.ct (σ'.set i none) H2⟩
def tTry (n : Nat) (tb : XK → TS) (C : Addr) (i : Nat) (ts : TS) : TS := fun D σ H =>
  tb (fun cls _ H' => cls = .ref C ∧ ∀ ea, H' ea = none → ts (suiteEnds i D) ((List.replicate n none).set i (some (.ref ea))) (upd H' ea (.ext (ExcAt ea C)))) D σ H

end L2
/-! ### list.insert; facts of error classes; small helpers -/
namespace L2
open PySem PySem.Spec PyProof.Rows
section
variable {X : Cx}
def rInsert : V → List V → Hp → VK → Prop := fun x vs H Q => ∃ l xs i y, x = .ref l ∧ vs = [.int i, y] ∧ H l = some (.lst xs) ∧ 0 ≤ i ∧ i ≤ xs.length ∧ xs.length < sizeLine ∧ Q .non (upd H l (.lst (xs.take i.toNat ++ [y] ++ xs.drop i.toNat)))
end
theorem pass0X {P : Program} {w : World} {X : Cx} : Passes (CXr P w) X E0 := fun _ _ _ _ _ _ _ h => by
  obtain ⟨_, _, _, _, _, _, _, _, _, _, _, _, _, z⟩ := h
  exact z.elim
theorem roomH {k j : Nat} {A : Around} {h : Option Value} (r : Room k A) (hj : j ≤ k) : RoomH j (A.mark h) := ⟨by have := r.dp; show A.depth + 3 * j + 5 < _; omega, by have := r.un; show A.units + 16 * j + 200 < _; omega⟩
section
variable {K : PySem.W.Frag} {C C' : Addr} {b : Bool}
theorem kit_sub (hne : C ≠ C') (c1 : PySem.W.isClsIn K C' = true) (c2 : PySem.W.typeIn K (.ref C') = some (.type "type")) (m : PySem.W.mroIn K C (.ref C') = some b) : PySem.W.kitOne K (.ref C) (.ref C') = some b := by
  unfold PySem.W.kitOne PySem.W.kitCls
  rw [if_neg (fun z => hne (Value.ref.inj (beq_iff_eq.mp z)))]
  dsimp only
  have c1 : (PySem.W.clsIn K C').isSome = true := c1
  rw [c1, c2, if_pos (by decide +kernel)]
  exact m
theorem ne_mro (h1 : PySem.W.mroIn K C (.ref C) = some true) (h2 : PySem.W.mroIn K C (.ref C') = some false) : C ≠ C' := fun z => by rw [← z, h1] at h2; cases h2
theorem kit_val (m : PySem.W.mroIn K C (.type "ValueError") = some true) : PySem.W.kitOne K (.ref C) (.type "ValueError") = some true := by
  unfold PySem.W.kitOne PySem.W.kitCls
  rw [if_neg (by intro z; cases beq_iff_eq.mp z)]
  dsimp only
  rw [if_pos (by decide +kernel)]
  exact m
end
section
variable {E : XK} {C : Addr} {ta : TA} {D : Ends} {σ : St} {H : Hp} {Q : VK} {te : TE} {t : St → Hp → (Hp → Prop) → Prop} {R : Hp → Prop} {n i : Nat} {tb : XK → TS} {ts : TS}
theorem r_raise (h : ta σ H fun vs H1 => vs.length ≤ sizeLine ∧ E (.ref C) none H1) : tRaise E C ta D σ H := h
theorem r_joined (h : t σ H fun H' => ∀ x, Q (.str x) H') : tJoined t σ H Q := h
theorem r_jstr (h : t σ H R) : jStr t σ H R := h
theorem r_jnil (h : R H) : jNil σ H R := h
theorem r_jint (h : te σ H fun x H1 => ∃ i : Int, x = .int i ∧ i.natAbs.log2 < 64 ∧ t σ H1 R) : jInt te t σ H R := h
end
theorem r_snx {D : Ends} {i : Nat} {σ : St} {H : Hp} (h : D.nx (σ.set i none) H) : (suiteEnds i D).nx σ H := h
theorem small_log {i : Int} (h0 : -1000000 ≤ i) (h1 : i ≤ 1000000) : i.natAbs.log2 < 64 := by
  by_cases hz : i.natAbs = 0
  · rw [hz]; decide
  · rw [Nat.log2_lt hz]
    have : i.natAbs ≤ 1000000 := by omega
    omega
end L2
/-! ### > of two int lists; list(d), list(d.values()) -/
namespace L2
open PySem PySem.Spec PyProof.Rows
open PySem.AutoSeq1 (wpAny_loadPart')
open PySem.MeetsSeq PySem.MeetsSeq2 PySem.MeetsSeq3 PySem.SeqAt
def lexGt : List Int → List Int → Bool
  | [], _ => false
  | _ :: _, [] => true
  | a :: r, b :: t => if a = b then lexGt r t else decide (b < a)
section
variable {X : Cx} (K : PySem.W.Frag)
end

theorem Same.upd_fresh {H H' : Hp} {b : Addr} {o : HO} (h : Same H H') (hb : H b = Option.none) : Same H (upd H' b o) := fun c u e => by
  rw [upd_ne (ne_of_none e hb)]; exact h c u e
theorem Room.units1 {k : Nat} {A : Around} (r : Room k A) : A.units + 1 < cLine := by have := r.units; omega
def ViewAt (v d : Addr) : Heap → Prop := fun h => h.IsValuesView v d
section
variable {X : Cx}
def rValues : V → List V → Hp → VK → Prop := fun x vs H Q => ∃ d kvs, x = .ref d ∧ vs = [] ∧ H d = some (.dK kvs) ∧ ∀ v, H v = none → Q (.ref v) (upd H v (.ext (ViewAt v d)))
end
section
variable {X : Cx} (K : PySem.W.Frag)
theorem pe_bm0K {o : Expr} {to : TE} {name : Str} {apos cpos : Pos} {T id : String} {r : V → List V → Hp → VK → Prop} (pa : PlainAttrs T) (slot : Slot T name id) (hty : typeOf (.builtin id) = pure (.type "method_descriptor")) (hm : MtR X id r) (ho : PE X o to)
    (hbase : attributeBase o name X.env (eval o X.env) = eval o X.env := by rfl) (hline : (apos.endLine == cpos.line) = true := by rfl) (hK : X.K = K := by rfl) : PE X (.Call (.Attribute o name apos) [] [] cpos) (tBM0 K T r to) := by subst hK; exact pe_bm0 pa slot hty hm ho hbase hline
theorem sl_listK (hK : X.K = K := by rfl) : SlR X (rSlL K) := by subst hK; exact sl_list
end
section
variable {σ : St} {H : Hp} {Q : VK} {to td ty tv te : TE} {D : Ends} {trs : List (TE × TE)} {K : PySem.W.Frag} {T : String} {r : V → List V → Hp → VK → Prop}
theorem r_bm0 (h : to σ H fun x H1 => tyV K T x H1 ∧ r x [] H1 Q) : tBM0 K T r to σ H Q := h
theorem r_dput (h : tv σ H fun v H1 => td σ H1 fun x H2 => ty σ H2 fun y H3 => ∃ a H4, x = .ref a ∧ DPut H3 a y v H4 ∧ D.nx σ H4) : sDPut td ty tv D σ H := h
theorem r_sl {r : V → Option Int → Option Int → Hp → VK → Prop} {tl th : TO} (h : te σ H fun x H1 => tl σ H1 fun l H2 => th σ H2 fun u H3 => r x l u H3 Q) : tSl r te tl th σ H Q := h
theorem r_part {Q : Option Int → Hp → Prop} (h : te σ H fun x H1 => ∃ i, x = .int i ∧ Q (some i) H1) : tPart te σ H Q := h
end
end L2
/-! ### breadth first: the least words -/
namespace My
open PySem L2
def later (a b : List Int) : Bool := if a.length ≠ b.length then decide (a.length > b.length) else lexGt a b
def slt (a b : List Int) : Prop := later b a = true
abbrev Ent := Int × List Int
structure BI (d : Int) (rss : List (List Int)) (at' j : Nat) (L : List Ent) : Prop where
  head : L[0]? = some (0, [])
  ok : ∀ e ∈ L, WordOk d e.2 ∧ walkI rss 0 e.2 = e.1
  nd : (L.map Prod.fst).Nodup
  par : ∀ (k : Nat) (e : Ent), L[k]? = some e → k = 0 ∨ ∃ (p : Nat) (q : Ent) (x : Nat), p < k ∧ L[p]? = some q ∧ e.2 = q.2 ++ [(x : Int)] ∧ (p < at' ∨ (p = at' ∧ x < j))
  inc : ∀ (i k : Nat) (e f : Ent), i < k → L[i]? = some e → L[k]? = some f → slt e.2 f.2
  cov : ∀ (p : Nat) (q : Ent) (x : Nat), L[p]? = some q → (x : Int) < d → (p < at' ∨ (p = at' ∧ x < j)) → ∃ e ∈ L, e.1 = walkI rss 0 (q.2 ++ [(x : Int)]) ∧ (e.2 = q.2 ++ [(x : Int)] ∨ slt e.2 (q.2 ++ [(x : Int)]))
def hasKey (L : List Ent) (r : Int) : Bool := L.any fun e => decide (e.1 = r)
def addDoor (L : List Ent) (w : List Int) (j : Nat) (r : Int) : List Ent := if hasKey L r = true then L else L ++ [(r, w ++ [(j : Int)])]
/-- the doors of one room -/
def rowK (L : List Ent) (w : List Int) (row : List Int) : Nat → List Ent
  | 0 => L
  | j + 1 => addDoor (rowK L w row j) w j (row.getD j 0)
def bfsAt (rss : List (List Int)) (L : List Ent) (k : Nat) : List Ent := match L[k]? with
  | none => L
  | some e => rowK L e.2 (rss.getD e.1.toNat []) (rss.getD e.1.toNat []).length
def bfsK (rss : List (List Int)) : Nat → List Ent
  | 0 => [(0, [])]
  | k + 1 => bfsAt rss (bfsK rss k) k
def bfs (rss : List (List Int)) : List Ent := bfsK rss rss.length
/-- all that the least words keep -/
structure Least (d : Int) (rss : List (List Int)) (L : List Ent) : Prop where
  bi : BI d rss L.length 0 L
end My
/-! ### list comprehensions whose block has cells of its own -/
namespace L2
open PySem PySem.Spec PyProof.Rows
def blkC (X : Cx) (N' : List Str) (scope : Scope) (cl : List (Str × Addr)) (C : Addr) (s : Shared) (H : Hp) (ex : List Addr) (pins : List (Addr × Obj)) : Cx :=
  { blk X N' scope cl C s H ex pins with fn := fun x => scope.names.lookup x == some NameKind.cell }
structure BlkScopeC (N : List Str) (sc0 sc : Scope) (N' : List Str) (caps : List (Option Nat)) : Prop where
  kind : sc.kind = .function
  names : ∀ x ∈ sc.names, x.2 = .local → sc.names.lookup x.1 = some .local
  cells : ∀ x ∈ sc.names, x.2 = .cell → sc.names.lookup x.1 = some .cell
  freeL : ∀ x ∈ sc.names, x.2 = .free → sc.names.lookup x.1 = some .free
  frees : ∀ x ∈ sc.names, x.2 = .free → sc0.names.lookup x.1 = some .cell ∨ sc0.names.lookup x.1 = some .free
  len : caps.length = N'.length
  cap : ((N'.zip caps).all (capOk N sc)) = true
  nd : N'.Nodup
/-- the block's cells: those of the closure, and new ones behind C -/
structure ClC (X : Cx) (scope : Scope) (cl : List (Str × Addr)) (C : Addr) (h₁ : Heap) : Prop where
  inj : ∀ x y c, cl.lookup x = some c → cl.lookup y = some c → x = y
  split : ∀ x c, cl.lookup x = some c → X.env.cells.lookup x = some c ∨ (C < c ∧ h₁.IsCell c none)
  frees : ∀ x ∈ scope.names, x.2 = .free → ∃ c, cl.lookup x.1 = some c ∧ X.env.cells.lookup x.1 = some c
  own : ∀ x, scope.names.lookup x = some .cell → ∃ c, cl.lookup x = some c ∧ C < c
section
variable {X : Cx} {pins : List (Addr × Obj)} {σ : St} {H : Hp} {s : Shared} {scope : Scope} {cl : List (Str × Addr)} {C : Addr} {N' : List Str} {ex : List Addr} {caps : List (Option Nat)}
end
section
variable {X : Cx} {scope : Scope} {N' : List Str} {caps : List (Option Nat)} {elt iter tg : Expr} {pos : Pos} {wi : TI} {g : TG} {te : TE}
end
end L2
/-! ### a body that begins with a dict display: boxed, so that nothing runs it while it is read -/
namespace L2
open PySem PySem.Spec PyProof.Rows
structure PSsO (X : Cx) (b : List Stmt) (t : TS) : Prop where
  out : PSs X b t
end L2
/-! ### breadth first over any kind of key -/
namespace My
open PySem L2
/-- a = b or a ahead of b -/
def sle (a b : List Int) : Prop := a = b ∨ slt a b
section
variable {κ : Type} [DecidableEq κ]
def walkG (st : κ → Int → κ) (k0 : κ) (w : List Int) : κ := w.foldl st k0
structure BIG (st : κ → Int → κ) (k0 : κ) (d : Int) (at' j : Nat) (L : List (κ × List Int)) : Prop where
  head : L[0]? = some (k0, [])
  ok : ∀ e ∈ L, WordOk d e.2 ∧ walkG st k0 e.2 = e.1
  nd : (L.map Prod.fst).Nodup
  par : ∀ (k : Nat) (e : (κ × List Int)), L[k]? = some e → k = 0 ∨ ∃ (p : Nat) (q : (κ × List Int)) (x : Nat), p < k ∧ L[p]? = some q ∧ e.2 = q.2 ++ [(x : Int)] ∧ (p < at' ∨ (p = at' ∧ x < j))
  inc : ∀ (i k : Nat) (e f : (κ × List Int)), i < k → L[i]? = some e → L[k]? = some f → slt e.2 f.2
  cov : ∀ (p : Nat) (q : (κ × List Int)) (x : Nat), L[p]? = some q → (x : Int) < d → (p < at' ∨ (p = at' ∧ x < j)) → ∃ e ∈ L, e.1 = walkG st k0 (q.2 ++ [(x : Int)]) ∧ (e.2 = q.2 ++ [(x : Int)] ∨ slt e.2 (q.2 ++ [(x : Int)]))
def hasKeyG (L : List (κ × List Int)) (r : κ) : Bool := L.any fun e => decide (e.1 = r)
def addDoorG (L : List (κ × List Int)) (w : List Int) (j : Nat) (r : κ) : List (κ × List Int) := if hasKeyG L r = true then L else L ++ [(r, w ++ [(j : Int)])]
end
end My
/-! ### {(a, b): v}: one pair, the key a tuple -/
namespace L2
open PySem PySem.Spec PyProof.Rows
def tDispT1 (tk tv : TE) : TE := fun σ H Q => ∀ p, H p = none → tk σ (upd H p (.dT [])) fun x H1 => tv σ H1 fun y H2 => ∃ b ks, x = .ref b ∧ H2 b = some (.tup (ks.map kV)) ∧ H2 p = some (.dT []) ∧ Q (.ref p) (upd H2 p (.dT [(ks, y)]))
section
variable {σ : St} {H : Hp} {Q : VK} {tk tv : TE}
end
end L2
/-! ### a truth in an f-string; the pairs of a dict, walked while the dict is held fast -/
namespace L2
open PySem PySem.Spec PyProof.Rows
def jBl (te : TE) (t : St → Hp → (Hp → Prop) → Prop) : St → Hp → (Hp → Prop) → Prop := fun σ H Q => te σ H fun x H1 => ∃ b : Bool, x = .bl b ∧ t σ H1 Q
theorem pj_bl {X : Cx} {e : Expr} {es : List Expr} {te : TE} {t : St → Hp → (Hp → Prop) → Prop} {pos : Pos} (he : PE X e te) (hr : PJ X es t) : PJ X (.FormattedValue e (-1) none pos :: es) (jBl te t) := by
  intro out pins s σ H Q hz I h
  refine joinParts_cons (FormattedValue_plain (thn (he pins s σ H _ I h) fun v s1 hh => ?_))
  obtain ⟨x, H1, I1, r, b, rfl, h1⟩ := hh
  have hv : v = Value.bool b := r
  subst hv
  rw [List.length_cons] at hz
  refine wpAny_formatField_bool ?_
  have h3 : ((if b then "True" else "False" : Str)).length ≤ 5 := by cases b <;> decide +kernel
  have hl : (out ++ (if b then "True" else "False" : Str)).length = out.length + ((if b then "True" else "False" : Str)).length := strLen_append ..
  exact ⟨by rw [hl]; omega, hr _ pins _ σ H1 Q (by rw [hl]; omega) ((I1.tok _).tok _) h1⟩
theorem r_jbl {σ : St} {H : Hp} {te : TE} {t : St → Hp → (Hp → Prop) → Prop} {R : Hp → Prop} (h : te σ H fun x H1 => ∃ b : Bool, x = .bl b ∧ t σ H1 R) : jBl te t σ H R := h
/-! the view -/
def ItemsAt (v d : Addr) : Heap → Prop := fun h => h.IsItemsView v d
def rItems : V → List V → Hp → VK → Prop := fun x vs H Q => ∃ d, x = .ref d ∧ vs = [] ∧ IsD H d ∧ ∀ v, H v = none → Q (.ref v) (upd H v (.ext (ItemsAt v d)))
theorem my_items {prog : Program} {w : World} (d : Addr) (hd : (d == sysModules) = false) : MeetsIn prog w (Builtin.«dict.items» ⟨[.ref d], []⟩) (fun _ R s => s.TypeIs (.ref d) "dict" ∧
      R (.ok (.ret (.ref s.heap.objs.size))) { s with heap := s.heap.push { cls := .type "dict_items", data := .fields #[.ref d] } }) :=
  .of_wp fun A R s ⟨ty, h⟩ => by
    unfold Builtin.«dict.items»; refine wpAny_bind ?_
    unfold Builtin.Dict.noArgs; refine wpAny_bind (wpAny_notOrdered_dict ty ?_)
    show wpAny _ _ (pure d) _ _ s; refine wpAny_pure ?_
    show wpAny _ _ (Builtin.Dict.showsAll d >>= _) _ _ s; unfold Builtin.Dict.showsAll
    rw [if_neg (by rw [hd]; decide)]; refine wpAny_bind (wpAny_pure ?_)
    exact wpAny_bind (wpAny_newObj_type (wpAny_pure ⟨_, rfl, h⟩))
section
variable {X : Cx}
theorem mt_items : MtR X "dict.items" rItems := by
  intro pins s σ H x vs v us Q I rx rv h
  obtain ⟨d, rfl, rfl, hD, q⟩ := h
  cases rx
  have hus := rv.zero
  subst hus
  obtain ⟨ty, _, hd⟩ := isD_at I hD
  refine call_meetsIn PySem.F.slot_dict_items ty PySem.F.entry_dict_items (PySem.F.args_dict_items_1 _) (my_items d hd) ⟨ty, ?_⟩
  refine ⟨.ref s.heap.objs.size, _, I.laid (t' := s.toks) (fun _ _ q => Heap.get?_push_of_some _ q) (Nat.le_refl _) ?_, rfl, q _ I.fresh⟩
  have φ : ItemsAt s.heap.objs.size d (s.heap.push { cls := .type "dict_items", data := .fields #[.ref d] }) := ⟨_, Heap.get?_push_size _ rfl, rfl, rfl⟩
  exact ⟨φ, ⟨_, Heap.get?_push_size _ rfl⟩, fun h1 h2 ⟨o', y1, y2, y3⟩ k => ⟨o', k o' y1, y2, y3⟩⟩
end
/-! its iterator, by the dict's bare entries -/
section
variable {prog : Program} {w : World} {A : Around} {E : Value → Shared → Prop} {s : Shared} {it d : Addr} {i ep : Nat} {es : Array DictEntry} {od : Obj} {c1 c2 : Value}
theorem my_iter {v : Addr} {Q : Value → Shared → Prop} (hv : s.heap.IsItemsView v d) (hg : s.heap.get? d = some od) (hdt : od.data = .dict es ep)
    (hQ : Q (.ref s.heap.objs.size) { s with heap := s.heap.push { cls := .type "dict_itemiterator", data := .fields #[.none, .bool false, .ref d, .int 0 0, .int es.size 0, .int ep 0, .none, .none] } }) : wpAny (model prog w) A (pyIter (.ref v)) Q E s := by
  obtain ⟨o', g', c', d'⟩ := id hv
  refine wpAny_pyIter_slot hv.typeIs PySem.F.slot_dict_items_iter (wpAny_call_entry PySem.F.slot_dict_items_iter hv.typeIs PySem.F.entry_dict_items_iter ?_ (PySem.F.args_dict_items_iter_1 _))
  unfold Builtin.«dict_items.__iter__»; refine wpAny_bind (wpAny_pure (wpAny_bind ?_))
  unfold Builtin.Dict_items.dictOf; refine wpAny_bind (wpAny_field g' d' (x := .ref d) rfl (wpAny_pure (wpAny_bind ?_)))
  unfold Builtin.Dict_items.newIterator; refine wpAny_bind (wpAny_dictEntries hg hdt (wpAny_bind (wpAny_dictEpoch hg hdt ?_)))
  simp only [show Builtin.Dict_items.ownsTuple "dict_itemiterator" = true by decide, if_true]
  refine wpAny_newObj_type (wpAny_pure ⟨_, rfl, "dict_itemiterator", _, ⟨_, Heap.get?_push_size _ rfl, rfl⟩, PySem.F.slot_dict_itemiterator_next.lookup, ?_⟩) (by
    simp only [sizeOk, Builtin.Dict_items.ownedTupleFields, List.size_toArray, List.length_append, List.length_cons, List.length_nil, sizeLine_eq]; omega)
  simpa [rawInt, Builtin.Dict_items.ownedTupleFields] using hQ
theorem my_next {Q : Option Value → Shared → Prop} (hit : IsItemIter s.heap it d i es.size ep c1 c2) (hg : s.heap.get? d = some od) (hdt : od.data = .dict es ep) (hlt : i < es.size)
    (hQ : ∀ h', IsItemIterOut h' it d (i + 1) es.size ep es[i].key es[i].val s.heap.objs.size → h'.get? s.heap.objs.size = some { cls := .type "tuple", data := .seq #[es[i].key, es[i].val] } → h'.objs.size = s.heap.objs.size + 1 →
      (∀ b o, b ≠ it → s.heap.get? b = some o → h'.get? b = some o) → Q (some (.ref s.heap.objs.size)) { s with heap := h' }) : wpAny (model prog w) A (pyNext (.ref it)) Q E s := by
  obtain ⟨hp, g, dr, tk, os⟩ := s
  have ty : Shared.TypeIs ⟨hp, g, dr, tk, os⟩ (.ref it) "dict_itemiterator" := ⟨_, hit, rfl⟩
  unfold pyNext
  refine wpAny_bind (wpAny_attempt (wpAny_callSpecial?_slot (name := Str.ofString "__next__") ty PySem.F.slot_dict_itemiterator_next (wpAny_call_entry PySem.F.slot_dict_itemiterator_next ty PySem.F.entry_dict_itemiterator_next ?_ (PySem.F.args_dict_itemiterator_next_1 _))))
  refine wpAny_bind (wpAny_pure (wpAny_bind (wpAny_bind ?_)))
  first | refine wpAny_bind (wpAny_typeNameOfWhole_itemiter ty (wpAny_pure ?_)) | refine wpAny_bind (wpAny_typeNameOf_itemiter ty (wpAny_pure ?_))
  refine wpAny_bind (wpAny_fieldsOf hit rfl ?_); simp only [show Builtin.Dict_items.ownsTuple "dict_itemiterator" = true by decide, if_true]
  show wpAny _ _ (if (Value.ref d == Value.none) = true then _ else _) _ _ _; rw [if_neg (show ¬ ((Value.ref d == Value.none) = true) by exact Bool.false_ne_true)]
  refine wpAny_bind (wpAny_pure (wpAny_bind (wpAny_dictEntries hg hdt ?_))); rw [if_neg (by simp)]
  refine wpAny_bind (wpAny_pure (wpAny_bind (wpAny_dictEpoch hg hdt ?_))); rw [if_neg (by simp)]; refine wpAny_pure ?_
  simp only [show ¬ ((i : Int) < 0) by omega, if_false, Int.toNat_natCast, Array.getElem?_eq_getElem hlt]; refine wpAny_bind ?_
  first | refine wpAny_bind (wpAny_typeNameOfWhole_itemiter ty (wpAny_pure ?_)) | refine wpAny_bind (wpAny_typeNameOf_itemiter ty (wpAny_pure ?_))
  refine wpAny_bind (wpAny_isOneOf_itemiter ty ?_); show wpAny _ _ (setField (.ref it) 3 (rawInt ((i : Int) + 1)) >>= _) _ _ ⟨hp, g, dr, tk, os⟩
  refine wpAny_bind (wpAny_setField_rec hit (by simp) fun u1 f1 k1 => ?_); replace k1 : Heap.SameBut it hp u1 := k1
  replace f1 : IsItemIter u1 it d (i + 1) es.size ep c1 c2 := by
    have e : ((i + 1 : Nat) : Int) = (i : Int) + 1 := by omega
    unfold IsItemIter; rw [e]; simpa [rawInt] using f1
  have ty1 : Shared.TypeIs ⟨u1, g, dr, tk, os⟩ (.ref it) "dict_itemiterator" := ⟨_, f1, rfl⟩
  refine wpAny_bind (wpAny_holding (wpAny_bind (wpAny_isOneOf_itemiter ty1 (wpAny_bind (wpAny_isOneOf_itemiter ty1 ?_)))))
  show wpAny _ _ (Builtin.Dict_items.pairFromOwner (.ref it) 6 es[i].key es[i].val) _ _ ⟨u1, g, dr, tk, os⟩; unfold Builtin.Dict_items.pairFromOwner
  refine wpAny_bind (wpAny_newTuple ?_); have f2 : IsItemIter (u1.push { cls := .type "tuple", data := .seq #[es[i].key, es[i].val] }) it d (i + 1) es.size ep c1 c2 := Heap.get?_push_of_some _ f1
  generalize e2 : u1.push { cls := .type "tuple", data := .seq #[es[i].key, es[i].val] } = u2 at f2
  have z1 : u1.objs.size = hp.objs.size := k1.1
  have li : it < hp.objs.size := Heap.lt_size hit
  have t2 : u2.get? hp.objs.size = some { cls := .type "tuple", data := .seq #[es[i].key, es[i].val] } := by rw [← e2, ← z1]; exact Heap.get?_push_size _ rfl
  have z2 : u2.objs.size = hp.objs.size + 1 := by rw [← e2, Heap.size_push, z1]
  have k2 : ∀ b o, b ≠ it → hp.get? b = some o → u2.get? b = some o := fun b o hb e => by rw [← e2]; exact Heap.get?_push_of_some _ (k1.extBut b o hb e)
  show wpAny _ _ (Builtin.Dict_items.ownedTupleIsFree (.ref it) >>= _) _ _ ⟨u2, g, dr, tk, os⟩; rw [z1]
  clear e2 f1 k1 ty1 z1 u1
  refine wpAny_bind ?_; unfold Builtin.Dict_items.ownedTupleIsFree
  refine wpAny_bind (wpAny_field f2 rfl (x := .none) rfl (wpAny_pure ?_)); simp only [if_true]
  refine wpAny_bind (wpAny_field f2 rfl (x := c1) rfl (wpAny_bind (wpAny_field f2 rfl (x := c2) rfl ?_)))
  refine wpAny_bind (wpAny_setField_rec f2 (by simp) fun u3 f3 k3 => ?_); replace k3 : Heap.SameBut it u2 u3 := k3
  replace f3 : IsItemIter u3 it d (i + 1) es.size ep es[i].key c2 := f3
  refine wpAny_bind (wpAny_setField_rec f3 (by simp) fun u4 f4 k4 => ?_); replace k4 : Heap.SameBut it u3 u4 := k4
  replace f4 : IsItemIter u4 it d (i + 1) es.size ep es[i].key es[i].val := f4
  refine wpAny_bind (wpAny_setField_rec f4 (by simp) fun u5 f5 k5 => ?_); replace k5 : Heap.SameBut it u4 u5 := k5
  replace f5 : IsItemIterOut u5 it d (i + 1) es.size ep es[i].key es[i].val hp.objs.size := f5
  refine wpAny_bind (wpAny_setField_rec f5 (by simp) fun u6 f6 k6 => ?_); replace k6 : Heap.SameBut it u5 u6 := k6
  replace f6 : IsItemIterOut u6 it d (i + 1) es.size ep es[i].key es[i].val hp.objs.size := f6
  have kk : ∀ b o, b ≠ it → u2.get? b = some o → u6.get? b = some o := fun b o hb e => k6.extBut b o hb (k5.extBut b o hb (k4.extBut b o hb (k3.extBut b o hb e)))
  refine wpAny_bind (wpAny_letGo (wpAny_pure (wpAny_pure ⟨_, rfl, wpAny_pure (hQ u6 f6 (kk _ _ (Nat.ne_of_gt li) t2) ?_ fun b o hb e => kk b o hb (k2 b o hb e))⟩)))
  show u6.objs.size = hp.objs.size + 1; rw [k6.1, k5.1, k4.1, k3.1, z2]
theorem my_end {Q : Option Value → Shared → Prop} (hh : A.handled = none) (hit : IsItemIter s.heap it d i es.size ep c1 c2) (hg : s.heap.get? d = some od) (hdt : od.data = .dict es ep) (hge : es.size ≤ i)
    (hQ : ∀ h', Heap.ExtBut it s.heap h' → Q none { s with heap := h' }) : wpAny (model prog w) A (pyNext (.ref it)) Q E s := by
  have ty : s.TypeIs (.ref it) "dict_itemiterator" := ⟨_, hit, rfl⟩
  unfold pyNext
  refine wpAny_bind (wpAny_attempt (wpAny_callSpecial?_slot (name := Str.ofString "__next__") ty PySem.F.slot_dict_itemiterator_next (wpAny_call_entry PySem.F.slot_dict_itemiterator_next ty PySem.F.entry_dict_itemiterator_next ?_ (PySem.F.args_dict_itemiterator_next_1 _))))
  refine wpAny_bind (wpAny_pure (wpAny_bind (wpAny_bind ?_)))
  first | refine wpAny_bind (wpAny_typeNameOfWhole_itemiter ty (wpAny_pure ?_)) | refine wpAny_bind (wpAny_typeNameOf_itemiter ty (wpAny_pure ?_))
  refine wpAny_bind (wpAny_fieldsOf hit rfl ?_); simp only [show Builtin.Dict_items.ownsTuple "dict_itemiterator" = true by decide, if_true]
  show wpAny _ _ (if (Value.ref d == Value.none) = true then _ else _) _ _ s; rw [if_neg (show ¬ ((Value.ref d == Value.none) = true) by exact Bool.false_ne_true)]
  refine wpAny_bind (wpAny_pure (wpAny_bind (wpAny_dictEntries hg hdt ?_))); rw [if_neg (by simp)]
  refine wpAny_bind (wpAny_pure (wpAny_bind (wpAny_dictEpoch hg hdt ?_))); rw [if_neg (by simp)]; refine wpAny_pure ?_
  simp only [show ¬ ((i : Int) < 0) by omega, if_false, Int.toNat_natCast, Array.getElem?_eq_none hge]; refine wpAny_bind ?_
  first | refine wpAny_bind (wpAny_typeNameOfWhole_itemiter ty (wpAny_pure ?_)) | refine wpAny_bind (wpAny_typeNameOf_itemiter ty (wpAny_pure ?_))
  show wpAny _ _ (setField (.ref it) 2 .none >>= _) _ _ s; refine wpAny_bind (wpAny_setField hit rfl (by simp) ?_)
  show wpAny _ _ (newExc (.type "StopIteration") [] >>= _) _ _ _; refine wpAny_bind ?_
  simp only [newExc, newTuple]; refine wpAny_bind (wpAny_newObj_type ?_ (by size_fits))
  refine wpAny_bind (m := firstArgMember _ _) (wpAny_of_eq (a := Value.none) (by first | rfl | (simp only [firstArgMember]; rfl)) (wpAny_newObj_type ?_ (by size_fits)))
  simp only [raiseNew]; refine wpAny_bind (wpAny_handled ?_); rw [show A.in1.handled = none by exact hh]
  refine wpAny_bind (wpAny_pure (wpAny_throw ?_)); refine wpAny_bind (wpAny_isInstance (T := "StopIteration") (b := true) ⟨_, Heap.get?_push_size _ rfl, rfl⟩ isSubtype_stop ?_)
  exact wpAny_pure (hQ _ (((Heap.SameBut.update ..).extBut.push _).push _))
end
/-! held fast -/
def HeldAt (d : Addr) (od : Obj) : Heap → Prop := fun h => h.get? d = some od
def Itz (d : Addr) (od : Obj) (ps : List (V × V)) : It :=
  ⟨fun i H => H d = some (.ext (HeldAt d od)) ∧ i < ps.length,
   fun i H x H' => ∃ t k v, x = .ref t ∧ H t = none ∧ H' = upd H t (.tup [k, v]) ∧ ps[i]? = some (k, v),
   fun i H => H d = some (.ext (HeldAt d od)) ∧ ps.length ≤ i⟩
theorem pairedD_get {F : V × V → DictEntry → Prop} : ∀ {ps : List (V × V)} {es : List DictEntry}, Paired F ps es → ps.length = es.length ∧ ∀ (i : Nat) p e, ps[i]? = some p → es[i]? = some e → F p e := by
  intro ps es r
  induction r with
  | nil => exact ⟨rfl, fun i p e h => by simp at h⟩
  | @cons a b as bs h t ih =>
    refine ⟨by simp [ih.1], fun i p e h1 h2 => ?_⟩
    cases i with
    | zero => simp at h1 h2; subst h1; subst h2; exact h
    | succ j => exact ih.2 j p e (by simpa using h1) (by simpa using h2)
def EsOk (ps : List (V × V)) (es : Array DictEntry) : Prop := Paired (fun (p : V × V) (e : DictEntry) => RelV p.1 e.key ∧ RelV p.2 e.val) ps es.toList
theorem turn_items {P : Program} {w : World} {K : PySem.W.Frag} {els : List Expr} {kk : Nat} {pos : Pos} {ps : List (V × V)} {es : Array DictEntry} {ep : Nat} {od : Obj} (d it : Addr) (hne : it ≠ d) (hdt : od.data = .dict es ep) (hes : EsOk ps es) :
    Turn P w K (.Tuple els kk pos) (Itz d od ps) [it] it (fun i h => ∃ c1 c2, IsItemIter h it d i es.size ep c1 c2) where
  mem := by simp
  obj := fun i h st b hb => by
    have e : b = it := by simpa using hb
    subst e
    obtain ⟨c1, c2, st⟩ := st
    exact ⟨_, st, fun v z => by
      have z' : Data.fields _ = Data.cell v := z
      cases z'⟩
  keep := fun i h h' st k => by obtain ⟨c1, c2, st⟩ := st; exact ⟨c1, c2, k it (by simp) _ st⟩
  item := by
    intro X hP hw hK hc i pins s σ H E I hf st hg
    subst hP hw hK
    obtain ⟨c1, c2, st⟩ := st
    obtain ⟨hd, hi⟩ := hg
    have hod : s.heap.get? d = some od := (show ObjOk X.prog X.w H s.heap d (.ext (HeldAt d od)) from I.hok d _ hd).1
    obtain ⟨hl, hget⟩ := pairedD_get hes
    have hl : ps.length = es.size := by rw [← Array.length_toList]; exact hl
    have hi' : i < es.size := by omega
    have hpe := hget i ps[i] es[i] (List.getElem?_eq_getElem hi) (by rw [Array.getElem?_toList]; exact Array.getElem?_eq_getElem hi')
    have hil : it < s.heap.objs.size := Heap.lt_size st
    refine my_next st hod hdt hi' fun h1 ho hT hsz hk => ⟨_, rfl, wpAny_letOwnedTupleGo_items ho fun h2 he2 hs2 => ?_⟩
    replace hs2 : Heap.SameBut it h1 h2 := hs2
    have hT2 : h2.get? s.heap.objs.size = some { cls := .type "tuple", data := .seq #[es[i].key, es[i].val] } := (hs2.2 _ (Nat.ne_of_gt hil)).trans hT
    have I1 : Inv X pins σ (upd H s.heap.objs.size (.tup [ps[i].1, ps[i].2])) { s with heap := h2, toks := s.toks } :=
      I.turnL (ch := [it]) hf (fun b o hb q => by
        have hbi : b ≠ it := fun z => hb (by simp [z])
        exact hs2.extBut b o hbi (hk b o hbi q)) (Nat.le_refl _)
        ⟨by show 2 ≤ sizeLine; decide, [es[i].key, es[i].val], .cons hpe.1 (.cons hpe.2 .nil), ⟨_, hT2, rfl, _, rfl⟩⟩
    refine ⟨.ref s.heap.objs.size, _, I1, rfl, ⟨_, ps[i].1, ps[i].2, rfl, I.hok.fresh (Nat.le_refl _), rfl, List.getElem?_eq_getElem hi⟩, ⟨_, _, he2⟩, fun b hb => ?_⟩
    rw [List.mem_singleton.mp hb, upd_ne (Nat.ne_of_lt hil)]
    exact (hf it (by simp)).1
  done := by
    intro X hP hw hK hc i pins s σ H E I hf st hg
    subst hP hw hK
    obtain ⟨c1, c2, st⟩ := st
    obtain ⟨hd, hi⟩ := hg
    have hod : s.heap.get? d = some od := (show ObjOk X.prog X.w H s.heap d (.ext (HeldAt d od)) from I.hok d _ hd).1
    obtain ⟨hl, hget⟩ := pairedD_get hes
    have hl : ps.length = es.size := by rw [← Array.length_toList]; exact hl
    obtain ⟨f0, f1, f2, f3, f4, f5⟩ := hf it (by simp)
    exact my_end (I.ok.hd hc) st hod hdt (by omega) fun h' eb => ⟨rfl, I.turned (t' := s.toks) (fun b o hb e => eb b o hb e) f0 f1 f3 f4 f5⟩
  self := fun _ _ _ _ _ st h => by obtain ⟨c1, c2, st⟩ := st; exact PySem.W.kcp_self st h
/-- what is known of the dict's object, so that it can be let go again as it was -/
def ThawT (P : Program) (w : World) (d : Addr) (od : Obj) (kvs : List (List Key × V)) (bs : List Addr) : Prop :=
  ∀ (H' : Hp) (h : Heap), h.get? d = some od → (∀ (i : Nat) b k y, bs[i]? = some b → kvs[i]? = some (k, y) → H' b = some (.tup (k.map kV))) → ObjOk P w H' h d (.dT kvs)
def iItemsT (P : Program) (w : World) (tl : TE) : TI := fun σ H R => tl σ H fun x H1 => ∃ v d kvs, x = .ref v ∧ H1 v = some (.ext (ItemsAt v d)) ∧ H1 d = some (.dT kvs) ∧
  ∀ od bs, bs.length = kvs.length → (∀ (i : Nat) b k y, bs[i]? = some b → kvs[i]? = some (k, y) → H1 b = some (.tup (k.map kV))) → ThawT P w d od kvs bs → R (Itz d od (List.zipWith (fun b kv => (V.ref b, kv.2)) bs kvs)) (upd H1 d (.ext (HeldAt d od)))
theorem pairedKT {H : Hp} : ∀ {kvs : List (List Key × V)} {xs : List (List Key × Addr × Value)}, KT H kvs xs → (xs.map (·.2.1)).length = kvs.length ∧
    (∀ (i : Nat) b k y, (xs.map (·.2.1))[i]? = some b → kvs[i]? = some (k, y) → H b = some (.tup (k.map kV))) ∧
    (∀ H' : Hp, (∀ (i : Nat) b k y, (xs.map (·.2.1))[i]? = some b → kvs[i]? = some (k, y) → H' b = some (.tup (k.map kV))) → KT H' kvs xs) ∧
    ∀ {f : List Key × Addr × Value → DictEntry}, (∀ x, (f x).key = .ref x.2.1 ∧ (f x).val = x.2.2) → Paired (fun (p : V × V) (e : DictEntry) => RelV p.1 e.key ∧ RelV p.2 e.val) (List.zipWith (fun b (kv : List Key × V) => (V.ref b, kv.2)) (xs.map (·.2.1)) kvs) (xs.map f) := by
  intro kvs xs r
  induction r with
  | nil => exact ⟨rfl, fun i b k y h => by simp at h, fun _ _ => .nil, fun _ => .nil⟩
  | @cons p q ps qs hq t ih =>
    obtain ⟨i1, i2, i3, i4⟩ := ih
    obtain ⟨h1, h2, h3⟩ := hq
    refine ⟨by simpa using i1, fun i b k y e1 e2 => ?_, fun H' hk => .cons ⟨h1, hk 0 q.2.1 p.1 p.2 rfl rfl, h3⟩ (i3 H' fun i b k y e1 e2 => hk (i + 1) b k y (by simpa using e1) (by simpa using e2)), fun hf => ?_⟩
    · cases i with
      | zero =>
        have e1' : q.2.1 = b := by simpa using e1
        have e2' : p = (k, y) := by simpa using e2
        subst e1'; subst e2'; exact h2
      | succ j => exact i2 j b k y (by simpa using e1) (by simpa using e2)
    · refine .cons ⟨?_, ?_⟩ (i4 hf)
      · rw [(hf q).1]; exact rfl
      · rw [(hf q).2]; exact h3
section
variable {X : Cx}
theorem pi_itemsT {P : Program} {w : World} {els : List Expr} {kk : Nat} {p0 : Pos} {l : Expr} {tl : TE} (hl : PE X l tl) (hP : X.prog = P := by rfl) (hw : X.w = w := by rfl) : PI X (.Tuple els kk p0) l (iItemsT P w tl) := by
  subst hP hw
  intro pins s σ H R I h
  refine thn (hl pins s σ H _ I h) fun v s1 ⟨x, H1, I1, r1, q1⟩ => ?_
  obtain ⟨va, d, kvs, rfl, hv, hd, q⟩ := q1
  cases r1
  have φ : ItemsAt va d s1.heap := (show ObjOk X.prog X.w H1 s1.heap va (.ext (ItemsAt va d)) from I1.hok va _ hv).1
  obtain ⟨z, hsy, xs, rel, od, es, ep, h1, h2, h3, h4, h5⟩ := (show ObjOk X.prog X.w H1 s1.heap d (.dT kvs) from I1.hok d _ hd)
  obtain ⟨k1, k2, k3, k4⟩ := pairedKT rel
  have hes : EsOk (List.zipWith (fun b (kv : List Key × V) => (V.ref b, kv.2)) (xs.map (·.2.1)) kvs) es := by
    unfold EsOk; rw [h4]; exact k4 fun x => ⟨rfl, rfl⟩
  have hdl : d < s1.heap.objs.size := Heap.lt_size h1
  refine my_iter φ h1 h3 ?_
  generalize e2 : s1.heap.push { cls := .type "dict_itemiterator", data := .fields #[.none, .bool false, .ref d, .int 0 0, .int es.size 0, .int ep 0, .none, .none] } = h'
  have hk : ∀ b o, s1.heap.get? b = some o → h'.get? b = some o := fun b o e => by rw [← e2]; exact Heap.get?_push_of_some _ e
  have hi' : IsItemIter h' s1.heap.objs.size d 0 es.size ep .none .none := by rw [← e2]; exact Heap.get?_push_size _ rfl
  have I2 : Inv X pins σ H1 { s1 with heap := h' } := I1.kept (t' := s1.toks) hk
  have I3 : Inv X pins σ (upd H1 d (.ext (HeldAt d od))) { s1 with heap := h', toks := s1.toks } :=
    I2.write (x := d) (e := d) (by rw [hd]; exact True.intro) (.inl rfl) (fun b u _ e => e) ⟨_, hk d _ h1⟩ ⟨hk d _ h1, ⟨_, hk d _ h1⟩, fun a1 a2 y k => k _ y⟩
  refine ⟨s1.heap.objs.size, [s1.heap.objs.size], _, _, _, rfl, I3, turn_items d s1.heap.objs.size (Nat.ne_of_gt hdl) h3 hes, ⟨.none, .none, hi'⟩, fun b hb => ?_, q od (xs.map (·.2.1)) k1 k2 fun H' hp hg hky => ⟨z, hsy, xs, k3 H' hky, od, es, ep, hg, h2, h3, h4, h5⟩⟩
  have hb' := List.mem_singleton.mp hb
  have hf := I1.fpOk (b := s1.heap.objs.size) (Nat.le_refl _) (I1.hok.fresh (Nat.le_refl _))
  rw [hb']
  exact ⟨by rw [upd_ne (Nat.ne_of_gt hdl)]; exact hf.1, hf.2⟩
/-- let go again, behind the expression -/
def tThaw (P : Program) (w : World) (t : TE) : TE := fun σ H Q => t σ H fun x H1 => ∃ d od kvs bs, ThawT P w d od kvs bs ∧ H1 d = some (.ext (HeldAt d od)) ∧ bs.length = kvs.length ∧ (∀ (i : Nat) b k y, bs[i]? = some b → kvs[i]? = some (k, y) → H1 b = some (.tup (k.map kV))) ∧ Q x (upd H1 d (.dT kvs))
theorem pe_thaw {P : Program} {w : World} {e : Expr} {t : TE} (h : PE X e t) (hP : X.prog = P := by rfl) (hw : X.w = w := by rfl) : PE X e (tThaw P w t) := by
  subst hP hw
  intro pins s σ H Q I q
  refine thn (h pins s σ H _ I q) fun v s1 ⟨x, H1, I1, r1, d, od, kvs, bs, th, hd, hl, hk, q1⟩ => ?_
  have ho : s1.heap.get? d = some od := (show ObjOk X.prog X.w H1 s1.heap d (.ext (HeldAt d od)) from I1.hok d _ hd).1
  have I2 : Inv X pins σ (upd H1 d (.dT kvs)) { s1 with heap := s1.heap, toks := s1.toks } :=
    I1.write (x := d) (e := d) (by rw [hd]; exact True.intro) (.inl rfl) (fun b u _ e => e) ⟨_, ho⟩ (th _ _ ho fun i b k y e1 e2 => by
      have hb := hk i b k y e1 e2
      rw [upd_ne (ne_of hb hd (fun z => nomatch z))]; exact hb)
  exact ⟨x, _, I2, r1, q1⟩
theorem comp_items {P : Program} {w : World} {d : Addr} {od : Obj} {ps : List (V × V)} {g : TG} {te : TE} {caps : List (Option Nat)} {σ : St} {H : Hp} {Q : VK} (Pv : Addr → Nat → List V → Hp → Prop) (h0 : ∀ acc, H acc = none → Pv acc 0 [] (upd H acc (.lst [])))
    (hl : ∀ acc i ys H', H acc = none → i ≤ ps.length → Pv acc i ys H' → H' d = some (.ext (HeldAt d od)))
    (hs : ∀ acc i k v ys H' t, H acc = none → ps[i]? = some (k, v) → Pv acc i ys H' → H' t = none → g (.ref t) (capσ caps σ) (upd H' t (.tup [k, v])) fun σ2 H2 => Wk (capσ caps σ) σ2 ∧ te σ2 H2 fun y H3 => H3 acc = some (.lst ys) ∧ ys.length < sizeLine ∧ Pv acc (i + 1) (ys ++ [y]) (upd H3 acc (.lst (ys ++ [y]))))
    (hd : ∀ acc ys H', H acc = none → Pv acc ps.length ys H' → Q (.ref acc) H') : CompR caps g te σ Q (Itz d od ps) H := by
  intro acc hacc
  refine ⟨fun i m ys H => m = ps.length - i ∧ i ≤ ps.length ∧ Pv acc i ys H, ⟨ps.length, by simp, Nat.zero_le _, h0 acc hacc⟩, ?_⟩
  rintro i m ys H' ⟨rfl, hi, p⟩
  have q := hl acc i ys H' hacc hi p
  by_cases hlt : i < ps.length
  · refine .inr ⟨⟨q, hlt⟩, Pv acc (i + 1), fun ys' H' p' => ⟨ps.length - (i + 1), by omega, rfl, hlt, p'⟩, fun x H'' y => ?_⟩
    obtain ⟨t, k, v, rfl, ht, rfl, e⟩ := y
    exact hs acc i k v ys H' t hacc e p ht
  · have e : i = ps.length := by omega
    subst e
    exact .inl ⟨⟨q, Nat.le_refl _⟩, hd acc ys H' hacc p⟩
end
section
variable {σ : St} {H : Hp} {Q : VK} {t td ty tl : TE} {P : Program} {w : World}
theorem r_thaw (h : t σ H fun x H1 => ∃ d od kvs bs, ThawT P w d od kvs bs ∧ H1 d = some (.ext (HeldAt d od)) ∧ bs.length = kvs.length ∧ (∀ (i : Nat) b k y, bs[i]? = some b → kvs[i]? = some (k, y) → H1 b = some (.tup (k.map kV))) ∧ Q x (upd H1 d (.dT kvs))) : tThaw P w t σ H Q := h
theorem r_iitems {R : It → Hp → Prop} (h : tl σ H fun x H1 => ∃ v d kvs, x = .ref v ∧ H1 v = some (.ext (ItemsAt v d)) ∧ H1 d = some (.dT kvs) ∧
  ∀ od bs, bs.length = kvs.length → (∀ (i : Nat) b k y, bs[i]? = some b → kvs[i]? = some (k, y) → H1 b = some (.tup (k.map kV))) → ThawT P w d od kvs bs → R (Itz d od (List.zipWith (fun b kv => (V.ref b, kv.2)) bs kvs)) (upd H1 d (.ext (HeldAt d od)))) : iItemsT P w tl σ H R := h
theorem r_dget1 (h : td σ H fun x H1 => ∃ a, x = .ref a ∧ IsD H1 a ∧ ty σ H1 fun y H2 => ∃ o, DGet H2 a y o ∧ Q (o.getD .non) H2) : tDGet1 td ty σ H Q := h
theorem r_dnewT (h : ∀ p, H p = none → Q (.ref p) (upd H p (.dT []))) : tDNewT σ H Q := h
end
/-! range(n) as a value, list of it -/
section
variable {X : Cx} (K : PySem.W.Frag)
end
end L2
namespace My
abbrev Tri := Int × Int × List Int
/-- how many of the rooms below n lead themselves -/
def fixN (root : Nat → Nat) (n : Nat) : Nat := ((List.range n).filter fun i => decide (root i = i)).length
/-- pairs kept so far, in order; those ahead of the k-th are left by all doors, the k-th by the doors below j -/
structure PInv (rss : List (List Int)) (a b d : Int) (Kp : List Tri) (root : Nat → Nat) (k j : Nat) : Prop where
  ok : ∀ e ∈ Kp, WordOk d e.2.2 ∧ e.1 = walkI rss a e.2.2 ∧ e.2.1 = walkI rss b e.2.2
  inc : Kp.Pairwise (fun e f => slt e.2.2 f.2.2)
  ahead : ∀ e ∈ Kp, ∀ q, Kp[k]? = some q → slt e.2.2 (q.2.2 ++ [(j : Int)])
  first : ∀ f : Int → Nat, (∀ e ∈ Kp, sle e.2.2 [] → f e.1 = f e.2.1) → f a = f b
  done : ∀ (m : Nat) e (c : Nat), Kp[m]? = some e → (c : Int) < d → (m < k ∨ (m = k ∧ c < j)) → ∀ f : Int → Nat, (∀ e' ∈ Kp, sle e'.2.2 (e.2.2 ++ [(c : Int)]) → f e'.1 = f e'.2.1) → f (step rss e.1 c) = f (step rss e.2.1 c)
  sound : ∀ f : Int → Nat, (∀ e ∈ Kp, f e.1 = f e.2.1) → ∀ u v : Nat, root u = root v → f (u : Int) = f (v : Int)
  count : Kp.length + fixN root rss.length ≤ rss.length
  wl : ∀ (m : Nat) e, Kp[m]? = some e → e.2.2.length ≤ m
def linkR (root : Nat → Nat) (x y : Nat) : Nat → Nat := fun z => if root z = root y then root x else root z
end My
/-! ### list comprehensions with one test -/
namespace PySem
open PySem.Spec PyProof.Rows
section
variable {prog : Program} {w : World} {A : Around} {R : Result → Shared → Prop} {s : Shared}
theorem codeAny_compLoop_genI {elt cond target iter : Expr} {scope : Scope} {pos : Pos} {it acc : Value} {env : Env} (I : Nat → Shared → Prop)
    (turn : ∀ n s, I n s → wpAny (model prog w) A (pyNext it) (fun r s1 => match r with
      | none => R (.ok .next) s1
      | some v => wpAny (model prog w) A (letOwnedTupleGo target it v) (fun _ s2 => wpAny (model prog w) A (assign target env v) (fun _ s3 => wpAny (model prog w) A (isTrue cond env (eval cond env)) (fun ok sk => if ok = true then wpAny (model prog w) A (eval elt env) (fun x s4 =>
          wpAny (model prog w) A (call (.builtin "list.append") [acc, x]) (fun _ s5 => ∃ m, m < n ∧ I m s5) (fun _ _ => False) s4) (fun _ _ => False) sk else ∃ m, m < n ∧ I m sk) (fun _ _ => False) s3) (fun _ _ => False) s2) (fun _ _ => False) s1) (fun _ _ => False) s)
    (n : Nat) (h : I n s) : codeAny (model prog w) A (.compLoop (.ListComp elt [⟨target, iter, [cond], 0⟩] scope pos) 0 it acc env) R s := by
  refine codeAny_loop rfl I (fun n s hI => ?_) n h
  show wpAny _ _ ((compTurn (.ListComp elt [⟨target, iter, [cond], 0⟩] scope pos) 0 it acc env).onRaise (fun x => do noteFrame x env; theTreesLotGoes x)) _ _ s
  refine wpAny_noted ?_; rw [compTurn_list]
  refine wpAny_bind (wpAny_standAt (wpAny_bind (wpAny_mono (turn n s hI) (fun r s1 h1 => ?_) fun _ _ z => z.elim)))
  cases r with
  | none => exact wpAny_pure h1
  | some v =>
    refine wpAny_bind (wpAny_mono h1 (fun _ s2 h2 => wpAny_bind (wpAny_mono h2 (fun _ s3 h3 => wpAny_bind (wpAny_mono (wpAny_tests_one h3) (fun ok sk h4 => ?_) fun _ _ z => z.elim)) fun _ _ z => z.elim)) fun _ _ z => z.elim)
    cases ok with
    | false => exact wpAny_pure ⟨rfl, h4⟩
    | true => exact wpAny_bind (wpAny_bind (wpAny_mono h4 (fun x s4 h5 => wpAny_bind (wpAny_mono h5 (fun _ s5 h6 => wpAny_pure (wpAny_pure ⟨rfl, h6⟩)) fun _ _ z => z.elim)) fun _ _ z => z.elim))
end
end PySem
namespace L2
open PySem PySem.Spec PyProof.Rows
def CompI (caps : List (Option Nat)) (g : TG) (tt : TT) (te : TE) (σ : St) (Q : VK) (J : It) (H1 : Hp) : Prop := ∀ acc, H1 acc = none → ∃ W : Nat → Nat → List V → Hp → Prop, (∃ m, W 0 m [] (upd H1 acc (.lst []))) ∧ ∀ i m ys H, W i m ys H →
  (J.stop i H ∧ Q (.ref acc) H) ∨ (J.go i H ∧ ∃ N : List V → Hp → Prop, (∀ ys' H', N ys' H' → ∃ m', m' < m ∧ W (i + 1) m' ys' H') ∧ ∀ x H', J.yld i H x H' → g x (capσ caps σ) H' fun σ2 H2 => Wk (capσ caps σ) σ2 ∧ tt σ2 H2 fun b H3 => if b = true then te σ2 H3 fun y H4 => H4 acc = some (.lst ys) ∧ ys.length < sizeLine ∧ N (ys ++ [y]) (upd H4 acc (.lst (ys ++ [y]))) else N ys H3)
def tCompI (wi : TI) (g : TG) (tt : TT) (te : TE) (caps : List (Option Nat)) : TE := fun σ H Q => wi σ H fun J H1 => CompI caps g tt te σ Q J H1
section
variable {X : Cx} {scope : Scope} {N' : List Str} {caps : List (Option Nat)} {elt cond iter tg : Expr} {pos : Pos} {wi : TI} {g : TG} {tt : TT} {te : TE}
theorem comp_coreI {pins : List (Addr × Obj)} {s : Shared} {σ : St} {H : Hp} {cl : List (Str × Addr)} {Q : VK} {E : Value → Shared → Prop} {RR : Value → Addr → Result → Shared → Prop} {it : Addr} {fp : List Addr} {tn : Nat → Heap → Prop} {J : It} (hc : X.calm = true) (S : BlkScope X.N X.env.scope scope N' caps)
    (hg : ∀ cl C s H ex pins, PG (blk X N' scope cl C s H ex pins) tg g) (ht : ∀ cl C s H ex pins, PT (blk X N' scope cl C s H ex pins) cond tt) (he : ∀ cl C s H ex pins, PE (blk X N' scope cl C s H ex pins) elt te)
    (hcl1 : ∀ x c, cl.lookup x = some c → X.env.cells.lookup x = some c) (hcl2 : ∀ x ∈ scope.names, x.2 = .free → ∃ c, cl.lookup x.1 = some c)
    (I : Inv X pins σ H s) (T : Turn X.prog X.w X.K tg J fp it tn) (st : tn 0 s.heap) (f2 : ∀ b ∈ fp, FpOk X pins H b) (R : CompI caps g tt te σ Q J H)
    (hRR : ∀ acc C H' s' m, s.heap.objs.size ≤ C → s'.heap.Ns C m → Inv X pins σ H' s' → H' C = none → Q (.ref acc) H' → RR (.ref acc) C (.ok .next) s') :
    wpAny (model X.prog X.w) X.A (newList []) (fun acc s₃ => wpAny (model X.prog X.w) X.A (newFunctionEnv scope X.env.globals cl [] X.env.qual none .none (some X.env)) (fun cenv s₄ =>
      codeAny (model X.prog X.w) X.A (.compStart (.ListComp elt [⟨tg, iter, [cond], 0⟩] scope pos) 0 (.ref it) acc { cenv with scope := relabel scope X.env }) (RR acc cenv.locals) s₄) E s₃) E s := by
  refine wpAny_newObj_type (wpAny_newFunctionEnv S.nocell (by intro y hy; simp at hy) (fun h₁ hns₁ hsb₁ => ?_) S.kind)
  dsimp only at hns₁ hsb₁ ⊢
  generalize hP2 : s.heap.push { cls := .type "list", dict := none, data := .seq ([] : List Value).toArray } = P2 at hns₁ hsb₁ ⊢
  have hC : P2.objs.size = s.heap.objs.size + 1 := by rw [← hP2, Heap.size_push]
  have hDC : s.heap.objs.size ≠ P2.objs.size := by rw [hC]; exact Nat.ne_of_lt (Nat.lt_succ_self _)
  have hCle : s.heap.objs.size ≤ P2.objs.size := by rw [hC]; exact Nat.le_succ _
  have old : ∀ b o, s.heap.get? b = some o → h₁.get? b = some o := fun b o e => hsb₁.extBut b o (by rw [hC]; exact Nat.ne_of_lt (Nat.lt_succ_of_lt (Heap.lt_size e))) (Heap.get?_push_of_some _ (hP2 ▸ Heap.get?_push_of_some _ e))
  have hacc : h₁.get? s.heap.objs.size = some { cls := .type "list", data := .seq #[] } := hsb₁.extBut _ _ hDC (Heap.get?_push_of_some _ (hP2 ▸ Heap.get?_push_size _ rfl))
  have hex : ∀ b ∈ fp, b < s.heap.objs.size := fun b hb => by obtain ⟨o, e, _⟩ := T.obj 0 _ st b hb; exact Heap.lt_size e
  obtain ⟨W, ⟨m0, w0⟩, turn⟩ := R s.heap.objs.size (I.hok.fresh (Nat.le_refl _))
  have I3 : ∀ t', Inv (blk X N' scope cl P2.objs.size s H fp pins) [] (capσ caps σ) (upd H s.heap.objs.size (.lst [])) { s with heap := h₁, toks := t' } := fun t' => blk_inv (t' := t') I S hcl1 hcl2 hCle f2 hex hns₁ old hacc (Nat.le_refl _) hDC
  have stat : ∀ {H' : Hp}, (∀ b ∈ fp, H' b = none) → ∀ b ∈ fp, FpOk (blk X N' scope cl P2.objs.size s H fp pins) [] H' b := fun hn b hb => by
    obtain ⟨_, q1, q2, q3, q4, q5⟩ := f2 b hb
    refine ⟨hn b hb, Nat.ne_of_lt (Nat.lt_of_lt_of_le (hex b hb) hCle), fun z => ?_, .inl hb, fun x c e => q4 x c (hcl1 x c e), fun p hp => q5 p ?_⟩
    · rcases List.mem_cons.mp (I.stkSub b z) with z | z
      · exact q1 z
      · exact q2 z
    · have : p ∈ (X.pn ++ pins) ++ [] := hp
      simpa using this
  have loop : ∀ s₃ : Shared, s₃ = { s with heap := h₁, toks := s.toks + ([] : List (Str × Value)).length } →
      codeAny (model X.prog X.w) X.A (.compLoop (.ListComp elt [⟨tg, iter, [cond], 0⟩] scope pos) 0 (.ref it) (.ref s.heap.objs.size) (compEnvC scope cl P2.objs.size X.env)) (RR (.ref s.heap.objs.size) P2.objs.size) s₃ := by
    rintro s₃ rfl
    refine codeAny_compLoop_genI (fun n s' => ∃ i ys H', Inv (blk X N' scope cl P2.objs.size s H fp pins) [] (capσ caps σ) H' s' ∧ tn i s'.heap ∧ (∀ b ∈ fp, H' b = none) ∧ W i n ys H') ?_ m0
      ⟨0, [], _, I3 _, T.keep 0 _ _ st (fun b _ o e => old b o e), fun b hb => by rw [upd_ne (Nat.ne_of_lt (hex b hb))]; exact (f2 b hb).1, w0⟩
    rintro n s4 ⟨i, ys, H4, I4, st4, fr4, w4⟩
    rcases turn i n ys H4 w4 with ⟨stop, q⟩ | ⟨go, N, hN, step⟩
    · refine thn (T.done (blk X N' scope cl P2.objs.size s H fp pins) rfl rfl rfl hc i [] s4 _ H4 _ I4 (stat fr4) st4 stop) fun r s5 ⟨hr, I5⟩ => ?_
      subst hr
      obtain ⟨m, hm, _⟩ := id I5.loc
      exact hRR _ _ H4 s5 m hCle hm (blk_back I I5 f2) I5.free q
    · refine thn (T.item (blk X N' scope cl P2.objs.size s H fp pins) rfl rfl rfl hc i [] s4 _ H4 _ I4 (stat fr4) st4 go) fun r s5 ⟨u, hr, h5⟩ => ?_
      subst hr
      refine thn h5 fun _ s6 ⟨x, H6, I6, r6, y6, st6, fr6⟩ => ?_
      have I6' := I6.pinned (stat fr6) (T.obj _ _ st6)
      refine thn (hg cl _ s H fp pins _ s6 _ H6 x u _ I6' r6 (step x H6 y6)) fun _ s7 ⟨σ7, H7, I7, wk7, q7⟩ => ?_
      refine thn (ht cl _ s H fp pins _ s7 σ7 H7 _ I7 q7) fun ok s7b ⟨H7b, I7b, q7b⟩ => ?_
      cases ok with
      | false =>
        have q7b : N ys H7b := q7b
        obtain ⟨m', hm', w8⟩ := hN _ _ q7b
        refine ⟨m', hm', i + 1, ys, _, I7b.unpinned.weak wk7.1 wk7.2, T.keep _ _ _ st6 fun b hb o e => (I7b.pin (b, o) (List.mem_append_right _ (List.mem_append_right _ (mem_pinsAt hb e)))).1, fun b hb => ?_, w8⟩
        obtain ⟨o, e, d⟩ := T.obj _ _ st6 b hb
        exact (I7b.pin (b, o) (List.mem_append_right _ (List.mem_append_right _ (mem_pinsAt hb e)))).2.1
      | true =>
        refine thn (he cl _ s H fp pins _ s7b σ7 H7b _ I7b q7b) fun yv s8 ⟨y, H8, I8, r8, ha8, hsz8, w8⟩ => ?_
        refine thn (mt_append (X := blk X N' scope cl P2.objs.size s H fp pins) _ s8 σ7 H8 (.ref s.heap.objs.size) [y] (.ref s.heap.objs.size) [yv] (fun _ H9 => H9 = upd H8 s.heap.objs.size (.lst (ys ++ [y]))) I8 rfl (.cons r8 .nil) ⟨_, ys, y, rfl, rfl, ha8, hsz8, rfl⟩) fun _ s9 ⟨_, H9, I9, _, e9⟩ => ?_
        subst e9
        obtain ⟨m', hm', w8⟩ := hN _ _ w8
        refine ⟨m', hm', i + 1, ys ++ [y], _, I9.unpinned.weak wk7.1 wk7.2, T.keep _ _ _ st6 fun b hb o e => (I9.pin (b, o) (List.mem_append_right _ (List.mem_append_right _ (mem_pinsAt hb e)))).1, fun b hb => ?_, w8⟩
        obtain ⟨o, e, d⟩ := T.obj _ _ st6 b hb
        exact (I9.pin (b, o) (List.mem_append_right _ (List.mem_append_right _ (mem_pinsAt hb e)))).2.1
  exact codeAny_compStart_list (loop _ rfl) (T.self _ 0 _ _ _ (T.keep 0 _ _ st (fun b _ o e => old b o e)) (loop _ rfl))

theorem ps_setCI {i : Nat} {x : Str} {pos' spos : Pos} {N : List Str} {sc0 : Scope} (S : BlkScope N sc0 scope N' caps) (hc : X.calm = true) (hN : X.N.Nodup) (hi' : X.N[i]? = some x) (hx : Loc X.env.scope x) (hi : PI X tg iter wi)
    (hg : ∀ cl C s H ex pins, PG (blk X N' scope cl C s H ex pins) tg g) (ht : ∀ cl C s H ex pins, PT (blk X N' scope cl C s H ex pins) cond tt) (he : ∀ cl C s H ex pins, PE (blk X N' scope cl C s H ex pins) elt te)
    (hsw : swapsWith (.ListComp elt [⟨tg, iter, [cond], 0⟩] scope pos) (some (.Name x pos')) spos.line X.env = pure true := by rfl)
    (hf : X.fn x = true ∨ X.env.scope.names.lookup x = some .local := by first | exact .inl rfl | exact .inr rfl | assumption)
    (hs : ∀ x, foldedSetIterable iter X.env x = pure x := by intro _; rfl) (hN0 : X.N = N := by rfl) (h00 : X.env.scope = sc0 := by rfl) : PS X (.Assign [.Name x pos'] (.ListComp elt [⟨tg, iter, [cond], 0⟩] scope pos) spos) (tAsg (tCompI wi g tt te caps) (gName i)) := by
  subst hN0 h00
  intro pins s σ H D I h
  obtain ⟨cl, hclos, hcl1, hcl2⟩ := clos_of I S
  rw [exec_Assign_Name_used _ _ _ _ hsw]
  refine wpAny_bind (wpAny_standAt (wpAny_bind ?_))
  show wpAny _ X.A (do let _ ← comprehension (.ListComp elt [⟨tg, iter, [cond], 0⟩] scope pos) scope X.env _ (newList []) false (eval iter X.env) (some (assign (.Name x pos') X.env))) _ _ s
  refine wpAny_bind (wpAny_mono (wpAny_comprehension_free (use := some (assign (.Name x pos') X.env)) (Q := fun _ s' => SP X pins D .next s') rfl hs hclos S.kind S.names
    (thn (hi pins s σ H _ I h) fun xv s1 h1 => thn h1 fun itv s2 h2 => ?_)) (fun _ s' hq => wpAny_pure (wpAny_pure hq)) fun _ _ e => e)
  obtain ⟨it, fp, tn, J, H2, e, I2, T, st2, f2, R⟩ := h2
  subst e
  refine comp_coreI (Q := fun x H1 => gName i x σ H1 D.nx) (RR := fun acc C => compPost (model X.prog X.w) X.A X.xe (some (assign (.Name x pos') X.env)) (fun _ s' => SP X pins D .next s') acc C) hc S hg ht he hcl1 hcl2 I2 T st2 f2 R ?_
  intro acc C H' s' m hC hm J' hn q
  obtain ⟨o, es, ep, ho, hd, hr⟩ := id hm
  have hCL : C ≠ X.env.locals := Nat.ne_of_gt (Nat.lt_of_lt_of_le I2.lt hC)
  have JP : Inv X (pins ++ [(C, o)]) σ H' s' := J'.pins_of fun p hp => by
    rcases List.mem_append.mp hp with hp | hp
    · exact J'.pin p (List.mem_append_right _ hp)
    · have e := List.mem_singleton.mp hp
      subst e
      exact ⟨ho, hn, hCL, I2.nofs hC, fun v z => by have z' : o.data = .cell v := z; rw [hd] at z'; cases z'⟩
  show wpAny _ X.A (assign (.Name x pos') X.env (.ref acc)) _ _ s'
  refine thn (pg_name hN hi' hx hf (pins ++ [(C, o)]) s' σ H' (.ref acc) (.ref acc) D.nx JP rfl q) fun _ s'' ⟨σ'', H'', J'', q''⟩ => ?_
  have hp := J''.pin (C, o) (List.mem_append_right _ (List.mem_append_right _ (List.mem_singleton.mpr rfl)))
  exact ⟨m, ⟨o, es, ep, hp.1, hd, hr⟩, fun h' hs' => ⟨σ'', H'', I2.letC hC J''.unpinned hp.2.1 hs', q''⟩⟩
theorem compI_list {K : PySem.W.Frag} {a : Addr} {xs : List V} {σ : St} {H : Hp} {Q : VK} (Pv : Addr → Nat → List V → Hp → Prop) (h0 : ∀ acc, H acc = none → Pv acc 0 [] (upd H acc (.lst [])))
    (hl : ∀ acc i ys H', H acc = none → i ≤ xs.length → Pv acc i ys H' → SqL K H' a xs)
    (hs : ∀ acc i x ys H', H acc = none → xs[i]? = some x → Pv acc i ys H' → g x (capσ caps σ) H' fun σ2 H2 => Wk (capσ caps σ) σ2 ∧ tt σ2 H2 fun b H3 => if b = true then te σ2 H3 fun y H4 => H4 acc = some (.lst ys) ∧ ys.length < sizeLine ∧ Pv acc (i + 1) (ys ++ [y]) (upd H4 acc (.lst (ys ++ [y]))) else Pv acc (i + 1) ys H3)
    (hd : ∀ acc ys H', H acc = none → Pv acc xs.length ys H' → Q (.ref acc) H') : CompI caps g tt te σ Q (Itl K a) H := by
  intro acc hacc
  refine ⟨fun i m ys H => m = xs.length - i ∧ i ≤ xs.length ∧ Pv acc i ys H, ⟨xs.length, by simp, Nat.zero_le _, h0 acc hacc⟩, ?_⟩
  rintro i m ys H' ⟨rfl, hi, p⟩
  have q := hl acc i ys H' hacc hi p
  by_cases hlt : i < xs.length
  · refine .inr ⟨⟨xs, xs[i], q, by simp [hlt]⟩, Pv acc (i + 1), fun ys' H' p' => ⟨xs.length - (i + 1), by omega, rfl, hlt, p'⟩, fun x H'' y => ?_⟩
    obtain ⟨rfl, y⟩ := y
    exact hs acc i x ys H'' hacc (y xs q) p
  · have e : i = xs.length := by omega
    subst e
    exact .inl ⟨⟨xs, q, Nat.le_refl _⟩, hd acc ys H' hacc p⟩
theorem r_compI {σ : St} {H : Hp} {Q : VK} (h : wi σ H fun J H1 => CompI caps g tt te σ Q J H1) : tCompI wi g tt te caps σ H Q := h
end
end L2
/-! ### try around one call whose value is stored: the names stand as before where it raises -/
namespace L2
open PySem PySem.Spec PyProof.Rows
def PassAt (CX : CXT) (X : Cx) (σ : St) (E : XK) : Prop := ∀ (pins : List (Addr × Obj)) (H : Hp) (s : Shared) (e : Value) (s' : Shared), Inv X pins σ H s → CX X.stack H s E e s' → X.xe e s'
def PEA (X : Cx) (σ : St) (e : Expr) (t : TE) : Prop := ∀ (pins : List (Addr × Obj)) (s : Shared) (H : Hp) (Q : VK), Inv X pins σ H s → t σ H Q → wpAny (model X.prog X.w) X.A (eval e X.env) (EP X pins σ Q) X.xe s
def PSsA (X : Cx) (σ : St) (st : List Stmt) (t : TS) : Prop := ∀ (pins : List (Addr × Obj)) (s : Shared) (H : Hp) (D : Ends), Inv X pins σ H s → t D σ H → wpAny (model X.prog X.w) X.A (execs st X.env) (SP X pins D) X.xe s
section
variable {X : Cx} {CX : CXT} {k : Nat} {f C : Addr} {fd : FuncData} {ps : List Str} {sp : Sp} {dvs : List V} {ds : List Value} {E : XK} {x m : Str} {p pos apos : Pos} {e o : Expr} {es : List Expr} {ta : TE} {t : TA}
theorem run_fnA {pins : List (Addr × Obj)} {σ : St} {H : Hp} {s : Shared} {Q : VK} {us : List Value} {vs : List V} (F : FnOk X.prog X.w X.K X.mg X.base CX k f fd ps sp) (hr : Room k X.A) (hb : Binds X.K fd ps ds) (hd : Vals dvs ds) (hx : PassAt CX X σ E)
    (I : Inv X pins σ H s) (r : Vals vs us) (h : sp (vs ++ dvs) H Q E) : wpAny (model X.prog X.w) X.A (call (.ref f) us) (EP X pins σ Q) X.xe s := by
  have r2 : Vals (vs ++ dvs) (us ++ ds) := r.append hd
  have hl : (us ++ ds).length = ps.length := by rw [← r2.length]; exact F.len _ _ _ _ h
  refine wpAny_call (codeAny_mono (F.run X.A X.stack s H ⟨us, []⟩ (us ++ ds) (vs ++ dvs) Q E hr I.env0 (hb s us I.kIn hl) r2 h) fun r s' hq => ?_)
  cases r with
  | error e => exact hx pins H s e s' I hq
  | ok fl =>
    cases fl with
    | ret u => exact I.after hq
    | next => exact False.elim hq
    | brk => exact False.elim hq
    | cont => exact False.elim hq

theorem pe_methA {pl : Sem Bool} {σ : St} (he : PE X o ta) (c : Cls X.K C) (hm : Meth X.K C m f) (F : FnOk X.prog X.w X.K X.mg X.base CX k f fd ps sp) (hr : Room k X.A) (hb : Binds X.K fd ps ds) (hd : Vals dvs ds) (hx : PassAt CX X σ E) (ha : PA X (e :: es) t)
    (hst : starEach (e :: es) X.env = (false, eval e X.env) :: starEach es X.env := by rfl) (hpl : (backTo pos (starEach es X.env)).any (·.1) = false := by rfl)
    (ht : eval (.Call (.Attribute o m apos) (e :: es) [] pos) X.env = (do
      let ov ← eval o X.env
      standAt apos.atName
      let (f, first) ← holding [ov] (getMethod ov m pl)
      callWith pos f first (backTo pos (starEach (e :: es) X.env)) (backToKw pos (keywordEach [] X.env))) := by rfl) :
    PEA X σ (.Call (.Attribute o m apos) (e :: es) [] pos) (tMeth C m sp dvs E ta t) := by
  intro pins s H Q I h
  refine PySem.W.methodCall_KW (pl := pl) (thn (he pins s σ H _ I h) fun u s1 ⟨x, H1, I1, rx, a, dx, fs, ex, ea, l, q⟩ => ?_) ht
  subst ex
  obtain rfl : u = Value.ref a := rx
  refine getmeth_ok I1 ea c hm l ?_
  refine PySem.W.callWith_K (first := [.ref a]) (h₀ := X.base) I.ok.mod.kin hm.kp (thn (ha pos pins s1 σ H1 _ I1 q) fun us s2 ⟨vs, H2, I2, r, q2⟩ => ⟨I2.kIn, ?_⟩) hst hpl
  exact run_fnA (us := .ref a :: us) (vs := .ref a :: vs) F hr hb hd hx I2 (.cons rfl r) q2
theorem pss_setA {σ : St} {i : Nat} {x : Str} {e : Expr} {te : TE} {pos pos' : Pos} (hN : X.N.Nodup) (hi : X.N[i]? = some x) (hx : Loc X.env.scope x) (he : PEA X σ e te) (hs : swapsWith e (some (.Name x pos')) pos.line X.env = pure false := by rfl) (hf : X.fn x = true ∨ X.env.scope.names.lookup x = some .local := by first | exact .inl rfl | exact .inr rfl | assumption) :
    PSsA X σ [.Assign [.Name x pos'] e pos] (tAsg te (gName i)) := by
  intro pins s H D I h
  have h1 : ∀ s, wpAny (model X.prog X.w) X.A (exec (.Assign [.Name x pos'] e pos) X.env) (SP X pins D) X.xe s → wpAny (model X.prog X.w) X.A (execs [.Assign [.Name x pos'] e pos] X.env) (SP X pins D) X.xe s := fun s q => wpAny_execs_cons (thn q fun f s1 q => by
    cases f with
    | next => exact wpAny_execs_nil q
    | ret v => exact q
    | brk => exact q
    | cont => exact q)
  refine h1 s (wpAny_Assign_Name (thn (he pins s H _ I h) fun v s1 ⟨y, H1, I1, r1, q1⟩ => ?_) hs)
  exact store_ok I1 hN hi hx r1 (fun s2 I2 => ⟨_, H1, I2, q1⟩) hf
end
def tTryA (tb : XK → TS) (C : Addr) (i : Nat) (ts : TS) : TS := fun D σ H =>
  tb (fun cls _ H' => cls = .ref C ∧ ∀ ea, H' ea = none → ts (suiteEnds i D) (σ.set i (some (.ref ea))) (upd H' ea (.ext (ExcAt ea C)))) D σ H
theorem ps_tryA {X : Cx} {body : List Stmt} {b₀ : Stmt} {suite : List Stmt} {x n : Str} {i : Nat} {C : Addr} {np hpos pos : Pos} {tb : XK → TS} {ts : TS} (hstk : X.stack = X.env :: X.outer) (hfr : X.env.frame = some X.env.locals)
    (hg : Gl X x) (hm : X.mg x = some (.ref C)) (O : ExcK X.K x C) (hN : X.N.Nodup) (hi : X.N[i]? = some n) (hl : X.env.scope.names.lookup n = some .local)
    (hb : ∀ (E : XK) (xe : Value → Shared → Prop) (pn : List (Addr × Obj)) (σ0 : St), PassAt (CXr X.prog X.w) (wish2 X xe pn) σ0 E → PSsA (wish2 X xe pn) σ0 body (tb E))
    (hs : ∀ (ea : Addr) (pn : List (Addr × Obj)), PSs (suiteX X ea pn) (b₀ :: suite) ts) (hd : (x == ("__debug__" : Str)) = false := by decide) :
    PS X (.Try body [.ExceptHandler (some (.Name x np)) (some n) (b₀ :: suite) hpos] [] [] pos) (tTryA tb C i ts) := by
  intro pins s σ H D I h
  refine wpAny_Try_except (wpAny_mono (hb _ (fun e s₁ => wpAny (model X.prog X.w) X.A (noteFrame e X.env) (fun _ s₂ => wpAny (model X.prog X.w) X.A (setFlight e none) (fun _ s₃ =>
      wpAny (model X.prog X.w) X.A (handleBy e X.env [.ExceptHandler (some (.Name x np)) (some n) (b₀ :: suite) hpos]) (SP X pins D) X.xe s₃) X.xe s₂) X.xe s₁) (X.pn ++ pins) σ ?pass [] s H D I.toW h) (fun f s1 q => ?_) fun e s1 q => q)
  case pass =>
    intro pins1 H1 s1 e s' I1 hx
    obtain ⟨ea, cls, a0, B, H', rfl, ho, hgn, u, hok, fl, dm, tr, hcls, hts⟩ := hx
    subst hcls
    have IX : Inv X pins σ H1 s1 := I1.ofW
    have u : Un (frs X.stack) [] H1 H' s1.heap s'.heap := u
    have fl : Heap.FlyingW B X.stack ea (.ref C) a0 s'.heap := fl
    have dm : ∀ b o, s1.heap.get? b = some o → b ∉ frs X.stack → ∃ o', B.get? b = some o' := dm
    have heaH : H' ea = none := by
      cases e : H' ea with
      | none => rfl
      | some w' => obtain ⟨o', z⟩ := tr ea w' e; rw [fl.2.1] at z; cases z
    have hea1 : s1.heap.get? ea = none := by
      cases e : s1.heap.get? ea with
      | none => rfl
      | some w' =>
        exfalso
        by_cases hb : ea ∈ frs X.stack
        · obtain ⟨sl, e1⟩ := u.slot ea w' e (IX.stkFree ea hb) hb (by simp)
          obtain ⟨_, o', e', hdn⟩ := IX.stack.mem hb
          rw [e] at e'; cases e'
          obtain ⟨_, _, _, oe, vs, _, _, _, he, _, hdt, _⟩ := fl
          rw [e1] at he; cases he
          exact hdn vs hdt
        · obtain ⟨o', z⟩ := dm ea w' e hb; rw [fl.2.1] at z; cases z
    have fl0 := fl
    rw [hstk] at fl
    refine wpAny_looks_onW (by rw [← hstk]; exact I.ok.frames) hfr fl fun h4 held sm4 => ?_
    refine wpAny_landsW held fun h5 fl5 sm5 => ?_
    obtain ⟨u5, ok5⟩ := fly_un IX u hok fl0.1 fl5.1 (sm4.trans sm5) dm tr
    have I5 : Inv X pins σ H' { s' with heap := h5 } := IX.call' (s' := { s' with heap := h5 }) ho u5 ok5 hgn (fun b hb => by cases hb)
    have J5 : Inv (suiteX X ea (X.pn ++ pins)) [] σ H' { s' with heap := h5 } := I5.toS
    refine wpAny_handleBy_cons (codeAny_handlers_test (ld_glob J5 hg hm ?_ hd)) (by intro q; cases q)
    obtain ⟨tl, Nn, nm, q, bs, hdct, sn, sub, ab, col, dd, k0, k1, k2, k3, k5, mN, hC, hNn, hni, T⟩ := ((own_mod I5.mod O.toExcCls).keeps I5.bk).obj
    obtain ⟨ob, hob, hobc⟩ := fl5.there
    obtain ⟨hp', g', d', t', os'⟩ := s'
    refine wpAny_excMatches_sub_self hC hob hobc (T.hasType (b := true) (by decide +kernel)) (codeAny_handlers_suite_as ?_)
    refine lands_againW fl5 fun h6 fl6 sm6 => ?_
    obtain ⟨u6, ok6⟩ := fly_un IX u hok fl0.1 fl6.1 ((sm4.trans sm5).trans sm6) dm tr
    have φ : ExcAt ea C h6 := by
      obtain ⟨_, _, _, oe, vs, _, _, _, he, hcl, hdt, _⟩ := fl6
      exact ⟨oe, vs, he, hcl.1, hdt⟩
    have nea : ∀ b o, s1.heap.get? b = some o → b ≠ ea := fun b o e z => by rw [z, hea1] at e; cases e
    have u7 : Un (frs X.stack) [] H1 (upd H' ea (.ext (ExcAt ea C))) s1.heap h6 :=
      ⟨u6.keep, u6.slot, fun b o e n hx => by rw [upd_ne (nea b o e)]; exact u6.free b o e n hx, u6.there, fun b xs e => by rw [upd_ne (ne_of_none (u6.tups b xs e) heaH)]; exact u6.tups b xs e,
        fun b o xs e => by rw [upd_ne (ne_of_none (u6.frzs b o xs e) heaH)]; exact u6.frzs b o xs e, fun b ps e => by obtain ⟨mr, z⟩ := u6.tbls b ps e; exact ⟨mr, by rw [upd_ne (ne_of_none z heaH)]; exact z⟩⟩
    have ok7 : HOk X.prog X.w (upd H' ea (.ext (ExcAt ea C))) h6 := fun b v e => by
      by_cases hb : b = ea
      · subst hb; rw [upd_same] at e; cases e
        obtain ⟨o, vs, z1, z2, z3⟩ := id φ
        exact ⟨φ, ⟨o, z1⟩, fun h1 h2 ⟨o', vs', y1, y2, y3⟩ k => ⟨o', vs', k o' y1, y2, y3⟩⟩
      · rw [upd_ne hb] at e
        exact (ok6 b v e).stay (fun _ _ _ q => q) (fun c q => by rw [upd_ne (ne_of_none q heaH)]; exact q) fun c xs q => by rw [upd_ne (ne_of_none q heaH)]; exact q
    have I7 : Inv X pins σ (upd H' ea (.ext (ExcAt ea C))) ⟨h6, g', d', t', os'⟩ := IX.call' (s' := ⟨h6, g', d', t', os'⟩) ho u7 ok7 hgn (fun b hb => by cases hb)
    have J8 : Inv (suiteX X ea (X.pn ++ pins)) [] σ (upd H' ea (.ext (ExcAt ea C))) ⟨h6, g', d', t', os'⟩ := I7.toS
    refine store_ok (X := suiteX X ea (X.pn ++ pins)) (v := .ref ea) J8 hN hi (.inl hl) rfl (fun s9 J9 => ?_) (.inr hl)
    refine wpAny_mono (hs ea (X.pn ++ pins) [] s9 _ _ _ J9 (hts ea heaH)) (fun f s10 q10 => ?_) (fun _ _ z => z.elim)
    have done : ∀ {σ' : St} {Hn : Hp}, Inv (suiteX X ea (X.pn ++ pins)) [] σ' Hn s10 → (∀ s11, Inv X pins (σ'.set i none) Hn s11 → SP X pins D f s11) → wpAny (model X.prog X.w) X.A (do bindName X.env n .none; unbindBehindTheSuite X.env n hpos) (fun _ s₃ => SP X pins D f s₃) X.xe s10 := fun {σ' Hn} J k => by
      have IJ : Inv X pins σ' Hn s10 := J.ofS I.ok.hd I.ok.frames
      obtain ⟨m, hnm, hlm⟩ := id IJ.loc
      exact wpAny_nameGoes_keeps hl hnm (by rw [I.ok.kind]; rfl) fun h' v hn' hs' => k _ (IJ.goes hN hi hlm hn' hs')
    cases f with
    | next => obtain ⟨σ', Hn, J, q⟩ := q10; exact done J fun s11 I11 => ⟨_, Hn, I11, q⟩
    | brk => obtain ⟨σ', Hn, J, q⟩ := q10; exact done J fun s11 I11 => ⟨_, Hn, I11, q⟩
    | cont => obtain ⟨σ', Hn, J, q⟩ := q10; exact done J fun s11 I11 => ⟨_, Hn, I11, q⟩
    | ret v => obtain ⟨y, σ', Hn, J, r, q⟩ := q10; exact done J fun s11 I11 => ⟨y, _, Hn, I11, r, q⟩
  · cases f with
    | next => obtain ⟨σ', Hn, J, q⟩ := q; exact wpAny_execs_nil ⟨σ', Hn, J.ofW, q⟩
    | brk => obtain ⟨σ', Hn, J, q⟩ := q; exact ⟨σ', Hn, J.ofW, q⟩
    | cont => obtain ⟨σ', Hn, J, q⟩ := q; exact ⟨σ', Hn, J.ofW, q⟩
    | ret v => obtain ⟨y, σ', Hn, J, r, q⟩ := q; exact ⟨y, σ', Hn, J.ofW, r, q⟩
theorem r_tryA {tb : XK → TS} {C : Addr} {i : Nat} {ts : TS} {D : Ends} {σ : St} {H : Hp} (h : tb (fun cls _ H' => cls = .ref C ∧ ∀ ea, H' ea = none → ts (suiteEnds i D) (σ.set i (some (.ref ea))) (upd H' ea (.ext (ExcAt ea C)))) D σ H) : tTryA tb C i ts D σ H := h
end L2
/-! ### < of lists of ints; sum of one -/
namespace L2
open PySem PySem.Spec PyProof.Rows
open PySem.AutoSeq1 (wpAny_loadPart')
open PySem.MeetsSeq PySem.MeetsSeq2 PySem.MeetsSeq3 PySem.SeqAt
section
variable {X : Cx} (K : PySem.W.Frag)
end
end L2
namespace My
open PySem L2
/-- how many lit words with n doors lead from each room -/
def cnt (rss : List (List Int)) (ls : List Bool) : Nat → List Int
  | 0 => ls.map fun b => if b = true then 1 else 0
  | n + 1 => rss.map fun row => (row.map fun way => (cnt rss ls n).getD way.toNat 0).sum
def cntAt (rss : List (List Int)) (ls : List Bool) (n : Nat) (r : Int) : Int := (cnt rss ls n).getD r.toNat 0
def below (rss : List (List Int)) (ls : List Bool) (n : Nat) (ways : List Int) : Int := (ways.map (cntAt rss ls n)).sum
def rowAt (rss : List (List Int)) (r : Int) : List Int := rss.getD r.toNat []
def place (rss : List (List Int)) (ls : List Bool) : Int → List Int → Int
  | _, [] => 0
  | r, x :: w => below rss ls w.length ((rowAt rss r).take x.toNat) + place rss ls (step rss r x) w
def litI (ls : List Bool) (i : Int) : Bool := ls.getD i.toNat false
end My
namespace My
open PySem L2
/-- all words with n doors, in order -/
def allW (d : Nat) : Nat → List (List Int)
  | 0 => [[]]
  | n + 1 => (allW d n).flatMap fun w => (List.range d).map fun (x : Nat) => w ++ [(x : Int)]
def nums (n : Int) : List Int := (List.range n.toNat).map fun (i : Nat) => (i : Int)
def litW (rss : List (List Int)) (ls : List Bool) (r : Int) (w : List Int) : Bool := litI ls (walkI rss r w)
end My
namespace My
open PySem L2
def lampI (ls : List Bool) (i : Int) : Bool := ls.getD i.toNat false
/-! two houses behind one another -/
def joinR (rss rss2 : List (List Int)) : List (List Int) := rss ++ rss2.map fun row => row.map fun way => way + (rss.length : Int)
/-! a house with its rooms numbered otherwise -/
def piN (by' m k : Nat) : Nat := if k = 0 then 0 else 1 + (k - 1 + by') % m
def rhoN (by' m j : Nat) : Nat := if j = 0 then 0 else 1 + (j - 1 + (m - by' % m)) % m
def turnRow (b m : Nat) (row : List Int) : List Int := row.map fun to => (piN b m to.toNat : Int)
def turnR (b m i : Nat) (rss : List (List Int)) : List (List Int) := (List.range (m + 1)).map fun j => if rhoN b m j < i then turnRow b m (rss.getD (rhoN b m j) []) else []
def turnL (b m i : Nat) (ls : List Bool) : List Bool := (List.range (m + 1)).map fun j => if rhoN b m j < i then ls.getD (rhoN b m j) false else false
end My
/-! ### try with some handlers, each by its class or one above it -/
namespace L2
open PySem PySem.Spec PyProof.Rows
inductive PHs (X : Cx) (n : Str) : List ExceptHandler → (Addr → TS) → Prop where
  | nil : PHs X n [] (fun _ _ _ _ => False)
  | cons {x : Str} {np : Pos} {C1 : Addr} {b₀ : Stmt} {suite : List Stmt} {hpos : Pos} {ts : TS} {rest : List ExceptHandler} {th : Addr → TS} : Gl X x → X.mg x = some (.ref C1) → (x == ("__debug__" : Str)) = false → (∀ (ea : Addr) (pn : List (Addr × Obj)), PSs (suiteX X ea pn) (b₀ :: suite) ts) → PHs X n rest th →
      PHs X n (.ExceptHandler (some (.Name x np)) (some n) (b₀ :: suite) hpos :: rest) (fun C D σ H => (PySem.W.exmOne X.K (.ref C) (.ref C1) = some true ∧ ts D σ H) ∨ (PySem.W.exmOne X.K (.ref C) (.ref C1) = some false ∧ th C D σ H))
def tTryN (k : Nat) (tb : XK → TS) (i : Nat) (th : Addr → TS) : TS := fun D σ H =>
  tb (fun cls _ H' => ∃ C, cls = .ref C ∧ ∀ ea, H' ea = none → th C (suiteEnds i D) ((List.replicate k none).set i (some (.ref ea))) (upd H' ea (.ext (ExcAt ea C)))) D σ H
end L2
/-! ### the pairs of a dict whose keys are ints and texts, walked; a loop over pairs -/
namespace L2
open PySem PySem.Spec PyProof.Rows
def ThawK (P : Program) (w : World) (d : Addr) (od : Obj) (kvs : List (Key × V)) : Prop := ∀ (H' : Hp) (h : Heap), h.get? d = some od → ObjOk P w H' h d (.dK kvs)
def iItemsK (P : Program) (w : World) (tl : TE) : TI := fun σ H R => tl σ H fun x H1 => ∃ v d kvs, x = .ref v ∧ H1 v = some (.ext (ItemsAt v d)) ∧ H1 d = some (.dK kvs) ∧
  ∀ od, ThawK P w d od kvs → R (Itz d od (kvs.map fun kv => (kV kv.1, kv.2))) (upd H1 d (.ext (HeldAt d od)))
section
variable {X : Cx}
end
section
variable {σ : St} {H : Hp} {tl : TE} {P : Program} {w : World}
end
end L2
namespace My
open PySem L2
def dotF : List Int → (Nat → Int) → Int
  | [], _ => 0
  | c :: cs, f => c * f 0 + dotF cs fun i => f (i + 1)
end My
namespace L2
open PySem PySem.Spec PyProof.Rows
end L2
/-! ### the least lit word -/
namespace My
open PySem L2
end My
set_option maxHeartbeats 1000000
namespace My
open PySem L2 PyProof.Rows
def top (i : Nat) : Stmt := PySem.Challenge.pw_askhouse_k04_books.main.body.getD i (.Pass ⟨0, 0, 0, 0⟩)
abbrev s_check_doors : Stmt := top 8
abbrev s_check_word : Stmt := top 9
abbrev s_Book_init : Stmt := inClass (top 11) 0
abbrev s_Book_said : Stmt := inClass (top 11) 3
abbrev s_Book_check_note : Stmt := inClass (top 11) 1
abbrev s_Book_note : Stmt := inClass (top 11) 2
abbrev s_Book_all_said : Stmt := inClass (top 11) 4
abbrev s_l_cell_at : Stmt := top 13
abbrev s_l_draw : Stmt := top 14
abbrev s_l_word_by : Stmt := top 15
abbrev s_l_whole : Stmt := top 16
abbrev s_l_is_word : Stmt := top 17
abbrev s_l_stands_under : Stmt := top 18
abbrev s_l_found : Stmt := top 19
abbrev s_l_told : Stmt := top 20
abbrev s_l_said_is : Stmt := top 21
abbrev s_l_all_is : Stmt := top 22
abbrev s_law : Stmt := top 23
local macro_rules | `(tactic| walk_at "sx") => `(tactic| first
  | with_reducible refine r_seq ?_ | with_reducible refine r_asg ?_ | with_reducible refine r_gname ?_ | with_reducible refine r_gsub ?_ | with_reducible refine r_drop ?_ | with_reducible refine r_ret ?_ | with_reducible refine r_ifs ?_
  | ((with_reducible refine r_var (v := ?v) ?e ?_); (case e => exact rfl))
  | with_reducible refine r_C ?_ | with_reducible refine r_op ?_ | with_reducible refine r_un ?_ | with_reducible refine r_test ?_ | with_reducible refine r_tB ?_ | with_reducible refine r_bl ?_
  | with_reducible refine r_and ?_ | with_reducible refine r_or ?_ | with_reducible refine r_not ?_ | with_reducible refine r_andV ?_ | with_reducible refine r_orV ?_ | with_reducible refine r_notV ?_ | with_reducible refine r_chain ?_
  | with_reducible refine r_call ?_ | with_reducible refine r_cb ?_ | with_reducible refine r_cons ?_ | with_reducible refine r_nil ?_ | with_reducible refine r_next ?_ | with_reducible refine r_lst ?_ | with_reducible refine r_tup ?_
  | with_reducible refine r_for ?_ | with_reducible refine r_rng1 ?_ | with_reducible refine r_rng2 ?_ | with_reducible refine r_ilist ?_ | with_reducible refine r_ienum ?_ | with_reducible refine r_comp ?_ | with_reducible refine r_bm ?_ | with_reducible refine r_meth ?_ | with_reducible refine r_make ?_ | with_reducible refine r_sfld ?_
  | with_reducible refine r_I0 ?_ | with_reducible refine r_U ?_
  | ((with_reducible refine r_I ?c ?_); (case c => first | (show (0 : Int) < _; first | assumption | decide | omega) | exact ⟨by decide, by decide⟩ | exact Or.inl ⟨by decide, by decide⟩ | exact Or.inr ⟨by decide, by decide⟩))
  | with_reducible refine r_raise ?_ | with_reducible refine r_joined ?_ | with_reducible refine r_jstr ?_ | with_reducible refine r_jnil ?_ | with_reducible refine r_jint ?_ | with_reducible refine r_try ?_
  | with_reducible refine r_bm0 ?_ | with_reducible refine r_dget ?_ | with_reducible refine r_din ?_ | with_reducible refine r_dnotin ?_ | with_reducible refine r_dput ?_ | with_reducible refine r_dnew ?_ | with_reducible refine r_sl ?_ | with_reducible refine r_nopart ?_ | with_reducible refine r_part ?_
  | with_reducible refine r_dispT ?_ | with_reducible refine r_jbl ?_ | with_reducible refine r_compI ?_ | with_reducible refine r_ifE ?_ | with_reducible refine r_tryN ?_ | with_reducible refine r_iitemsK ?_ | with_reducible refine r_tryA ?_ | with_reducible refine r_thaw ?_ | with_reducible refine r_iitems ?_ | with_reducible refine r_dget1 ?_ | with_reducible refine r_dnewT ?_
  | with_reducible refine r_snx ?_ | with_reducible refine r_srt ?_
  | with_reducible refine r_nx ?_ | with_reducible refine r_rt ?_)

def nthS (b : List Stmt) (i : Nat) : Stmt := b.getD i (.Pass ⟨0, 0, 0, 0⟩)
def thenS : Stmt → List Stmt
  | .If _ b _ _ => b
  | _ => []
def elseS : Stmt → List Stmt
  | .If _ _ b _ => b
  | _ => []
def valS : Stmt → Expr
  | .Assign _ v _ => v
  | _ => .Constant .none 0 ⟨0, 0, 0, 0⟩
def scE (d : Scope) : Expr → Scope
  | .ListComp _ _ sc _ => sc
  | _ => d
theorem ki_ib (K : PySem.W.Frag) : PySem.W.kitOne K (.type "int") (.type "bool") = some false := by
  first
  | rfl
  | (show (if (Value.type "int" == Value.type "bool") = true then some true else if PySem.W.kitMeta "bool" = true then PySem.W.subIn K (.type "int") (.type "bool") else Option.none) = some false
     rw [if_neg (by decide +kernel), if_pos (by decide +kernel)]
     first | rfl | decide +kernel | (unfold PySem.W.subIn; rfl))
/-! ### data in the heap -/
structure Mat (H : Hp) (a : Addr) (rs : List Addr) (rss : List (List Int)) : Prop where
  top : H a = some (.lst (rs.map V.ref))
  len : rs.length = rss.length
  row : ∀ (i : Nat) (r : Addr) (row : List Int), rs[i]? = some r → rss[i]? = some row → H r = some (.lst (row.map V.int))
  nd : (a :: rs).Nodup
theorem int_map_get {ns : List Int} {i : Nat} {x : Int} (h : ns[i]? = some x) : (ns.map V.int)[i]? = some (.int x) := by rw [List.getElem?_map, h]; rfl
theorem int_map_inv {ns : List Int} {i : Nat} {x : V} (h : (ns.map V.int)[i]? = some x) : ∃ n, x = .int n ∧ ns[i]? = some n := by
  rw [List.getElem?_map] at h
  cases e : ns[i]? with
  | none => rw [e] at h; cases h
  | some n => rw [e] at h; cases h; exact ⟨n, rfl, rfl⟩
theorem ref_map_inv {ns : List Addr} {i : Nat} {x : V} (h : (ns.map V.ref)[i]? = some x) : ∃ n, x = .ref n ∧ ns[i]? = some n := by
  rw [List.getElem?_map] at h
  cases e : ns[i]? with
  | none => rw [e] at h; cases h
  | some n => rw [e] at h; cases h; exact ⟨n, rfl, rfl⟩
/-- the fields of a house -/
def hfs (d : Int) (aw al : Addr) : List (Str × V) := putF "lamps" (.ref al) (putF "ways" (.ref aw) (putF "doors" (.int d) []))
structure HouseAt (C : Addr) (H : Hp) (p : Addr) (d : Int) (aw : Addr) (rs : List Addr) (rss : List (List Int)) (al : Addr) (ls : List Bool) : Prop where
  ob : ∃ dx, H p = some (.ins C dx (hfs d aw al))
  ways : Mat H aw rs rss
  lamps : H al = some (.lst (ls.map V.bl))
/-- between two turns: the rows so far -/
structure Grown (H H' : Hp) (l : Addr) (rs : List Addr) (f : Nat → List Int) : Prop where
  top : H' l = some (.lst (rs.map V.ref))
  row : ∀ (j : Nat) (b : Addr), rs[j]? = some b → H' b = some (.lst ((f j).map V.int))
  nd : (l :: rs).Nodup
  new : ∀ b ∈ l :: rs, H b = none
  same : Same H H'
def lI (row : List Int) : PyData := .list (row.map PyData.int)
def SmallW (ws : List Int) : Prop := ∀ x ∈ ws, -1000000 ≤ x ∧ x ≤ 1000000
/-- the fields of a book -/
def bkf (d : Int) (nb : Addr) : List (Str × V) := putF "noted" (.ref nb) (putF "doors" (.int d) [])
theorem s_nd : ¬ (("noted" : Str) = "doors") := by decide +kernel
theorem bkf_doors (d : Int) (nb : Addr) : (bkf d nb).lookup ("doors" : Str) = some (.int d) := by
  unfold bkf; rw [lookup_putF, if_neg (fun z => s_nd z.symm), lookup_putF, if_pos rfl]
theorem bkf_noted (d : Int) (nb : Addr) : (bkf d nb).lookup ("noted" : Str) = some (.ref nb) := by
  unfold bkf; rw [lookup_putF, if_pos rfl]
theorem bkf_no (d : Int) (nb : Addr) {m : Str} (h1 : ¬ m = "noted") (h2 : ¬ m = "doors") : (bkf d nb).lookup m = none := by
  unfold bkf; rw [lookup_putF, if_neg h1, lookup_putF, if_neg h2]; rfl
def bkv (x : List Int × Bool) : List Key × V := (x.1.map Sum.inl, .bl x.2)
def saidO (kvs : List (List Int × Bool)) (ws : List Int) : Option Bool := (kvs.find? fun kv => decide (kv.1 = ws)).map (·.2)
def saidV (kvs : List (List Int × Bool)) (ws : List Int) : V := ((saidO kvs ws).map V.bl).getD .non
theorem inl_inj : ∀ {a b : List Int}, a.map (Sum.inl : Int → Key) = b.map Sum.inl → a = b
  | [], [], _ => rfl
  | [], _ :: _, h => by simp at h
  | _ :: _, [], h => by simp at h
  | x :: a, y :: b, h => by
    simp only [List.map_cons, List.cons.injEq] at h
    rw [Sum.inl.inj h.1, inl_inj h.2]
theorem valV_bkv (ws : List Int) : ∀ kvs : List (List Int × Bool), valV (kvs.map bkv) (ws.map Sum.inl) = (saidO kvs ws).map V.bl
  | [] => rfl
  | (w, b) :: r => by
    by_cases h : w = ws
    · subst h
      rw [List.map_cons, show bkv (w, b) = (w.map Sum.inl, V.bl b) from rfl, valV_pos (p := (w.map Sum.inl, V.bl b)) (k := w.map Sum.inl) rfl]
      simp [saidO, bkv]
    · rw [List.map_cons, valV_neg (fun z => h (inl_inj z)), valV_bkv ws r]
      simp [saidO, h]
theorem kv_inl (ws : List Int) : (ws.map (Sum.inl : Int → Key)).map kV = ws.map V.int := by
  rw [List.map_map]; exact congrArg (fun f => List.map f ws) (funext fun x => rfl)
structure BookAt (C : Addr) (H : Hp) (p : Addr) (d : Int) (nb : Addr) (kvs : List (List Int × Bool)) : Prop where
  ob : ∃ dx, H p = some (.ins C dx (bkf d nb))
  noted : H nb = some (.dT (kvs.map bkv))
  nd : (kvs.map Prod.fst).Nodup
theorem BookAt.same {C : Addr} {H H' : Hp} {p : Addr} {d : Int} {nb : Addr} {kvs : List (List Int × Bool)} (e : Same H H') (h : BookAt C H p d nb kvs) : BookAt C H' p d nb kvs :=
  ⟨let ⟨dx, q⟩ := h.ob; ⟨dx, e _ _ q⟩, e _ _ h.noted, h.nd⟩
theorem saidO_fresh {kvs : List (List Int × Bool)} {ws : List Int} (h : saidO kvs ws = none) : ws ∉ kvs.map Prod.fst := fun z => by
  obtain ⟨kv, h1, rfl⟩ := List.mem_map.mp z
  unfold saidO at h
  rw [Option.map_eq_none_iff, List.find?_eq_none] at h
  exact h kv h1 (by simp)
theorem book_nd {kvs : List (List Int × Bool)} {ws : List Int} {lit : Bool} (h : (kvs.map Prod.fst).Nodup) (hn : saidO kvs ws = none) : ((kvs ++ [(ws, lit)]).map Prod.fst).Nodup := by
  rw [List.map_append, List.map_cons, List.map_nil]
  refine List.nodup_append.mpr ⟨h, by simp, fun a ha b hb e => ?_⟩
  have e : a = ws := by rw [e, List.mem_singleton.mp hb]
  exact saidO_fresh hn (by rw [← e]; exact ha)
theorem book_again {kvs : List (List Int × Bool)} {ws : List Int} {lit : Bool} (h : (kvs.map Prod.fst).Nodup) (hs : saidO kvs ws = some lit) : putK (kvs.map bkv) (ws.map Sum.inl) (.bl lit) = kvs.map bkv := by
  unfold putK
  rw [if_pos (by rw [valV_any, valV_bkv, hs]; rfl), List.map_map]
  refine List.map_congr_left fun kv hk => ?_
  show (if (kv.1.map Sum.inl : List Key) = ws.map Sum.inl then ((kv.1.map Sum.inl : List Key), V.bl lit) else bkv kv) = bkv kv
  by_cases e : kv.1 = ws
  · rw [if_pos (by rw [e])]
    have : kv.2 = lit := by
      unfold saidO at hs
      obtain ⟨kv', h1, h2⟩ := Option.map_eq_some_iff.mp hs
      have h3 := List.find?_some h1
      have h4 := List.mem_of_find?_eq_some h1
      have h5 : kv'.1 = kv.1 := by rw [e]; simpa using h3
      obtain ⟨i, hi⟩ := List.getElem?_of_mem hk
      obtain ⟨j, hj⟩ := List.getElem?_of_mem h4
      have hij : i = j := by
        refine (List.getElem?_inj (l := kvs.map Prod.fst) (by rw [List.length_map]; exact (List.getElem?_eq_some_iff.mp hi).1) h).mp ?_
        rw [List.getElem?_map, List.getElem?_map, hi, hj]
        simp [h5]
      subst hij
      rw [hi] at hj
      rw [Option.some.inj hj]; exact h2
    rw [← this]; rfl
  · rw [if_neg (fun z => e (inl_inj z))]
/-- what all_said gives back -/
structure SaidAt (H H' : Hp) (l : Addr) (ts as : List Addr) (kvs : List (List Int × Bool)) : Prop where
  top : H' l = some (.lst (ts.map V.ref))
  tup : ∀ (i : Nat) t a w b, ts[i]? = some t → as[i]? = some a → kvs[i]? = some (w, b) → H' t = some (.tup [.ref a, .bl b])
  row : ∀ (i : Nat) a w b, as[i]? = some a → kvs[i]? = some (w, b) → H' a = some (.lst (w.map V.int))
  nd : (l :: as).Nodup
  new : ∀ b ∈ l :: as, H b = none
  same : Same H H'

/-- w parts the two, and no word ahead of it does -/
structure Parts (d : Int) (rss rss2 : List (List Int)) (ls ls2 : List Bool) (a b : Int) (w : List Int) : Prop where
  ok : WordOk d w
  un : lampI ls (walkI rss a w) ≠ lampI ls2 (walkI rss2 b w)
  least : ∀ v, WordOk d v → slt v w → lampI ls (walkI rss a v) = lampI ls2 (walkI rss2 b v)
structure PairIn (d : Int) (rss rss2 : List (List Int)) (ls ls2 : List Bool) (a b : Int) : Prop where
  w1 : Ways d rss
  w2 : Ways d rss2
  l1 : ls.length = rss.length
  l2 : ls2.length = rss2.length
  a0 : 0 ≤ a
  a1 : a < rss.length
  b0 : 0 ≤ b
  b1 : b < rss2.length
  d1 : 1 ≤ d
  d6 : d ≤ 6
  sz : rss.length * rss2.length ≤ 100000
theorem getElem?_snoc {α : Type} {l : List α} {x y : α} {i : Nat} (h : (l ++ [x])[i]? = some y) : (i < l.length ∧ l[i]? = some y) ∨ (i = l.length ∧ y = x) := by
  rcases Nat.lt_or_ge i l.length with hl | hl
  · rw [List.getElem?_append_left hl] at h; exact .inl ⟨hl, h⟩
  · rw [List.getElem?_append_right hl] at h
    have hz : i - l.length = 0 := by
      have := (List.getElem?_eq_some_iff.mp h).1
      simp at this; omega
    rw [hz] at h
    simp at h
    exact .inr ⟨by omega, h.symm⟩
structure Adr where
  C_Book : Addr
  C_HouseError : Addr
  C_BadHouse : Addr
  C_BadWord : Addr
  C_SaidOtherwise : Addr
  C_NotWrong : Addr
  f_check_doors : Addr
  fd_check_doors : FuncData
  f_check_word : Addr
  fd_check_word : FuncData
  f_Book_init : Addr
  fd_Book_init : FuncData
  f_Book_said : Addr
  fd_Book_said : FuncData
  f_Book_check_note : Addr
  fd_Book_check_note : FuncData
  f_Book_note : Addr
  fd_Book_note : FuncData
  f_Book_all_said : Addr
  fd_Book_all_said : FuncData
  f_l_cell_at : Addr
  fd_l_cell_at : FuncData
  f_l_draw : Addr
  fd_l_draw : FuncData
  f_l_word_by : Addr
  fd_l_word_by : FuncData
  f_l_whole : Addr
  fd_l_whole : FuncData
  f_l_is_word : Addr
  fd_l_is_word : FuncData
  f_l_stands_under : Addr
  fd_l_stands_under : FuncData
  f_l_found : Addr
  fd_l_found : FuncData
  f_l_told : Addr
  fd_l_told : FuncData
  f_l_said_is : Addr
  fd_l_said_is : FuncData
  f_l_all_is : Addr
  fd_l_all_is : FuncData
  f_law : Addr
  fd_law : FuncData
structure Txt (K : PySem.W.Frag) (mg : Str → Option Value) (t : Adr) : Prop where
  m_len : mg "len" = none
  m_range : mg "range" = none
  m_isinstance : mg "isinstance" = none
  m_list : mg "list" = none
  m_int : mg "int" = none
  m_bool : mg "bool" = none
  m_tuple : mg "tuple" = none
  m_ValueError : mg "ValueError" = none
  mg_MOST_DOORS : ∃ tk, mg "MOST_DOORS" = some (.int 6 tk)
  mg_Book : mg "Book" = some (.ref t.C_Book)
  cl_Book : Cls K t.C_Book
  tc_Book : PySem.W.findIn K (.ref t.C_Book) "__class__" = some (some (.builtin "object.__class__"))
  tm_Book : PySem.W.mroIn K t.C_Book (.type "object") = some true
  na_Book_doors : NoAttr K t.C_Book "doors"
  na_Book_noted : NoAttr K t.C_Book "noted"
  mg_HouseError : mg "HouseError" = some (.ref t.C_HouseError)
  ex_HouseError : ExcK K "HouseError" t.C_HouseError
  cl_HouseError : PySem.W.isClsIn K t.C_HouseError = true
  ty_HouseError : PySem.W.typeIn K (.ref t.C_HouseError) = some (.type "type")
  mv_HouseError : PySem.W.mroIn K t.C_HouseError (.type "ValueError") = some true
  ms_HouseError : PySem.W.mroIn K t.C_HouseError (.ref t.C_HouseError) = some true
  mg_BadHouse : mg "BadHouse" = some (.ref t.C_BadHouse)
  ex_BadHouse : ExcK K "BadHouse" t.C_BadHouse
  cl_BadHouse : PySem.W.isClsIn K t.C_BadHouse = true
  ty_BadHouse : PySem.W.typeIn K (.ref t.C_BadHouse) = some (.type "type")
  mv_BadHouse : PySem.W.mroIn K t.C_BadHouse (.type "ValueError") = some true
  ms_BadHouse : PySem.W.mroIn K t.C_BadHouse (.ref t.C_BadHouse) = some true
  mg_BadWord : mg "BadWord" = some (.ref t.C_BadWord)
  ex_BadWord : ExcK K "BadWord" t.C_BadWord
  cl_BadWord : PySem.W.isClsIn K t.C_BadWord = true
  ty_BadWord : PySem.W.typeIn K (.ref t.C_BadWord) = some (.type "type")
  mv_BadWord : PySem.W.mroIn K t.C_BadWord (.type "ValueError") = some true
  ms_BadWord : PySem.W.mroIn K t.C_BadWord (.ref t.C_BadWord) = some true
  mg_SaidOtherwise : mg "SaidOtherwise" = some (.ref t.C_SaidOtherwise)
  ex_SaidOtherwise : ExcK K "SaidOtherwise" t.C_SaidOtherwise
  cl_SaidOtherwise : PySem.W.isClsIn K t.C_SaidOtherwise = true
  ty_SaidOtherwise : PySem.W.typeIn K (.ref t.C_SaidOtherwise) = some (.type "type")
  mv_SaidOtherwise : PySem.W.mroIn K t.C_SaidOtherwise (.type "ValueError") = some true
  ms_SaidOtherwise : PySem.W.mroIn K t.C_SaidOtherwise (.ref t.C_SaidOtherwise) = some true
  mg_NotWrong : mg "NotWrong" = some (.ref t.C_NotWrong)
  ex_NotWrong : ExcK K "NotWrong" t.C_NotWrong
  cl_NotWrong : PySem.W.isClsIn K t.C_NotWrong = true
  ty_NotWrong : PySem.W.typeIn K (.ref t.C_NotWrong) = some (.type "type")
  mv_NotWrong : PySem.W.mroIn K t.C_NotWrong (.type "ValueError") = some true
  ms_NotWrong : PySem.W.mroIn K t.C_NotWrong (.ref t.C_NotWrong) = some true
  mr_HouseError_SaidOtherwise : PySem.W.mroIn K t.C_HouseError (.ref t.C_SaidOtherwise) = some false
  mr_SaidOtherwise_HouseError : PySem.W.mroIn K t.C_SaidOtherwise (.ref t.C_HouseError) = some true
  mr_SaidOtherwise_BadWord : PySem.W.mroIn K t.C_SaidOtherwise (.ref t.C_BadWord) = some false
  mr_SaidOtherwise_NotWrong : PySem.W.mroIn K t.C_SaidOtherwise (.ref t.C_NotWrong) = some false
  tg : PySem.W.specialIn K (.builtin "object.__class__") "__get__" = some (some (.builtin "getset_descriptor.__get__"))
  tt : PySem.W.takesIn K (.builtin "object.__class__") = some true
  mg_check_doors : mg "check_doors" = some (.ref t.f_check_doors)
  F_check_doors : Fun K "check_doors" "check_doors" s_check_doors t.f_check_doors t.fd_check_doors
  mg_check_word : mg "check_word" = some (.ref t.f_check_word)
  F_check_word : Fun K "check_word" "check_word" s_check_word t.f_check_word t.fd_check_word
  F_Book_init : Fun K "__init__" "Book.__init__" s_Book_init t.f_Book_init t.fd_Book_init
  mk_Book : Mk K t.C_Book t.f_Book_init
  F_Book_said : Fun K "said" "Book.said" s_Book_said t.f_Book_said t.fd_Book_said
  me_Book_said : Meth K t.C_Book "said" t.f_Book_said
  F_Book_check_note : Fun K "check_note" "Book.check_note" s_Book_check_note t.f_Book_check_note t.fd_Book_check_note
  me_Book_check_note : Meth K t.C_Book "check_note" t.f_Book_check_note
  F_Book_note : Fun K "note" "Book.note" s_Book_note t.f_Book_note t.fd_Book_note
  me_Book_note : Meth K t.C_Book "note" t.f_Book_note
  F_Book_all_said : Fun K "all_said" "Book.all_said" s_Book_all_said t.f_Book_all_said t.fd_Book_all_said
  me_Book_all_said : Meth K t.C_Book "all_said" t.f_Book_all_said
  mg_l_cell_at : mg "_law_cell_at" = some (.ref t.f_l_cell_at)
  F_l_cell_at : Fun K "_law_cell_at" "_law_cell_at" s_l_cell_at t.f_l_cell_at t.fd_l_cell_at
  mg_l_draw : mg "_law_draw" = some (.ref t.f_l_draw)
  F_l_draw : Fun K "_law_draw" "_law_draw" s_l_draw t.f_l_draw t.fd_l_draw
  mg_l_word_by : mg "_law_word_by" = some (.ref t.f_l_word_by)
  F_l_word_by : Fun K "_law_word_by" "_law_word_by" s_l_word_by t.f_l_word_by t.fd_l_word_by
  mg_l_whole : mg "_law_whole" = some (.ref t.f_l_whole)
  F_l_whole : Fun K "_law_whole" "_law_whole" s_l_whole t.f_l_whole t.fd_l_whole
  mg_l_is_word : mg "_law_is_word" = some (.ref t.f_l_is_word)
  F_l_is_word : Fun K "_law_is_word" "_law_is_word" s_l_is_word t.f_l_is_word t.fd_l_is_word
  mg_l_stands_under : mg "_law_stands_under" = some (.ref t.f_l_stands_under)
  F_l_stands_under : Fun K "_law_stands_under" "_law_stands_under" s_l_stands_under t.f_l_stands_under t.fd_l_stands_under
  mg_l_found : mg "_law_found" = some (.ref t.f_l_found)
  F_l_found : Fun K "_law_found" "_law_found" s_l_found t.f_l_found t.fd_l_found
  mg_l_told : mg "_law_told" = some (.ref t.f_l_told)
  F_l_told : Fun K "_law_told" "_law_told" s_l_told t.f_l_told t.fd_l_told
  mg_l_said_is : mg "_law_said_is" = some (.ref t.f_l_said_is)
  F_l_said_is : Fun K "_law_said_is" "_law_said_is" s_l_said_is t.f_l_said_is t.fd_l_said_is
  mg_l_all_is : mg "_law_all_is" = some (.ref t.f_l_all_is)
  F_l_all_is : Fun K "_law_all_is" "_law_all_is" s_l_all_is t.f_l_all_is t.fd_l_all_is
  mg_law : mg "law" = some (.ref t.f_law)
  F_law : Fun K "law" "law" s_law t.f_law t.fd_law
section
variable {P : Program} {w : World} {K : PySem.W.Frag} {mg : Str → Option Value} {base : Heap} {t : Adr}
/-! #### check_doors -/
theorem sc_check_doors : FnScope ["doors"] ["doors"] (defScope s_check_doors) := ⟨rfl, rfl, rfl, by decide +kernel, rfl, by decide +kernel, by decide +kernel⟩
theorem b_check_doors (T : Txt K mg t) : Binds K t.fd_check_doors ["doors"] [] := T.F_check_doors.binds fun _ _ _ _ _ _ us hl => match us, hl with | [_], _ => rfl
def sp_check_doors : Sp := fun vs H Q _ => ∃ d : Int, vs = [.int d] ∧ 1 ≤ d ∧ d ≤ 6 ∧ Q .non H
theorem ok_check_doors (T : Txt K mg t) : FnOk P w K mg base CX0 1 t.f_check_doors t.fd_check_doors ["doors"] (sp_check_doors) := by
  refine T.F_check_doors.ok sc_check_doors (fun vs H Q E h => ?_) (fun cdv A outer s H vs Q E hr h => ?_)
  · obtain ⟨d, rfl, _⟩ := h
    rfl
  · obtain ⟨d, rfl, hd1, hd6, q⟩ := h
    refine ⟨_, pss_one (ps_if (pt_not (pt_chain op_le op_le (pe_int) (pv 0) (pe_glob (v := .int 6) rfl T.mg_MOST_DOORS.choose_spec ⟨_, rfl⟩)))
 (pss_one (ps_never))
 (pss_nil)), ?_⟩
    repeat walk_at "sx"
    refine r_iteP (decide_eq_true hd1) ?_
    repeat walk_at "sx"
    refine r_iteN (by simp [hd6]) ?_
    repeat walk_at "sx"
    exact q
/-! #### check_word -/
theorem sc_check_word : FnScope ["doors", "word", "door"] ["doors", "word"] (defScope s_check_word) := ⟨rfl, rfl, rfl, by decide +kernel, rfl, by decide +kernel, by decide +kernel⟩
theorem b_check_word (T : Txt K mg t) : Binds K t.fd_check_word ["doors", "word"] [] := T.F_check_word.binds fun _ _ _ _ _ _ us hl => match us, hl with | [_, _], _ => rfl
def sp_check_word (K : PySem.W.Frag) (CB : Addr) : Sp := fun vs H Q E => ∃ (d : Int) (b : Addr) (ws : List Int), vs = [.int d, .ref b] ∧ SqL K H b (ws.map V.int) ∧ SmallW ws ∧ (WordOk d ws → Q .non H) ∧ (¬ WordOk d ws → E (.ref CB) none H)
theorem ok_check_word (T : Txt K mg t) : FnOk P w K mg base (CXr P w) 1 t.f_check_word t.fd_check_word ["doors", "word"] (sp_check_word K t.C_BadWord) := by
  refine T.F_check_word.okX sc_check_word (fun vs H Q E h => ?_) (fun cdv A outer s H vs Q E hr h => ?_)
  · obtain ⟨d, b, ws, rfl, _⟩ := h
    rfl
  · obtain ⟨d, b, ws, rfl, hS, sm, q, qe⟩ := h
    have he : ¬ WordOk d ws → ∀ x : Str, ([V.str x] : List V).length ≤ sizeLine ∧ E (.ref t.C_BadWord) none H := fun nv x => ⟨show 1 ≤ sizeLine by decide, qe nv⟩
    refine ⟨_, pss_one (ps_for xp_def.own rfl (pi_listK K (pv 1)) (pg_name (i := 2) sc_check_word.nd rfl (Or.inl rfl))
 (pss_one (ps_if (pt_not (pt_chain op_le op_lt (pe_int) (pv 2) (pv 0)))
 (pss_one (ps_raise xm_def rfl rfl T.mg_BadWord T.ex_BadWord.toExcCls (pa_cons (pe_joined (pj_int (pv 2) (pj_str (pj_nil)))) (pa_nil))))
 (pss_nil)))), ?_⟩
    repeat walk_at "sx"
    refine ⟨b, rfl, ⟨_, hS⟩, ?_⟩
    refine for_list (xs := ws.map V.int) (fun i σ H' => H' = H ∧ (∀ j, j < i → ∀ x, ws[j]? = some x → 0 ≤ x ∧ x < d) ∧ ∃ kv, σ = [some (.int d), some (.ref b), kv]) ⟨rfl, fun j hj => absurd hj (Nat.not_lt_zero j), none, rfl⟩ (fun i σ H' _ p => by rw [p.1]; exact hS) (fun i x σ H' hx p => ?_) (fun σ H' p => ?_)
    · obtain ⟨rfl, done, kv, rfl⟩ := p
      have hx0 := int_map_inv hx
      clear hx
      obtain ⟨x, rfl, hx⟩ := hx0
      obtain ⟨s0, s1⟩ := sm x (List.mem_of_getElem? hx)
      have nv : ¬ (0 ≤ x ∧ x < d) → ¬ WordOk d ws := fun nx V => nx (V x (List.mem_of_getElem? hx))
      repeat walk_at "sx"
      refine r_ite (fun x0 => ?_) (fun x0 => ?_)
      rotate_left
      · repeat walk_at "sx"
        refine r_iteP rfl ?_
        repeat walk_at "sx"
        refine ⟨_, rfl, small_log s0 s1, ?_⟩
        repeat walk_at "sx"
        exact he (nv fun z => by have := z.1; simp at x0; omega)
      have x0 := of_decide_eq_true x0
      repeat walk_at "sx"
      refine r_ite (fun x1 => ?_) (fun x1 => ?_)
      · repeat walk_at "sx"
        refine ⟨_, rfl, small_log s0 s1, ?_⟩
        repeat walk_at "sx"
        exact he (nv fun z => by have := z.2; simp at x1; omega)
      have x1 : x < d := by simpa using x1
      repeat walk_at "sx"
      refine ⟨rfl, fun j hj y hy => ?_, _, rfl⟩
      rcases Nat.lt_or_ge j i with hji | hji
      · exact done j hji y hy
      · have : j = i := by omega
        subst this
        rw [hx] at hy; cases hy
        exact ⟨x0, x1⟩
    · obtain ⟨rfl, done, kv, rfl⟩ := p
      refine q fun x hx => ?_
      obtain ⟨j, hj⟩ := List.getElem?_of_mem hx
      refine done j ?_ x hj
      obtain ⟨hj1, _⟩ := List.getElem?_eq_some_iff.mp hj
      rw [List.length_map]; exact hj1
/-! #### Book_init -/
theorem sc_Book_init : FnScope ["self", "doors"] ["self", "doors"] (defScope s_Book_init) := ⟨rfl, rfl, rfl, by decide +kernel, rfl, by decide +kernel, by decide +kernel⟩
theorem b_Book_init (T : Txt K mg t) : Binds K t.fd_Book_init ["self", "doors"] [] := T.F_Book_init.binds fun _ _ _ _ _ _ us hl => match us, hl with | [_, _], _ => rfl
def sp_Book_init (C : Addr) : Sp := fun vs H Q _ => ∃ (p dx : Addr) (d : Int), vs = [.ref p, .int d] ∧ H p = some (.ins C dx []) ∧ 1 ≤ d ∧ d ≤ 6 ∧
  ∀ (H' : Hp) (nb : Addr), BookAt C H' p d nb [] → (∀ b o, H b = some o → b ≠ p → H' b = some o) → H nb = none → Q .non H'
theorem ok_Book_init (T : Txt K mg t) : FnOk P w K mg base CX0 2 t.f_Book_init t.fd_Book_init ["self", "doors"] (sp_Book_init t.C_Book) := by
  refine T.F_Book_init.ok sc_Book_init (fun vs H Q E h => ?_) (fun cdv A outer s H vs Q E hr h => ?_)
  · obtain ⟨p, dx, d, rfl, _⟩ := h
    rfl
  · obtain ⟨p, dx, d, rfl, hp, hd1, hd6, q⟩ := h
    refine ⟨_, pss_cons (ps_expr (pe_call (ok_check_doors T) (hr.mono (by decide)) rfl T.mg_check_doors T.F_check_doors.kp (b_check_doors T) .nil pass0 (pa_cons (pv 1) (pa_nil))))
 (pss_cons (ps_fldK K (pv 0) (pv 1) rfl)
 (pss_one (ps_fldK K (pv 0) (pe_dnewT) rfl))), ?_⟩
    repeat walk_at "sx"
    refine ⟨d, rfl, hd1, hd6, ?_⟩
    repeat walk_at "sx"
    refine ⟨p, _, dx, _, rfl, hp, T.cl_Book, T.na_Book_doors, (by show 0 < 1000; decide), ?_⟩
    repeat walk_at "sx"
    intro nb hnb
    have npn : p ≠ nb := fun z => by rw [← z, upd_same] at hnb; cases hnb
    have hnb' : H nb = none := by rw [upd_ne (Ne.symm npn)] at hnb; exact hnb
    repeat walk_at "sx"
    refine ⟨p, _, dx, _, rfl, (by rw [upd_ne npn]; exact upd_same), T.cl_Book, T.na_Book_noted, (by have h2 := length_putF "doors" (.int d) []; simp only [List.length_nil] at h2; omega), ?_⟩
    refine q _ nb ⟨⟨dx, upd_same⟩, by rw [upd_ne (Ne.symm npn), upd_same]; rfl, by simp⟩ (fun b o e hb => ?_) hnb'
    rw [upd_ne hb, upd_ne (ne_of_none e hnb'), upd_ne hb]; exact e
/-! #### Book_said -/
theorem sc_Book_said : FnScope ["self", "word"] ["self", "word"] (defScope s_Book_said) := ⟨rfl, rfl, rfl, by decide +kernel, rfl, by decide +kernel, by decide +kernel⟩
theorem b_Book_said (T : Txt K mg t) : Binds K t.fd_Book_said ["self", "word"] [] := T.F_Book_said.binds fun _ _ _ _ _ _ us hl => match us, hl with | [_, _], _ => rfl
def sp_Book_said (K : PySem.W.Frag) (C CB : Addr) : Sp := fun vs H Q E => ∃ (p : Addr) (d : Int) (nb : Addr) (kvs : List (List Int × Bool)) (b : Addr) (ws : List Int), vs = [.ref p, .ref b] ∧ BookAt C H p d nb kvs ∧ SqL K H b (ws.map V.int) ∧ SmallW ws ∧
  (WordOk d ws → ∀ H', Same H H' → Q (saidV kvs ws) H') ∧ (¬ WordOk d ws → E (.ref CB) none H)
theorem ok_Book_said (T : Txt K mg t) : FnOk P w K mg base (CXr P w) 2 t.f_Book_said t.fd_Book_said ["self", "word"] (sp_Book_said K t.C_Book t.C_BadWord) := by
  refine T.F_Book_said.okX sc_Book_said (fun vs H Q E h => ?_) (fun cdv A outer s H vs Q E hr h => ?_)
  · obtain ⟨p, d, nb, kvs, b, ws, rfl, _⟩ := h
    rfl
  · obtain ⟨p, d, nb, kvs, b, ws, rfl, bk, hS, sm, q, qe⟩ := h
    obtain ⟨dx, ho⟩ := bk.ob
    refine ⟨_, pss_cons (ps_expr (pe_call (ok_check_word T) (hr.mono (by decide)) rfl T.mg_check_word T.F_check_word.kp (b_check_word T) .nil xp_def.pass (pa_cons (pe_fldK K (pv 0) rfl) (pa_cons (pv 1) (pa_nil)))))
 (pss_one (ps_ret (pe_dget1 hr.units1 (pe_fldK K (pv 0) rfl) (pe_callTy (call_tuple_ofK K) rfl T.m_tuple boot_tuple (pa_cons (pv 1) (pa_nil))) ⟨rfl, rfl, rfl, rfl⟩))), ?_⟩
    repeat walk_at "sx"
    refine ⟨_, rfl, p, _, dx, _, _, rfl, ho, T.cl_Book, T.na_Book_doors, bkf_doors _ _, ?_⟩
    repeat walk_at "sx"
    refine ⟨d, b, ws, rfl, hS, sm, fun hw => ?_, fun nw => qe nw⟩
    repeat walk_at "sx"
    refine ⟨_, rfl, p, _, dx, _, _, rfl, ho, T.cl_Book, T.na_Book_noted, bkf_noted _ _, ?_⟩
    refine ⟨nb, rfl, .inr ⟨_, .inl bk.noted⟩, ?_⟩
    repeat walk_at "sx"
    refine ⟨b, _, rfl, .inl ⟨hS, fun tp htp => ?_⟩⟩
    refine ⟨_, DGet.t (k := ws.map Sum.inl) (by rw [upd_ne (ne_of_none bk.noted htp)]; exact bk.noted) (by rw [upd_same, kv_inl]), ?_⟩
    rw [valV_bkv]
    exact q hw _ (Same.upd_new htp)
/-! #### Book_check_note -/
theorem sc_Book_check_note : FnScope ["self", "word", "lit", "before"] ["self", "word", "lit"] (defScope s_Book_check_note) := ⟨rfl, rfl, rfl, by decide +kernel, rfl, by decide +kernel, by decide +kernel⟩
theorem b_Book_check_note (T : Txt K mg t) : Binds K t.fd_Book_check_note ["self", "word", "lit"] [] := T.F_Book_check_note.binds fun _ _ _ _ _ _ us hl => match us, hl with | [_, _, _], _ => rfl
def sp_Book_check_note (K : PySem.W.Frag) (C CB CS : Addr) : Sp := fun vs H Q E => ∃ (p : Addr) (d : Int) (nb : Addr) (kvs : List (List Int × Bool)) (b : Addr) (ws : List Int) (lit : Bool), vs = [.ref p, .ref b, .bl lit] ∧ BookAt C H p d nb kvs ∧ SqL K H b (ws.map V.int) ∧ SmallW ws ∧
  (WordOk d ws → saidO kvs ws ≠ some (!lit) → ∀ H', Same H H' → Q .non H') ∧
  (WordOk d ws → saidO kvs ws = some (!lit) → ∀ H', Same H H' → E (.ref CS) none H') ∧ (¬ WordOk d ws → E (.ref CB) none H)
theorem ok_Book_check_note (T : Txt K mg t) : FnOk P w K mg base (CXr P w) 3 t.f_Book_check_note t.fd_Book_check_note ["self", "word", "lit"] (sp_Book_check_note K t.C_Book t.C_BadWord t.C_SaidOtherwise) := by
  refine T.F_Book_check_note.okX sc_Book_check_note (fun vs H Q E h => ?_) (fun cdv A outer s H vs Q E hr h => ?_)
  · obtain ⟨p, d, nb, kvs, b, ws, lit, rfl, _⟩ := h
    rfl
  · obtain ⟨p, d, nb, kvs, b, ws, lit, rfl, bk, hS, sm, q1, q3, qe⟩ := h
    obtain ⟨dx, ho⟩ := bk.ob
    refine ⟨_, pss_cons (ps_set (i := 3) sc_Book_check_note.nd rfl (Or.inl rfl) (pe_meth (pv 0) T.cl_Book T.me_Book_said (ok_Book_said T) (hr.mono (by decide)) (b_Book_said T) .nil xp_def.pass (pa_cons (pv 1) (pa_nil))))
 (pss_one (ps_if (PW.pt (pw_and (pt_cmpR op_notN (pv 3) (pe_non) (nomark _)) (pw_and1 (pt_cmpR op_ne (pv 3) (pv 2) (nomark _)))))
 (pss_one (ps_raise xm_def rfl rfl T.mg_SaidOtherwise T.ex_SaidOtherwise.toExcCls (pa_cons (pe_joined (pj_bl (pv 3) (pj_str (pj_nil)))) (pa_nil))))
 (pss_nil))), ?_⟩
    repeat walk_at "sx"
    refine ⟨p, dx, _, rfl, ho, bkf_no _ _ (by decide +kernel) (by decide +kernel), ?_⟩
    repeat walk_at "sx"
    refine ⟨p, d, nb, kvs, b, ws, rfl, bk, hS, sm, fun hw H1 hs1 => ?_, fun nw => qe nw⟩
    repeat walk_at "sx"
    refine ⟨rfl, ?_⟩
    repeat walk_at "sx"
    cases hsaid : saidO kvs ws with
    | none =>
      refine r_iteN (by simp [saidV, hsaid]) ?_
      repeat walk_at "sx"
      refine r_iteN rfl ?_
      exact q1 hw (by rw [hsaid]; intro z; cases z) _ hs1
    | some c =>
      refine r_iteP (by simp [saidV, hsaid]) ?_
      repeat walk_at "sx"
      have hv : saidV kvs ws = .bl c := by simp [saidV, hsaid]
      rw [hv]
      refine r_ne rfl ?_
      repeat walk_at "sx"
      by_cases hcl : c = lit
      · subst hcl
        refine r_iteN (by simp) ?_
        exact q1 hw (by rw [hsaid]; intro z; cases c <;> simp at z) _ hs1
      · have hc2 : c = !lit := by cases c <;> cases lit <;> simp_all
        refine r_iteP (by simpa using hcl) ?_
        repeat walk_at "sx"
        exact fun _ => ⟨show 1 ≤ sizeLine by decide, q3 hw (by rw [hsaid, hc2]) _ hs1⟩
/-! #### Book_note -/
theorem sc_Book_note : FnScope ["self", "word", "lit"] ["self", "word", "lit"] (defScope s_Book_note) := ⟨rfl, rfl, rfl, by decide +kernel, rfl, by decide +kernel, by decide +kernel⟩
theorem b_Book_note (T : Txt K mg t) : Binds K t.fd_Book_note ["self", "word", "lit"] [] := T.F_Book_note.binds fun _ _ _ _ _ _ us hl => match us, hl with | [_, _, _], _ => rfl
def sp_Book_note (K : PySem.W.Frag) (C CB CS : Addr) : Sp := fun vs H Q E => ∃ (p : Addr) (d : Int) (nb : Addr) (kvs : List (List Int × Bool)) (b : Addr) (ws : List Int) (lit : Bool), vs = [.ref p, .ref b, .bl lit] ∧ BookAt C H p d nb kvs ∧ SqL K H b (ws.map V.int) ∧ SmallW ws ∧ kvs.length ≤ 900 ∧
  (WordOk d ws → saidO kvs ws = none → ∀ H', BookAt C H' p d nb (kvs ++ [(ws, lit)]) → (∀ y o, y ≠ nb → H y = some o → H' y = some o) → Q .non H') ∧
  (WordOk d ws → saidO kvs ws = some lit → ∀ H', Same H H' → Q .non H') ∧
  (WordOk d ws → saidO kvs ws = some (!lit) → ∀ H', Same H H' → E (.ref CS) none H') ∧ (¬ WordOk d ws → E (.ref CB) none H)
theorem ok_Book_note (T : Txt K mg t) : FnOk P w K mg base (CXr P w) 4 t.f_Book_note t.fd_Book_note ["self", "word", "lit"] (sp_Book_note K t.C_Book t.C_BadWord t.C_SaidOtherwise) := by
  refine T.F_Book_note.okX sc_Book_note (fun vs H Q E h => ?_) (fun cdv A outer s H vs Q E hr h => ?_)
  · obtain ⟨p, d, nb, kvs, b, ws, lit, rfl, _⟩ := h
    rfl
  · obtain ⟨p, d, nb, kvs, b, ws, lit, rfl, bk, hS, sm, h900, q1, q2, q3, qe⟩ := h
    obtain ⟨dx, ho⟩ := bk.ob
    refine ⟨_, pss_cons (ps_expr (pe_meth (pv 0) T.cl_Book T.me_Book_check_note (ok_Book_check_note T) (hr.mono (by decide)) (b_Book_check_note T) .nil xp_def.pass (pa_cons (pv 1) (pa_cons (pv 2) (pa_nil)))))
 (pss_one (ps_dput hr.units1 (pe_fldK K (pv 0) rfl) (pe_callTy (call_tuple_ofK K) rfl T.m_tuple boot_tuple (pa_cons (pv 1) (pa_nil))) (pv 2) rfl)), ?_⟩
    repeat walk_at "sx"
    refine ⟨p, dx, _, rfl, ho, bkf_no _ _ (by decide +kernel) (by decide +kernel), ?_⟩
    repeat walk_at "sx"
    refine ⟨p, d, nb, kvs, b, ws, lit, rfl, bk, hS, sm, fun hw hno H1 hs1 => ?_, fun hw hs => q3 hw hs, fun nw => qe nw⟩
    repeat walk_at "sx"
    have bk1 := bk.same hs1
    obtain ⟨dx1, ho1⟩ := bk1.ob
    refine ⟨_, rfl, p, _, dx1, _, _, rfl, ho1, T.cl_Book, T.na_Book_noted, bkf_noted _ _, ?_⟩
    repeat walk_at "sx"
    refine ⟨b, _, rfl, .inl ⟨sqL_same hs1 hS, fun tp htp => ?_⟩⟩
    have s2 : Same H1 (upd H1 tp (.tup (ws.map V.int))) := Same.upd_new htp
    have tpv : (upd H1 tp (.tup (ws.map V.int))) tp = some (.tup ((ws.map (Sum.inl : Int → Key)).map kV)) := by rw [upd_same, kv_inl]
    generalize upd H1 tp (.tup (ws.map V.int)) = H2 at s2 tpv ⊢
    have bk2 := bk1.same s2
    refine ⟨nb, _, rfl, DPut.t bk2.noted tpv (by rw [List.length_map]; exact Nat.lt_of_le_of_lt h900 (by decide)), ?_⟩
    cases hsaid : saidO kvs ws with
    | none =>
      rw [putK_new _ (by rw [valV_bkv, hsaid]; rfl)]
      repeat walk_at "sx"
      obtain ⟨dx2, ho2⟩ := bk2.ob
      have hpn : p ≠ nb := ne_of ho2 bk2.noted (fun z => nomatch z)
      refine q1 hw hsaid _ ⟨⟨dx2, by rw [upd_ne hpn]; exact ho2⟩, by rw [upd_same, List.map_append]; rfl, book_nd bk.nd hsaid⟩ fun y o hy e => ?_
      rw [upd_ne hy]; exact s2 _ _ (hs1 _ _ e)
    | some c =>
      have hc : c = lit := by
        rw [hsaid] at hno
        cases c <;> cases lit <;> simp at hno <;> rfl
      subst hc
      rw [book_again bk.nd hsaid]
      repeat walk_at "sx"
      refine q2 hw hsaid _ fun y o e => ?_
      have e2 := s2 _ _ (hs1 _ _ e)
      by_cases hy : y = nb
      · subst hy; rw [bk2.noted] at e2; rw [upd_same]; exact e2
      · rw [upd_ne hy]; exact e2
/-! #### Book_all_said -/
theorem sc_Book_all_said : FnScope ["self"] ["self"] (defScope s_Book_all_said) := ⟨rfl, rfl, rfl, by decide +kernel, rfl, by decide +kernel, by decide +kernel⟩
theorem b_Book_all_said (T : Txt K mg t) : Binds K t.fd_Book_all_said ["self"] [] := T.F_Book_all_said.binds fun _ _ _ _ _ _ us hl => match us, hl with | [_], _ => rfl
def sp_Book_all_said (K : PySem.W.Frag) (C : Addr) : Sp := fun vs H Q _ => ∃ (p : Addr) (d : Int) (nb : Addr) (kvs : List (List Int × Bool)), vs = [.ref p] ∧ BookAt C H p d nb kvs ∧ kvs.length ≤ 900 ∧
  ∀ (H' : Hp) (l : Addr) (ts as : List Addr), ts.length = kvs.length → as.length = kvs.length → SaidAt H H' l ts as kvs → Q (.ref l) H'
theorem ok_Book_all_said (T : Txt K mg t) : FnOk P w K mg base CX0 1 t.f_Book_all_said t.fd_Book_all_said ["self"] (sp_Book_all_said K t.C_Book) := by
  refine T.F_Book_all_said.ok sc_Book_all_said (fun vs H Q E h => ?_) (fun cdv A outer s H vs Q E hr h => ?_)
  · obtain ⟨p, d, nb, kvs, rfl, _⟩ := h
    rfl
  · obtain ⟨p, d, nb, kvs, rfl, bk, h900, q⟩ := h
    obtain ⟨dx, ho⟩ := bk.ob
    refine ⟨_, pss_one (ps_ret (pe_thaw (pe_comp (N := ["self"]) (sc0 := (defScope s_Book_all_said)) (N' := ["word", "lit"]) (caps := [none, none]) (by exact ⟨rfl, by decide +kernel, by decide +kernel, by decide +kernel, rfl, rfl, by decide +kernel⟩) rfl (pi_itemsT (pe_bm0K K PySem.F.plainAttrs_dict PySem.F.slot_dict_items PySem.F.type_dict_items mt_items (pe_fldK K (pv 0) rfl))) (fun _ _ _ _ _ _ => pg_tupK K (n := 2) rfl (pgs_cons (pg_name (i := 0) (show List.Nodup (["word", "lit"] : List Str) from by decide +kernel) rfl (Or.inl rfl)) (pgs_cons (pg_name (i := 1) (show List.Nodup (["word", "lit"] : List Str) from by decide +kernel) rfl (Or.inl rfl)) (pgs_nil)))) (fun _ _ _ _ _ _ => pe_tup (pa_cons (pe_callTy (call_list_ofK K) rfl T.m_list boot_list (pa_cons (pv 0) (pa_nil))) (pa_cons (pv 1) (pa_nil))))))), ?_⟩
    repeat walk_at "sx"
    refine ⟨_, rfl, p, _, dx, _, _, rfl, ho, T.cl_Book, T.na_Book_noted, bkf_noted _ _, ?_⟩
    refine ⟨.inr (.inr (.inl ⟨rfl, .inr ⟨_, bk.noted⟩⟩)), ?_⟩
    refine ⟨nb, rfl, rfl, .inr ⟨_, .inl bk.noted⟩, fun v hv => ?_⟩
    have hs1 : Same H (upd H v (.ext (ItemsAt v nb))) := Same.upd_new hv
    refine ⟨v, nb, kvs.map bkv, rfl, upd_same, hs1 _ _ bk.noted, fun od bs hbl hky th => ?_⟩
    rw [List.length_map] at hbl
    have hvn : v ≠ nb := fun z => by rw [z, bk.noted] at hv; cases hv
    -- all but the dict itself
    have hsF : ∀ b o, b ≠ nb → H b = some o → (upd (upd H v (.ext (ItemsAt v nb))) nb (.ext (HeldAt nb od))) b = some o := fun b o hb e => by rw [upd_ne hb]; exact hs1 _ _ e
    have hkF : ∀ (i : Nat) b w y, bs[i]? = some b → kvs[i]? = some (w, y) → (upd (upd H v (.ext (ItemsAt v nb))) nb (.ext (HeldAt nb od))) b = some (.tup (w.map V.int)) := fun i b w y e1 e2 => by
      have h1 := hky i b (w.map Sum.inl) (.bl y) e1 (by rw [List.getElem?_map, e2]; rfl)
      rw [kv_inl] at h1
      rw [upd_ne (ne_of h1 (hs1 _ _ bk.noted) (fun z => nomatch z))]; exact h1
    have hdF : (upd (upd H v (.ext (ItemsAt v nb))) nb (.ext (HeldAt nb od))) nb = some (.ext (HeldAt nb od)) := upd_same
    have nF : ∀ b, (upd (upd H v (.ext (ItemsAt v nb))) nb (.ext (HeldAt nb od))) b = none → H b = none := fun b e => by
      by_cases hb : b = nb
      · subst hb; rw [upd_same] at e; cases e
      · rw [upd_ne hb] at e; exact hs1.free e
    generalize upd (upd H v (.ext (ItemsAt v nb))) nb (.ext (HeldAt nb od)) = F at hsF hkF hdF nF ⊢
    have hzl : (List.zipWith (fun b (kv : List Key × V) => (V.ref b, kv.2)) bs (kvs.map bkv)).length = kvs.length := by simp [hbl]
    have hz : ∀ (i : Nat) k y, (List.zipWith (fun b (kv : List Key × V) => (V.ref b, kv.2)) bs (kvs.map bkv))[i]? = some (k, y) → ∃ b w c, bs[i]? = some b ∧ kvs[i]? = some (w, c) ∧ k = .ref b ∧ y = .bl c := fun i k y e => by
      obtain ⟨hi, _⟩ := List.getElem?_eq_some_iff.mp e
      rw [hzl] at hi
      have hb : i < bs.length := by omega
      rw [List.getElem?_zipWith, List.getElem?_eq_getElem hb, List.getElem?_map, List.getElem?_eq_getElem hi] at e
      simp only [Option.map_some, Option.some.injEq, Prod.mk.injEq] at e
      exact ⟨bs[i], kvs[i].1, kvs[i].2, List.getElem?_eq_getElem hb, List.getElem?_eq_getElem hi, e.1.symm, e.2.symm⟩
    refine comp_items (P := P) (w := w) (fun acc i ys H' => ∃ ts as : List Addr, ys = ts.map V.ref ∧ ts.length = i ∧ as.length = i ∧ Same F H' ∧ H' acc = some (.lst (ts.map V.ref)) ∧ (acc :: as).Nodup ∧ (∀ b ∈ acc :: as, F b = none) ∧ acc ∉ ts ∧
        (∀ (j : Nat) t a w b, ts[j]? = some t → as[j]? = some a → kvs[j]? = some (w, b) → H' t = some (.tup [.ref a, .bl b])) ∧ (∀ (j : Nat) a w b, as[j]? = some a → kvs[j]? = some (w, b) → H' a = some (.lst (w.map V.int))))
      (fun acc hacc => ⟨[], [], rfl, rfl, rfl, Same.upd_new hacc, upd_same, by simp, fun b hb => by rw [List.mem_singleton.mp hb]; exact hacc, by simp, fun j t a w b e => by simp at e, fun j a w b e => by simp at e⟩)
      (fun acc i ys H' hacc hi p => ?_) (fun acc i k y ys H' t0 hacc hx p ht0 => ?_) (fun acc ys H' hacc p => ?_)
    · obtain ⟨ts, as, _, _, _, hs, _⟩ := p
      exact hs _ _ hdF
    · obtain ⟨ts, as, rfl, hlt, hla, hs, hacc', hnd, hnew, hat, htp, hrw⟩ := p
      obtain ⟨b, wd, c, e1, e2, rfl, rfl⟩ := hz i k y hx
      have hi : i < kvs.length := (List.getElem?_eq_some_iff.mp e2).1
      have hsT : Same H' (upd H' t0 (.tup [.ref b, .bl c])) := Same.upd_new ht0
      have htb := hsT _ _ (hs _ _ (hkF i b wd c e1 e2))
      have ht : (upd H' t0 (.tup [.ref b, .bl c])) t0 = some (.tup [.ref b, .bl c]) := upd_same
      have hs2 : Same F (upd H' t0 (.tup [.ref b, .bl c])) := hs.trans hsT
      generalize upd H' t0 (.tup [.ref b, .bl c]) = H2 at hsT htb ht hs2 ⊢
      refine ⟨t0, _, rfl, SqT.of ht, rfl, _, _, rfl, ?_⟩
      repeat walk_at "sx"
      refine ⟨_, _, rfl, ?_⟩
      repeat walk_at "sx"
      refine ⟨rfl, ?_⟩
      repeat walk_at "sx"
      refine ⟨⟨by simp [capσ], fun j z e => ?_⟩, ?_⟩
      · simp [capσ] at e
        rcases j with _ | _ | j <;> simp at e
      repeat walk_at "sx"
      refine ⟨b, _, rfl, .inr (SqT.of htb), fun a ha => ?_⟩
      have hs3 : Same H2 (upd H2 a (.lst (wd.map V.int))) := Same.upd_new ha
      have hav : (upd H2 a (.lst (wd.map V.int))) a = some (.lst (wd.map V.int)) := upd_same
      generalize upd H2 a (.lst (wd.map V.int)) = H3 at hs3 hav ⊢
      repeat walk_at "sx"
      refine ⟨by show 2 ≤ sizeLine; decide, fun t ht' => ?_⟩
      have hs4 : Same H3 (upd H3 t (.tup [.ref a, .bl c])) := Same.upd_new ht'
      have htv : (upd H3 t (.tup [.ref a, .bl c])) t = some (.tup [.ref a, .bl c]) := upd_same
      generalize upd H3 t (.tup [.ref a, .bl c]) = H4 at hs4 htv ⊢
      have s24 : Same H2 H4 := hs3.trans hs4
      have s04 : Same H' H4 := hsT.trans s24
      have hacc4 := s04 _ _ hacc'
      refine ⟨hacc4, small1000 (by simp; omega), ts ++ [t], as ++ [a], by simp, by simp [hlt], by simp [hla], ?_, ?_, ?_, ?_, ?_, ?_, ?_⟩
      · exact Same.upd_fresh (hs2.trans s24) (hnew acc List.mem_cons_self)
      · rw [upd_same, List.map_append]; rfl
      · have ha' : H' a = none := by
          have := hsT.free ha; exact this
        have nin : a ∉ acc :: as := fun hm => by
          rcases List.mem_cons.mp hm with rfl | hm
          · rw [hacc'] at ha'; cases ha'
          · obtain ⟨j, hj⟩ := List.getElem?_of_mem hm
            obtain ⟨hj1, _⟩ := List.getElem?_eq_some_iff.mp hj
            have hjk : j < kvs.length := by omega
            rw [hrw j a kvs[j].1 kvs[j].2 hj (List.getElem?_eq_getElem hjk)] at ha'; cases ha'
        rw [← List.cons_append]
        exact nd_snoc hnd nin
      · intro x hx
        have hx : x ∈ (acc :: as) ++ [a] := hx
        rcases List.mem_append.mp hx with hx | hx
        · exact hnew x hx
        · rw [List.mem_singleton.mp hx]; exact hs2.free ha
      · intro hm
        rcases List.mem_append.mp hm with hm | hm
        · exact hat hm
        · rw [← List.mem_singleton.mp hm] at ht'
          have := hs3.free ht'
          rw [hsT _ _ hacc'] at this; cases this
      · intro j t1 a1 w1 b1 f1 f2 f3
        by_cases hj : j < i
        · rw [List.getElem?_append_left (by omega)] at f1 f2
          have h0 := htp j t1 a1 w1 b1 f1 f2 f3
          have hne1 : t1 ≠ acc := fun z => hat (by rw [← z]; exact List.mem_of_getElem? f1)
          rw [upd_ne hne1]
          exact s04 _ _ h0
        · have hj2 : j = i := by
            obtain ⟨hj1, _⟩ := List.getElem?_eq_some_iff.mp f1
            simp at hj1; omega
          subst hj2
          rw [List.getElem?_append_right (by omega), hlt, Nat.sub_self] at f1
          rw [List.getElem?_append_right (by omega), hla, Nat.sub_self] at f2
          rw [e2] at f3
          cases f1; cases f2; cases f3
          have hta : t ≠ acc := fun z => by
            rw [z] at ht'
            have := hs3.free ht'
            rw [hsT _ _ hacc'] at this; cases this
          rw [upd_ne hta]; exact htv
      · intro j a1 w1 b1 f2 f3
        have hne : a1 ≠ acc := fun z => by
          have hm := List.mem_of_getElem? f2
          rcases List.mem_append.mp hm with hm | hm
          · exact (List.nodup_cons.mp hnd).1 (z ▸ hm)
          · rw [List.mem_singleton.mp hm] at z
            rw [z, hsT _ _ hacc'] at ha; cases ha
        rw [upd_ne hne]
        by_cases hj : j < i
        · rw [List.getElem?_append_left (by omega)] at f2
          exact s04 _ _ (hrw j a1 w1 b1 f2 f3)
        · have hj2 : j = i := by
            obtain ⟨hj1, _⟩ := List.getElem?_eq_some_iff.mp f2
            simp at hj1; omega
          subst hj2
          rw [List.getElem?_append_right (by omega), hla, Nat.sub_self] at f2
          rw [e2] at f3
          cases f2; cases f3
          exact hs4 _ _ hav
    · obtain ⟨ts, as, rfl, hlt, hla, hs, hacc', hnd, hnew, hat, htp, hrw⟩ := p
      rw [hzl] at hlt hla
      have hacN : acc ≠ nb := fun z => by rw [z, hdF] at hacc; cases hacc
      refine ⟨nb, od, kvs.map bkv, bs, th, hs _ _ hdF, by rw [List.length_map]; exact hbl, fun i b k y e1 e2 => ?_, ?_⟩
      · rw [List.getElem?_map] at e2
        cases e3 : kvs[i]? with
        | none => rw [e3] at e2; cases e2
        | some x =>
          rw [e3] at e2; cases e2
          have := hs _ _ (hkF i b x.1 x.2 e1 e3)
          rw [kv_inl]; exact this
      · refine q _ acc ts as hlt hla ⟨by rw [upd_ne hacN]; exact hacc', fun i t a w b f1 f2 f3 => ?_, fun i a w b f2 f3 => ?_, hnd, fun b hb => nF b (hnew b hb), fun b o e => ?_⟩
        · have h0 := htp i t a w b f1 f2 f3
          rw [upd_ne (ne_of h0 (hs _ _ hdF) (fun z => nomatch z))]; exact h0
        · have h0 := hrw i a w b f2 f3
          rw [upd_ne (ne_of h0 (hs _ _ hdF) (fun z => nomatch z))]; exact h0
        · by_cases hb : b = nb
          · subst hb; rw [bk.noted] at e; cases e; exact upd_same
          · rw [upd_ne hb]; exact hs _ _ (hsF b o hb e)
/-! #### l_cell_at -/
theorem sc_l_cell_at : FnScope ["script", "k"] ["script", "k"] (defScope s_l_cell_at) := ⟨rfl, rfl, rfl, by decide +kernel, rfl, by decide +kernel, by decide +kernel⟩
theorem b_l_cell_at (T : Txt K mg t) : Binds K t.fd_l_cell_at ["script", "k"] [] := T.F_l_cell_at.binds fun _ _ _ _ _ _ us hl => match us, hl with | [_, _], _ => rfl
def sp_l_cell_at (K : PySem.W.Frag) : Sp := fun vs H Q _ => ∃ (a : Addr) (ns : List Int) (k : Int), vs = [.ref a, .int k] ∧ SqL K H a (ns.map V.int) ∧ 0 ≤ k ∧ Q (.int (cellv ns k)) H
theorem ok_l_cell_at (T : Txt K mg t) : FnOk P w K mg base CX0 1 t.f_l_cell_at t.fd_l_cell_at ["script", "k"] (sp_l_cell_at K) := by
  refine T.F_l_cell_at.ok sc_l_cell_at (fun vs H Q E h => ?_) (fun cdv A outer s H vs Q E hr h => ?_)
  · obtain ⟨a, ns, k, rfl, _⟩ := h
    rfl
  · obtain ⟨a, ns, k, rfl, hS, h0, q⟩ := h
    refine ⟨_, pss_cons (ps_if (pt_cmpR op_lt (pv 1) (pe_callB (call_len_seqK K) rfl T.m_len PySem.boot_len (pa_cons (pv 0) (pa_nil))) (nomark _))
 (pss_one (ps_ret (pe_ix (ix_listK K) (pv 0) (pv 1) (fun _ _ => rfl))))
 (pss_nil))
 (pss_one (ps_ret (pe_int))), ?_⟩
    repeat walk_at "sx"
    refine ⟨a, _, rfl, .inl hS, ?_⟩
    repeat walk_at "sx"
    refine r_ite (fun hc => ?_) (fun hc => ?_)
    · have hc : k < (ns.map V.int).length := of_decide_eq_true hc
      rw [List.length_map] at hc
      have hn : k.toNat < ns.length := by omega
      repeat walk_at "sx"
      refine r_ixL hS (atI_get' h0 (int_map_get (List.getElem?_eq_getElem hn))) ?_
      have e : cellv ns k = ns[k.toNat] := by
        unfold cellv
        rw [if_pos hc, List.getD_eq_getElem?_getD, List.getElem?_eq_getElem hn, Option.getD_some]
      rw [e] at q
      exact q
    · have hc : ¬ k < (ns.map V.int).length := of_decide_eq_false hc
      rw [List.length_map] at hc
      repeat walk_at "sx"
      have e : cellv ns k = 0 := by unfold cellv; rw [if_neg hc]
      rw [e] at q
      exact q
/-! #### l_draw -/
theorem sc_l_draw : FnScope ["cell", "k", "bound", "stir"] ["cell", "k", "bound"] (defScope s_l_draw) := ⟨rfl, rfl, rfl, by decide +kernel, rfl, by decide +kernel, by decide +kernel⟩
theorem b_l_draw (T : Txt K mg t) : Binds K t.fd_l_draw ["cell", "k", "bound"] [] := T.F_l_draw.binds fun _ _ _ _ _ _ us hl => match us, hl with | [_, _, _], _ => rfl
def sp_l_draw : Sp := fun vs H Q _ => ∃ c k b : Int, vs = [.int c, .int k, .int b] ∧ 0 < b ∧ Q (.int (draw c k b)) H
theorem ok_l_draw (T : Txt K mg t) : FnOk P w K mg base CX0 1 t.f_l_draw t.fd_l_draw ["cell", "k", "bound"] (sp_l_draw) := by
  refine T.F_l_draw.ok sc_l_draw (fun vs H Q E h => ?_) (fun cdv A outer s H vs Q E hr h => ?_)
  · obtain ⟨c, k, b, rfl, _⟩ := h
    rfl
  · obtain ⟨c, k, b, rfl, hb, q⟩ := h
    refine ⟨_, pss_cons (ps_set (i := 3) sc_l_draw.nd rfl (Or.inl rfl) (pe_op op_mod (pe_op op_mul (pe_op op_add (pe_op op_add (pe_op op_mod (pv 0) (pe_int)) (pe_op op_mul (pe_int) (pv 1))) (pe_int)) (pe_int)) (pe_int)))
 (pss_cons (ps_set (i := 3) sc_l_draw.nd rfl (Or.inl rfl) (pe_op op_mod (pe_op op_mul (pe_op op_add (pv 3) (pe_op op_mul (pe_int) (pe_op op_add (pv 1) (pe_int)))) (pe_int)) (pe_int)))
 (pss_one (ps_ret (pe_op op_mod (pe_op op_fdiv (pv 3) (pe_int)) (pv 2))))), ?_⟩
    repeat walk_at "sx"
    exact q
/-! #### l_word_by -/
theorem sc_l_word_by : FnScope ["cell", "doors", "size"] ["cell", "doors", "size"] (defScope s_l_word_by) := ⟨rfl, rfl, rfl, by decide +kernel, rfl, by decide +kernel, by decide +kernel⟩
theorem b_l_word_by (T : Txt K mg t) : Binds K t.fd_l_word_by ["cell", "doors", "size"] [] := T.F_l_word_by.binds fun _ _ _ _ _ _ us hl => match us, hl with | [_, _, _], _ => rfl
def sp_l_word_by : Sp := fun vs H Q _ => ∃ c d n : Int, vs = [.int c, .int d, .int n] ∧ 0 < d ∧ 0 ≤ n ∧ n ≤ 1000 ∧ ∀ (a : Addr), H a = none → Q (.ref a) (upd H a (.lst ((wordBy c d n).map V.int)))
theorem ok_l_word_by (T : Txt K mg t) : FnOk P w K mg base CX0 2 t.f_l_word_by t.fd_l_word_by ["cell", "doors", "size"] (sp_l_word_by) := by
  refine T.F_l_word_by.ok sc_l_word_by (fun vs H Q E h => ?_) (fun cdv A outer s H vs Q E hr h => ?_)
  · obtain ⟨c, d, n, rfl, _⟩ := h
    rfl
  · obtain ⟨c, d, n, rfl, hd, hr0, hr1, q⟩ := h
    refine ⟨_, pss_one (ps_ret (pe_comp (N := ["cell", "doors", "size"]) (sc0 := (defScope s_l_word_by)) (N' := ["k", "cell", "doors"]) (caps := [none, some 0, some 1]) (by exact ⟨rfl, by decide +kernel, by decide +kernel, by decide +kernel, rfl, rfl, by decide +kernel⟩) rfl (pi_range1 rfl T.m_range (pa_cons (pv 2) (pa_nil))) (fun _ _ _ _ _ _ => pg_name (i := 0) (show List.Nodup (["k", "cell", "doors"] : List Str) from by decide +kernel) rfl (Or.inl rfl)) (fun _ _ _ _ _ _ => pe_call (ok_l_draw T) (hr.mono (by decide)) rfl T.mg_l_draw T.F_l_draw.kp (b_l_draw T) .nil pass0 (pa_cons (pv 1) (pa_cons (pv 0) (pa_cons (pv 2) (pa_nil))))))), ?_⟩
    repeat walk_at "sx"
    refine ⟨_, rfl, by omega, by omega, ?_⟩
    refine comp_range (fun acc j ys H2 => ys = (List.range j).map (fun (k : Nat) => V.int (draw c (k : Int) d)) ∧ H2 = upd H acc (.lst ys)) (fun acc hacc => ⟨rfl, rfl⟩) (fun acc j ys H2 hacc hj p => ?_) (fun acc ys H2 hacc p => ?_)
    · obtain ⟨rfl, rfl⟩ := p
      repeat walk_at "sx"
      refine ⟨Wk.set rfl, ?_⟩
      repeat walk_at "sx"
      refine ⟨_, _, _, rfl, hd, upd_same, small1000 (by simp; omega), ?_, ?_⟩
      · rw [map_range_snoc]; simp only [Int.zero_add]
      · rw [upd_upd]
    · obtain ⟨rfl, rfl⟩ := p
      have := q acc hacc
      unfold wordBy at this
      rw [List.map_map] at this
      exact this
/-! #### l_whole -/
theorem sc_l_whole : FnScope ["found"] ["found"] (defScope s_l_whole) := ⟨rfl, rfl, rfl, by decide +kernel, rfl, by decide +kernel, by decide +kernel⟩
theorem b_l_whole (T : Txt K mg t) : Binds K t.fd_l_whole ["found"] [] := T.F_l_whole.binds fun _ _ _ _ _ _ us hl => match us, hl with | [_], _ => rfl
def sp_l_whole : Sp := fun vs H Q _ => ∃ i : Int, vs = [.int i] ∧ Q (.bl true) H
theorem ok_l_whole (T : Txt K mg t) : FnOk P w K mg base CX0 1 t.f_l_whole t.fd_l_whole ["found"] (sp_l_whole) := by
  refine T.F_l_whole.ok sc_l_whole (fun vs H Q E h => ?_) (fun cdv A outer s H vs Q E hr h => ?_)
  · obtain ⟨i, rfl, _⟩ := h
    rfl
  · obtain ⟨i, rfl, q⟩ := h
    refine ⟨_, pss_one (ps_ret (pe_and (pe_callB (call_isinstK K) rfl T.m_isinstance boot_isinstance (pa_cons (pv 0) (pa_cons (pe_bltn (v := .ty "int") rfl T.m_int boot_int rfl) (pa_nil)))) (pe_one (pe_not (pe_callB (call_isinstK K) rfl T.m_isinstance boot_isinstance (pa_cons (pv 0) (pa_cons (pe_bltn (v := .ty "bool") rfl T.m_bool boot_bool rfl) (pa_nil)))))))), ?_⟩
    repeat walk_at "sx"
    refine ⟨_, _, _, _, true, rfl, .int i, rfl, rfl, ?_⟩
    repeat walk_at "sx"
    refine r_iteP rfl ?_
    repeat walk_at "sx"
    refine ⟨_, _, _, _, false, rfl, .int i, rfl, ki_ib K, ?_⟩
    repeat walk_at "sx"
    exact q
/-! #### l_is_word -/
theorem sc_l_is_word : FnScope ["found", "doors", "part"] ["found", "doors"] (defScope s_l_is_word) := ⟨rfl, rfl, rfl, by decide +kernel, rfl, by decide +kernel, by decide +kernel⟩
theorem b_l_is_word (T : Txt K mg t) : Binds K t.fd_l_is_word ["found", "doors"] [] := T.F_l_is_word.binds fun _ _ _ _ _ _ us hl => match us, hl with | [_, _], _ => rfl
def sp_l_is_word (K : PySem.W.Frag) : Sp := fun vs H Q _ => ∃ (a : Addr) (ns : List Int) (d : Int), vs = [.ref a, .int d] ∧ H a = some (.lst (ns.map V.int)) ∧ WordOk d ns ∧ Q (.bl true) H
theorem ok_l_is_word (T : Txt K mg t) : FnOk P w K mg base CX0 2 t.f_l_is_word t.fd_l_is_word ["found", "doors"] (sp_l_is_word K) := by
  refine T.F_l_is_word.ok sc_l_is_word (fun vs H Q E h => ?_) (fun cdv A outer s H vs Q E hr h => ?_)
  · obtain ⟨a, ns, d, rfl, _⟩ := h
    rfl
  · obtain ⟨a, ns, d, rfl, ha, ok, q⟩ := h
    refine ⟨_, pss_cons (ps_if (pt_not (pt_val (pe_callB (call_isinstK K) rfl T.m_isinstance boot_isinstance (pa_cons (pv 0) (pa_cons (pe_bltn (v := .ty "list") rfl T.m_list boot_list rfl) (pa_nil))))))
 (pss_one (ps_ret (pe_bl)))
 (pss_nil))
 (pss_cons (ps_for PassesOwn.never rfl (pi_listK K (pv 0)) (pg_name (i := 2) sc_l_is_word.nd rfl (Or.inl rfl))
 (pss_one (ps_if (PW.pt (pw_or (pt_not (pt_val (pe_call (ok_l_whole T) (hr.mono (by decide)) rfl T.mg_l_whole T.F_l_whole.kp (b_l_whole T) .nil pass0 (pa_cons (pv 2) (pa_nil))))) (pw_or1 (pt_not (pt_chain op_le op_lt (pe_int) (pv 2) (pv 1))))))
 (pss_one (ps_ret (pe_bl)))
 (pss_nil))))
 (pss_one (ps_ret (pe_bl)))), ?_⟩
    repeat walk_at "sx"
    refine ⟨_, _, _, _, true, rfl, .lst ha, rfl, rfl, ?_⟩
    repeat walk_at "sx"
    refine r_iteN rfl ?_
    repeat walk_at "sx"
    refine ⟨a, rfl, ⟨_, SqL.of ha⟩, ?_⟩
    refine for_list (xs := ns.map V.int) (fun i σ H' => H' = H ∧ ∃ kv, σ = [some (.ref a), some (.int d), kv]) ⟨rfl, none, rfl⟩ (fun i σ H' _ p => by rw [p.1]; exact SqL.of ha) (fun i x σ H' hx p => ?_) (fun σ H' p => ?_)
    · obtain ⟨rfl, kv, rfl⟩ := p
      have hx0 := int_map_inv hx
      clear hx
      obtain ⟨x, rfl, hx⟩ := hx0
      obtain ⟨x0, x1⟩ := ok x (List.mem_of_getElem? hx)
      repeat walk_at "sx"
      refine ⟨x, rfl, ?_⟩
      repeat walk_at "sx"
      refine r_iteN rfl ?_
      repeat walk_at "sx"
      refine r_iteP (decide_eq_true x0) ?_
      repeat walk_at "sx"
      refine r_iteN (by simp [x1]) ?_
      repeat walk_at "sx"
      exact ⟨rfl, _, rfl⟩
    · obtain ⟨rfl, kv, rfl⟩ := p
      repeat walk_at "sx"
      exact q
/-! #### l_stands_under -/
theorem sc_l_stands_under : FnScope ["e"] ["e"] (defScope s_l_stands_under) := ⟨rfl, rfl, rfl, by decide +kernel, rfl, by decide +kernel, by decide +kernel⟩
theorem b_l_stands_under (T : Txt K mg t) : Binds K t.fd_l_stands_under ["e"] [] := T.F_l_stands_under.binds fun _ _ _ _ _ _ us hl => match us, hl with | [_], _ => rfl
def sp_l_stands_under (K : PySem.W.Frag) (CH : Addr) : Sp := fun vs H Q _ => ∃ (ea C : Addr) (x : Str), vs = [.ref ea] ∧ H ea = some (.ext (ExcAt ea C)) ∧ ExcK K x C ∧ PySem.W.kitOne K (.ref C) (.ref CH) = some true ∧ PySem.W.kitOne K (.ref C) (.type "ValueError") = some true ∧ Q (.bl true) H
theorem ok_l_stands_under (T : Txt K mg t) : FnOkH P w K mg base CX0 1 t.f_l_stands_under t.fd_l_stands_under ["e"] (sp_l_stands_under K t.C_HouseError) := by
  refine T.F_l_stands_under.okH sc_l_stands_under (fun vs H Q E h => ?_) (fun cdv A outer s H vs Q E hr h => ?_)
  · obtain ⟨ea, C, x, rfl, _⟩ := h
    rfl
  · obtain ⟨ea, C, x, rfl, he, O, k1, k2, q⟩ := h
    refine ⟨_, pss_one (ps_ret (pe_and (pe_callB (call_isinstX K) rfl T.m_isinstance boot_isinstance (pa_cons (pv 0) (pa_cons (pe_glob (v := .ref _) rfl T.mg_HouseError rfl) (pa_nil)))) (pe_one (pe_callB (call_isinstX K) rfl T.m_isinstance boot_isinstance (pa_cons (pv 0) (pa_cons (pe_bltn (v := .ty "ValueError") (u := .type "ValueError") rfl T.m_ValueError (by decide +kernel) rfl) (pa_nil))))))), ?_⟩
    repeat walk_at "sx"
    refine ⟨ea, C, x, _, _, true, rfl, he, O, rfl, k1, ?_⟩
    repeat walk_at "sx"
    refine r_iteP rfl ?_
    repeat walk_at "sx"
    exact ⟨ea, C, x, _, _, true, rfl, he, O, rfl, k2, q⟩
/-! #### l_found -/
theorem sc_l_found : FnScope ["rows", "word", "row"] ["rows", "word"] (defScope s_l_found) := ⟨rfl, rfl, rfl, by decide +kernel, rfl, by decide +kernel, by decide +kernel⟩
theorem b_l_found (T : Txt K mg t) : Binds K t.fd_l_found ["rows", "word"] [] := T.F_l_found.binds fun _ _ _ _ _ _ us hl => match us, hl with | [_, _], _ => rfl
/-- the law's own rows [word, what was told] -/
structure RowsAt (H : Hp) (l : Addr) (rs ws : List Addr) (kvs : List (List Int × Bool)) : Prop where
  top : H l = some (.lst (rs.map V.ref))
  lr : rs.length = kvs.length
  lw : ws.length = kvs.length
  row : ∀ (i : Nat) r w x b, rs[i]? = some r → ws[i]? = some w → kvs[i]? = some (x, b) → H r = some (.lst [.ref w, .bl b])
  word : ∀ (i : Nat) w x b, ws[i]? = some w → kvs[i]? = some (x, b) → H w = some (.lst (x.map V.int))
theorem RowsAt.same {H H' : Hp} {l : Addr} {rs ws : List Addr} {kvs : List (List Int × Bool)} (e : Same H H') (R : RowsAt H l rs ws kvs) : RowsAt H' l rs ws kvs :=
  ⟨e _ _ R.top, R.lr, R.lw, fun i r w x b h1 h2 h3 => e _ _ (R.row i r w x b h1 h2 h3), fun i w x b h1 h2 => e _ _ (R.word i w x b h1 h2)⟩
theorem saidO_cons (w : List Int) (b : Bool) (r : List (List Int × Bool)) (x : List Int) : saidO ((w, b) :: r) x = if w = x then some b else saidO r x := by
  by_cases h : w = x <;> simp [saidO, h]
theorem saidO_at : ∀ {kvs : List (List Int × Bool)} {i : Nat} {x : List Int} {b : Bool}, kvs[i]? = some (x, b) → (∀ j, j < i → ∀ y c, kvs[j]? = some (y, c) → y ≠ x) → saidO kvs x = some b
  | [], i, x, b, h, _ => by simp at h
  | (w, c) :: r, 0, x, b, h, _ => by
    simp at h
    rw [saidO_cons, if_pos h.1, h.2]
  | (w, c) :: r, i + 1, x, b, h, hn => by
    rw [saidO_cons, if_neg (hn 0 (Nat.succ_pos i) w c rfl)]
    exact saidO_at (by simpa using h) fun j hj y c' hy => hn (j + 1) (by omega) y c' (by simpa using hy)
theorem saidO_none : ∀ {kvs : List (List Int × Bool)} {x : List Int}, (∀ (j : Nat) y c, kvs[j]? = some (y, c) → y ≠ x) → saidO kvs x = none
  | [], x, _ => rfl
  | (w, c) :: r, x, hn => by
    rw [saidO_cons, if_neg (hn 0 w c rfl)]
    exact saidO_none fun j y c' hy => hn (j + 1) y c' (by simpa using hy)
def sp_l_found (K : PySem.W.Frag) : Sp := fun vs H Q _ => ∃ (l : Addr) (rs ws : List Addr) (kvs : List (List Int × Bool)) (b : Addr) (x : List Int), vs = [.ref l, .ref b] ∧ RowsAt H l rs ws kvs ∧ SqL K H b (x.map V.int) ∧ Q (saidV kvs x) H
theorem ok_l_found (T : Txt K mg t) : FnOk P w K mg base CX0 1 t.f_l_found t.fd_l_found ["rows", "word"] (sp_l_found K) := by
  refine T.F_l_found.ok sc_l_found (fun vs H Q E h => ?_) (fun cdv A outer s H vs Q E hr h => ?_)
  · obtain ⟨l, rs, ws, kvs, b, x, rfl, _⟩ := h
    rfl
  · obtain ⟨l, rs, ws, kvs, b, x, rfl, R, hS, q⟩ := h
    refine ⟨_, pss_cons (ps_for PassesOwn.never rfl (pi_listK K (pv 0)) (pg_name (i := 2) sc_l_found.nd rfl (Or.inl rfl))
 (pss_one (ps_if (pt_cmpR (op_eqIK K hr.units) (pe_ix (ix_listK K) (pv 2) (pe_int) (fun _ _ => rfl)) (pv 1) (nomark _))
 (pss_one (ps_ret (pe_ix (ix_listK K) (pv 2) (pe_int) (fun _ _ => rfl))))
 (pss_nil))))
 (pss_one (ps_ret (pe_non))), ?_⟩
    repeat walk_at "sx"
    refine ⟨l, rfl, ⟨_, SqL.of R.top⟩, ?_⟩
    refine for_list (xs := rs.map V.ref) (fun i σ H' => H' = H ∧ (∀ j, j < i → ∀ y c, kvs[j]? = some (y, c) → y ≠ x) ∧ ∃ k, σ = [some (.ref l), some (.ref b), k]) ⟨rfl, fun j hj => absurd hj (Nat.not_lt_zero j), none, rfl⟩ (fun i σ H' _ p => by rw [p.1]; exact SqL.of R.top) (fun i v σ H' hv p => ?_) (fun σ H' p => ?_)
    · obtain ⟨rfl, no, k, rfl⟩ := p
      obtain ⟨r, rfl, hr⟩ := ref_map_inv hv
      have hi : i < kvs.length := by rw [← R.lr]; exact (List.getElem?_eq_some_iff.mp hr).1
      obtain ⟨w, hw⟩ : ∃ w, ws[i]? = some w := ⟨_, List.getElem?_eq_getElem (by rw [R.lw]; exact hi)⟩
      have hkv : kvs[i]? = some (kvs[i].1, kvs[i].2) := List.getElem?_eq_getElem hi
      have hrow := R.row i r w _ _ hr hw hkv
      have hwd := R.word i w _ _ hw hkv
      repeat walk_at "sx"
      refine r_ixL (SqL.of hrow) (atI_nat (j := 0) rfl) ?_
      repeat walk_at "sx"
      refine ⟨w, b, kvs[i].1, x, rfl, rfl, SqL.of hwd, hS, ?_⟩
      repeat walk_at "sx"
      refine r_ite (fun hc => ?_) (fun hc => ?_)
      · have hc : kvs[i].1 = x := of_decide_eq_true hc
        repeat walk_at "sx"
        refine r_ixL (SqL.of hrow) (atI_nat (j := 1) rfl) ?_
        repeat walk_at "sx"
        have hs : saidV kvs x = .bl kvs[i].2 := by
          unfold saidV
          rw [saidO_at (i := i) (b := kvs[i].2) (by rw [← hc]; exact hkv) no]; rfl
        rw [hs] at q
        exact q
      · have hc : ¬ kvs[i].1 = x := of_decide_eq_false hc
        repeat walk_at "sx"
        refine ⟨rfl, fun j hj y c hy => ?_, _, rfl⟩
        rcases Nat.lt_or_ge j i with h | h
        · exact no j h y c hy
        · have : j = i := by omega
          subst this
          rw [hkv] at hy; cases hy; exact hc
    · obtain ⟨rfl, no, k, rfl⟩ := p
      repeat walk_at "sx"
      have hs : saidV kvs x = .non := by
        unfold saidV
        rw [saidO_none fun j y c hy => no j (by rw [List.length_map, R.lr]; exact (List.getElem?_eq_some_iff.mp hy).1) y c hy]; rfl
      rw [hs] at q
      exact q
/-! #### l_told -/
theorem sc_l_told : FnScope ["book", "word", "lit", "name", "under", "kept", "e"] ["book", "word", "lit"] (defScope s_l_told) := ⟨rfl, rfl, rfl, by decide +kernel, rfl, by decide +kernel, by decide +kernel⟩
theorem b_l_told (T : Txt K mg t) : Binds K t.fd_l_told ["book", "word", "lit"] [] := T.F_l_told.binds fun _ _ _ _ _ _ us hl => match us, hl with | [_, _, _], _ => rfl
def sp_l_told (K : PySem.W.Frag) (C : Addr) : Sp := fun vs H Q _ => ∃ (p : Addr) (d : Int) (nb : Addr) (kvs : List (List Int × Bool)) (b : Addr) (ws : List Int) (lit : Bool), vs = [.ref p, .ref b, .bl lit] ∧ BookAt C H p d nb kvs ∧ SqL K H b (ws.map V.int) ∧ SmallW ws ∧ kvs.length ≤ 900 ∧ WordOk d ws ∧
  (saidO kvs ws = none → ∀ H', BookAt C H' p d nb (kvs ++ [(ws, lit)]) → (∀ y o, y ≠ nb → H y = some o → H' y = some o) → Q (.str "noted") H') ∧
  (saidO kvs ws = some lit → ∀ H', Same H H' → Q (.str "noted") H') ∧ (saidO kvs ws = some (!lit) → ∀ H', Same H H' → Q (.str "refused") H')
theorem ok_l_told (T : Txt K mg t) : FnOk P w K mg base CX0 5 t.f_l_told t.fd_l_told ["book", "word", "lit"] (sp_l_told K t.C_Book) := by
  refine T.F_l_told.ok sc_l_told (fun vs H Q E h => ?_) (fun cdv A outer s H vs Q E hr h => ?_)
  · obtain ⟨p, d, nb, kvs, b, ws, lit, rfl, _⟩ := h
    rfl
  · obtain ⟨p, d, nb, kvs, b, ws, lit, rfl, bk, hS, sm, h900, hw, q1, q2, q3⟩ := h
    obtain ⟨dx, ho⟩ := bk.ob
    refine ⟨_, pss_cons (ps_set (i := 3) sc_l_told.nd rfl (Or.inl rfl) (pe_str))
 (pss_cons (ps_set (i := 4) sc_l_told.nd rfl (Or.inl rfl) (pe_bl))
 (pss_cons (ps_set (i := 5) sc_l_told.nd rfl (Or.inl rfl) (pe_non))
 (pss_cons (ps_tryA (i := 6) rfl rfl rfl T.mg_SaidOtherwise T.ex_SaidOtherwise sc_l_told.nd rfl rfl (fun _ _ _ _ xp => pss_setA (i := 5) sc_l_told.nd rfl (Or.inl rfl) (pe_methA (pv 0) T.cl_Book T.me_Book_note (ok_Book_note T) (hr.mono (by decide)) (b_Book_note T) .nil xp (pa_cons (pv 1) (pa_cons (pv 2) (pa_nil)))))
 (fun _ _ => pss_cons (ps_set (i := 3) sc_l_told.nd rfl (Or.inl rfl) (pe_str))
 (pss_one (ps_set (i := 4) sc_l_told.nd rfl (Or.inl rfl) (pe_and (pe_callH (ok_l_stands_under T) (roomH hr (by decide)) rfl T.mg_l_stands_under T.F_l_stands_under.kp (b_l_stands_under T) .nil pass0 (pa_cons (pv 6) (pa_nil))) (pe_one (pe_not (pe_callB (call_isinstXT K) rfl T.m_isinstance boot_isinstance (pa_cons (pv 6) (pa_cons (pe_tup (pa_cons (pe_glob (v := .ref _) rfl T.mg_BadWord rfl) (pa_cons (pe_glob (v := .ref _) rfl T.mg_NotWrong rfl) (pa_nil)))) (pa_nil)))))))))))
 (pss_cons (ps_if (PW.pt (pw_or (pt_not (pt_val (pv 4))) (pw_or1 (pt_cmpR op_notN (pv 5) (pe_non) (nomark _)))))
 (pss_one (ps_ret (pe_str)))
 (pss_nil))
 (pss_one (ps_ret (pv 3))))))), ?_⟩
    repeat walk_at "sx"
    refine ⟨p, dx, _, rfl, ho, bkf_no _ _ (by decide +kernel) (by decide +kernel), ?_⟩
    repeat walk_at "sx"
    refine ⟨p, d, nb, kvs, b, ws, lit, rfl, bk, hS, sm, h900, fun _ hn H' h1 h2 => ?_, fun _ hn H' h1 => ?_, fun _ hn H' h1 => ⟨rfl, fun ea hea => ?_⟩, fun z => absurd hw z⟩
    · repeat walk_at "sx"
      refine r_iteN rfl ?_
      repeat walk_at "sx"
      refine ⟨rfl, ?_⟩
      repeat walk_at "sx"
      refine r_iteN (by simp) ?_
      repeat walk_at "sx"
      exact q1 hn H' h1 h2
    · repeat walk_at "sx"
      refine r_iteN rfl ?_
      repeat walk_at "sx"
      refine ⟨rfl, ?_⟩
      repeat walk_at "sx"
      refine r_iteN (by simp) ?_
      repeat walk_at "sx"
      exact q2 hn H' h1
    · have hs0 : Same H (upd H' ea (.ext (ExcAt ea t.C_SaidOtherwise))) := h1.trans (Same.upd_new hea)
      have he1 : (upd H' ea (.ext (ExcAt ea t.C_SaidOtherwise))) ea = some (.ext (ExcAt ea t.C_SaidOtherwise)) := upd_same
      generalize upd H' ea (.ext (ExcAt ea t.C_SaidOtherwise)) = H1 at hs0 he1 ⊢
      repeat walk_at "sx"
      refine ⟨ea, _, _, rfl, he1, T.ex_SaidOtherwise, kit_sub (Ne.symm (ne_mro T.ms_HouseError T.mr_HouseError_SaidOtherwise)) T.cl_HouseError T.ty_HouseError T.mr_SaidOtherwise_HouseError, kit_val T.mv_SaidOtherwise, ?_⟩
      repeat walk_at "sx"
      refine r_iteP rfl ?_
      repeat walk_at "sx"
      refine ⟨by show 2 ≤ sizeLine; decide, fun tp htp => ?_⟩
      have hs2 : Same H1 (upd H1 tp (.tup [.ref t.C_BadWord, .ref t.C_NotWrong])) := Same.upd_new htp
      refine ⟨ea, _, _, tp, [t.C_BadWord, t.C_NotWrong], false, rfl, hs2 _ _ he1, T.ex_SaidOtherwise, upd_same, ?_, ?_⟩
      · have n1 := kit_sub (ne_mro T.ms_SaidOtherwise T.mr_SaidOtherwise_BadWord) T.cl_BadWord T.ty_BadWord T.mr_SaidOtherwise_BadWord
        have n2 := kit_sub (ne_mro T.ms_SaidOtherwise T.mr_SaidOtherwise_NotWrong) T.cl_NotWrong T.ty_NotWrong T.mr_SaidOtherwise_NotWrong
        show PySem.W.kitAny K _ [.ref _, .ref _] = _
        simp only [PySem.W.kitAny, n1, n2]
      generalize upd H1 tp (.tup [.ref t.C_BadWord, .ref t.C_NotWrong]) = H2 at hs2 ⊢
      repeat walk_at "sx"
      refine r_iteN rfl ?_
      repeat walk_at "sx"
      refine ⟨rfl, ?_⟩
      repeat walk_at "sx"
      refine r_iteN (by simp) ?_
      repeat walk_at "sx"
      exact q3 hn _ (hs0.trans hs2)
/-! #### l_said_is -/
theorem sc_l_said_is : FnScope ["book", "word", "due", "found"] ["book", "word", "due"] (defScope s_l_said_is) := ⟨rfl, rfl, rfl, by decide +kernel, rfl, by decide +kernel, by decide +kernel⟩
theorem b_l_said_is (T : Txt K mg t) : Binds K t.fd_l_said_is ["book", "word", "due"] [] := T.F_l_said_is.binds fun _ _ _ _ _ _ us hl => match us, hl with | [_, _, _], _ => rfl
def sp_l_said_is (K : PySem.W.Frag) (C : Addr) : Sp := fun vs H Q _ => ∃ (p : Addr) (d : Int) (nb : Addr) (kvs : List (List Int × Bool)) (b : Addr) (x : List Int), vs = [.ref p, .ref b, saidV kvs x] ∧ BookAt C H p d nb kvs ∧ SqL K H b (x.map V.int) ∧ SmallW x ∧ WordOk d x ∧ ∀ H', Same H H' → Q (.bl true) H'
theorem ok_l_said_is (T : Txt K mg t) : FnOk P w K mg base CX0 3 t.f_l_said_is t.fd_l_said_is ["book", "word", "due"] (sp_l_said_is K t.C_Book) := by
  refine T.F_l_said_is.ok sc_l_said_is (fun vs H Q E h => ?_) (fun cdv A outer s H vs Q E hr h => ?_)
  · obtain ⟨p, d, nb, kvs, b, x, rfl, _⟩ := h
    rfl
  · obtain ⟨p, d, nb, kvs, b, x, rfl, bk, hS, sm, hw, q⟩ := h
    obtain ⟨dx, ho⟩ := bk.ob
    refine ⟨_, pss_cons (ps_set (i := 3) sc_l_said_is.nd rfl (Or.inl rfl) (pe_meth (pv 0) T.cl_Book T.me_Book_said (ok_Book_said T) (hr.mono (by decide)) (b_Book_said T) .nil pass0X (pa_cons (pe_callTy (call_list_ofK K) rfl T.m_list boot_list (pa_cons (pv 1) (pa_nil))) (pa_nil))))
 (pss_cons (ps_if (pt_cmpR op_isN (pv 2) (pe_non) (nomark _))
 (pss_one (ps_ret (pe_cmpR op_isN (pv 3) (pe_non) (nomark _))))
 (pss_nil))
 (pss_one (ps_ret (pe_and (pe_callB (call_isinstK K) rfl T.m_isinstance boot_isinstance (pa_cons (pv 3) (pa_cons (pe_bltn (v := .ty "bool") rfl T.m_bool boot_bool rfl) (pa_nil)))) (pe_one (pe_cmpR op_eq (pv 3) (pv 2) (nomark _))))))), ?_⟩
    repeat walk_at "sx"
    refine ⟨p, dx, _, rfl, ho, bkf_no _ _ (by decide +kernel) (by decide +kernel), ?_⟩
    repeat walk_at "sx"
    refine ⟨b, _, rfl, .inl hS, fun cp hcp => ?_⟩
    have s1 : Same H (upd H cp (.lst (x.map V.int))) := Same.upd_new hcp
    have cpv : (upd H cp (.lst (x.map V.int))) cp = some (.lst (x.map V.int)) := upd_same
    generalize upd H cp (.lst (x.map V.int)) = H1 at s1 cpv ⊢
    repeat walk_at "sx"
    refine ⟨p, d, nb, kvs, cp, x, rfl, bk.same s1, SqL.of cpv, sm, fun _ H2 s2 => ?_, fun z => absurd hw z⟩
    repeat walk_at "sx"
    refine ⟨rfl, ?_⟩
    repeat walk_at "sx"
    cases hsaid : saidO kvs x with
    | none =>
      have hv : saidV kvs x = .non := by simp [saidV, hsaid]
      rw [hv]
      refine r_iteP (by simp) ?_
      repeat walk_at "sx"
      refine ⟨rfl, ?_⟩
      have := q H2 (s1.trans s2)
      simpa using this
    | some c =>
      have hv : saidV kvs x = .bl c := by simp [saidV, hsaid]
      rw [hv]
      refine r_iteN (by simp) ?_
      repeat walk_at "sx"
      refine ⟨_, _, _, _, true, rfl, .bl c, rfl, rfl, ?_⟩
      repeat walk_at "sx"
      refine r_iteP rfl ?_
      repeat walk_at "sx"
      refine r_eq rfl ?_
      have := q H2 (s1.trans s2)
      simpa using this
/-! #### l_all_is -/
theorem sc_l_all_is : FnScope ["book", "rows", "doors", "found", "k"] ["book", "rows", "doors"] (defScope s_l_all_is) := ⟨rfl, rfl, rfl, by decide +kernel, rfl, by decide +kernel, by decide +kernel⟩
theorem b_l_all_is (T : Txt K mg t) : Binds K t.fd_l_all_is ["book", "rows", "doors"] [] := T.F_l_all_is.binds fun _ _ _ _ _ _ us hl => match us, hl with | [_, _, _], _ => rfl
def sp_l_all_is (K : PySem.W.Frag) (C : Addr) : Sp := fun vs H Q _ => ∃ (p : Addr) (d : Int) (nb : Addr) (kvs : List (List Int × Bool)) (l : Addr) (rs ws : List Addr), vs = [.ref p, .ref l, .int d] ∧ BookAt C H p d nb kvs ∧ RowsAt H l rs ws kvs ∧ (∀ (i : Nat) x b, kvs[i]? = some (x, b) → WordOk d x ∧ x.length ≤ 900) ∧ kvs.length ≤ 900 ∧ ∀ H', Same H H' → Q (.bl true) H'
theorem ok_l_all_is (T : Txt K mg t) : FnOk P w K mg base CX0 4 t.f_l_all_is t.fd_l_all_is ["book", "rows", "doors"] (sp_l_all_is K t.C_Book) := by
  refine T.F_l_all_is.ok sc_l_all_is (fun vs H Q E h => ?_) (fun cdv A outer s H vs Q E hr h => ?_)
  · obtain ⟨p, d, nb, kvs, l, rs, ws, rfl, _⟩ := h
    rfl
  · obtain ⟨p, d, nb, kvs, l, rs, ws, rfl, bk, R, ok, h900, q⟩ := h
    obtain ⟨dx, ho⟩ := bk.ob
    refine ⟨_, pss_cons (ps_set (i := 3) sc_l_all_is.nd rfl (Or.inl rfl) (pe_meth0 (pv 0) T.cl_Book T.me_Book_all_said (ok_Book_all_said T) (hr.mono (by decide)) (b_Book_all_said T) .nil pass0))
 (pss_cons (ps_if (PW.pt (pw_or (pt_not (pt_val (pe_callB (call_isinstK K) rfl T.m_isinstance boot_isinstance (pa_cons (pv 3) (pa_cons (pe_bltn (v := .ty "list") rfl T.m_list boot_list rfl) (pa_nil)))))) (pw_or1 (pt_cmpR op_ne (pe_callB (call_len_seqK K) rfl T.m_len PySem.boot_len (pa_cons (pv 3) (pa_nil))) (pe_callB (call_len_seqK K) rfl T.m_len PySem.boot_len (pa_cons (pv 1) (pa_nil))) (nomark _)))))
 (pss_one (ps_ret (pe_bl)))
 (pss_nil))
 (pss_cons (ps_for PassesOwn.never rfl (pi_range1 rfl T.m_range (pa_cons (pe_callB (call_len_seqK K) rfl T.m_len PySem.boot_len (pa_cons (pv 1) (pa_nil))) (pa_nil))) (pg_name (i := 4) sc_l_all_is.nd rfl (Or.inl rfl))
 (pss_cons (ps_if (PW.pt (pw_or (pt_not (pt_val (pe_callB (call_isinstK K) rfl T.m_isinstance boot_isinstance (pa_cons (pe_ix (ix_listK K) (pv 3) (pv 4) (fun _ _ => rfl)) (pa_cons (pe_bltn (v := .ty "tuple") rfl T.m_tuple boot_tuple rfl) (pa_nil)))))) (pw_or (pt_cmpR op_ne (pe_callB (call_len_seqK K) rfl T.m_len PySem.boot_len (pa_cons (pe_ix (ix_listK K) (pv 3) (pv 4) (fun _ _ => rfl)) (pa_nil))) (pe_int) (nomark _)) (pw_or1 (pt_not (pt_val (pe_callB (call_isinstK K) rfl T.m_isinstance boot_isinstance (pa_cons (pe_ix (ix_tupK K) (pe_ix (ix_listK K) (pv 3) (pv 4) (fun _ _ => rfl)) (pe_int) (fun _ _ => rfl)) (pa_cons (pe_bltn (v := .ty "bool") rfl T.m_bool boot_bool rfl) (pa_nil))))))))))
 (pss_one (ps_ret (pe_bl)))
 (pss_nil))
 (pss_cons (ps_if (PW.pt (pw_or (pt_not (pt_val (pe_call (ok_l_is_word T) (hr.mono (by decide)) rfl T.mg_l_is_word T.F_l_is_word.kp (b_l_is_word T) .nil pass0 (pa_cons (pe_ix (ix_tupK K) (pe_ix (ix_listK K) (pv 3) (pv 4) (fun _ _ => rfl)) (pe_int) (fun _ _ => rfl)) (pa_cons (pv 2) (pa_nil)))))) (pw_or (pt_cmpR (op_neIK K hr.units) (pe_ix (ix_tupK K) (pe_ix (ix_listK K) (pv 3) (pv 4) (fun _ _ => rfl)) (pe_int) (fun _ _ => rfl)) (pe_ix (ix_listK K) (pe_ix (ix_listK K) (pv 1) (pv 4) (fun _ _ => rfl)) (pe_int) (fun _ _ => rfl)) (nomark _)) (pw_or1 (pt_cmpR op_ne (pe_ix (ix_tupK K) (pe_ix (ix_listK K) (pv 3) (pv 4) (fun _ _ => rfl)) (pe_int) (fun _ _ => rfl)) (pe_ix (ix_listK K) (pe_ix (ix_listK K) (pv 1) (pv 4) (fun _ _ => rfl)) (pe_int) (fun _ _ => rfl)) (nomark _))))))
 (pss_one (ps_ret (pe_bl)))
 (pss_nil))
 (pss_one (ps_expr (pe_bmK K PySem.F.plainAttrs_list PySem.F.slot_list_append PySem.F.type_list_append mt_append (pe_ix (ix_tupK K) (pe_ix (ix_listK K) (pv 3) (pv 4) (fun _ _ => rfl)) (pe_int) (fun _ _ => rfl)) (pa_cons (pe_int) (pa_nil))))))))
 (pss_cons (ps_expr (pe_bmK K PySem.F.plainAttrs_list PySem.F.slot_list_append PySem.F.type_list_append mt_append (pv 3) (pa_cons (pe_int) (pa_nil))))
 (pss_one (ps_ret (pe_bl)))))), ?_⟩
    repeat walk_at "sx"
    refine ⟨p, dx, _, rfl, ho, bkf_no _ _ (by decide +kernel) (by decide +kernel), ?_⟩
    refine ⟨p, d, nb, kvs, rfl, bk, h900, fun H1 fl ts as hlt hla S => ?_⟩
    have R1 := R.same S.same
    have hlr := R.lr
    have hlw := R.lw
    repeat walk_at "sx"
    refine ⟨_, _, _, _, true, rfl, .lst S.top, rfl, rfl, ?_⟩
    repeat walk_at "sx"
    refine r_iteN rfl ?_
    repeat walk_at "sx"
    refine ⟨fl, _, rfl, .inl (SqL.of S.top), ?_⟩
    repeat walk_at "sx"
    refine ⟨l, _, rfl, .inl (SqL.of R1.top), ?_⟩
    refine r_ne rfl ?_
    repeat walk_at "sx"
    refine r_iteN (by simp; omega) ?_
    repeat walk_at "sx"
    refine ⟨l, _, rfl, .inl (SqL.of R1.top), ?_⟩
    rw [List.length_map, hlr]
    repeat walk_at "sx"
    refine ⟨_, rfl, by omega, by omega, ?_⟩
    have hnd := List.nodup_cons.mp S.nd
    refine for_range (fun i σ H' => Same H H' ∧ H' fl = some (.lst (ts.map V.ref)) ∧ (∀ (j : Nat) t a w b, ts[j]? = some t → as[j]? = some a → kvs[j]? = some (w, b) → H' t = some (.tup [.ref a, .bl b])) ∧ (∀ (j : Nat) a w b, i ≤ j → as[j]? = some a → kvs[j]? = some (w, b) → H' a = some (.lst (w.map V.int))) ∧ ∃ k4, σ = [some (.ref p), some (.ref l), some (.int d), some (.ref fl), k4])
      ⟨S.same, S.top, S.tup, fun j a w b _ h1 h2 => S.row j a w b h1 h2, none, rfl⟩ (fun i σ H' hi pp => ?_) (fun σ H' pp => ?_)
    · obtain ⟨hs, hfl, htp, hrw, k4, rfl⟩ := pp
      have hi' : i < kvs.length := by omega
      obtain ⟨ti, hti⟩ : ∃ x, ts[i]? = some x := ⟨_, List.getElem?_eq_getElem (by omega)⟩
      obtain ⟨ai, hai⟩ : ∃ x, as[i]? = some x := ⟨_, List.getElem?_eq_getElem (by omega)⟩
      obtain ⟨ri, hri⟩ : ∃ x, rs[i]? = some x := ⟨_, List.getElem?_eq_getElem (by omega)⟩
      obtain ⟨wi, hwi⟩ : ∃ x, ws[i]? = some x := ⟨_, List.getElem?_eq_getElem (by omega)⟩
      obtain ⟨x, b, hkv⟩ : ∃ x b, kvs[i]? = some (x, b) := ⟨_, _, List.getElem?_eq_getElem hi'⟩
      obtain ⟨hok, hxl⟩ := ok i x b hkv
      have t1 := htp i ti ai x b hti hai hkv
      have a1 := hrw i ai x b (Nat.le_refl _) hai hkv
      have R' := R.same hs
      have r1 := R'.row i ri wi x b hri hwi hkv
      have w1 := R'.word i wi x b hwi hkv
      have mti : (ts.map V.ref)[i]? = some (.ref ti) := by rw [List.getElem?_map, hti]; rfl
      have mri : (rs.map V.ref)[i]? = some (.ref ri) := by rw [List.getElem?_map, hri]; rfl
      have e0 : (0 : Int) + (i : Int) = (i : Int) := by omega
      rw [e0]
      repeat walk_at "sx"
      refine r_ixL (SqL.of hfl) (atI_nat (j := i) mti) ?_
      repeat walk_at "sx"
      refine ⟨_, _, _, _, true, rfl, .tup t1, rfl, rfl, ?_⟩
      repeat walk_at "sx"
      refine r_iteN rfl ?_
      repeat walk_at "sx"
      refine r_ixL (SqL.of hfl) (atI_nat (j := i) mti) ?_
      repeat walk_at "sx"
      refine ⟨ti, _, rfl, .inr (SqT.of t1), ?_⟩
      repeat walk_at "sx"
      refine r_ne rfl ?_
      repeat walk_at "sx"
      refine r_iteN (by simp) ?_
      repeat walk_at "sx"
      refine r_ixL (SqL.of hfl) (atI_nat (j := i) mti) ?_
      repeat walk_at "sx"
      refine ⟨ti, _, 1, _, rfl, rfl, SqT.of t1, atI_nat (j := 1) rfl, ?_⟩
      repeat walk_at "sx"
      refine ⟨_, _, _, _, true, rfl, .bl b, rfl, rfl, ?_⟩
      repeat walk_at "sx"
      refine r_iteN rfl ?_
      repeat walk_at "sx"
      refine r_ixL (SqL.of hfl) (atI_nat (j := i) mti) ?_
      repeat walk_at "sx"
      refine ⟨ti, _, 0, _, rfl, rfl, SqT.of t1, atI_nat (j := 0) rfl, ?_⟩
      repeat walk_at "sx"
      refine ⟨ai, x, d, rfl, a1, hok, ?_⟩
      repeat walk_at "sx"
      refine r_iteN rfl ?_
      repeat walk_at "sx"
      refine r_ixL (SqL.of hfl) (atI_nat (j := i) mti) ?_
      repeat walk_at "sx"
      refine ⟨ti, _, 0, _, rfl, rfl, SqT.of t1, atI_nat (j := 0) rfl, ?_⟩
      repeat walk_at "sx"
      refine r_ixL (SqL.of R'.top) (atI_nat (j := i) mri) ?_
      repeat walk_at "sx"
      refine r_ixL (SqL.of r1) (atI_nat (j := 0) rfl) ?_
      refine ⟨ai, wi, x, x, rfl, rfl, SqL.of a1, SqL.of w1, ?_⟩
      repeat walk_at "sx"
      refine r_iteN (by simp) ?_
      repeat walk_at "sx"
      refine r_ixL (SqL.of hfl) (atI_nat (j := i) mti) ?_
      repeat walk_at "sx"
      refine ⟨ti, _, 1, _, rfl, rfl, SqT.of t1, atI_nat (j := 1) rfl, ?_⟩
      repeat walk_at "sx"
      refine r_ixL (SqL.of R'.top) (atI_nat (j := i) mri) ?_
      repeat walk_at "sx"
      refine r_ixL (SqL.of r1) (atI_nat (j := 1) rfl) ?_
      refine r_ne rfl ?_
      repeat walk_at "sx"
      refine r_iteN (by simp) ?_
      repeat walk_at "sx"
      refine r_ixL (SqL.of hfl) (atI_nat (j := i) mti) ?_
      repeat walk_at "sx"
      refine ⟨ti, _, 0, _, rfl, rfl, SqT.of t1, atI_nat (j := 0) rfl, ?_⟩
      refine ⟨.inl ⟨rfl, _, SqL.of a1⟩, ?_⟩
      repeat walk_at "sx"
      refine ⟨ai, _, _, rfl, rfl, a1, small1000 (by rw [List.length_map]; omega), ?_⟩
      have ham : ai ∈ fl :: as := List.mem_cons_of_mem _ (List.mem_of_getElem? hai)
      have hfa : fl ≠ ai := fun z => hnd.1 (z ▸ List.mem_of_getElem? hai)
      refine ⟨hs.upd_fresh (S.new ai ham), by rw [upd_ne hfa]; exact hfl, fun j t a w b' h1 h2 h3 => ?_, fun j a w b' hj h1 h2 => ?_, _, rfl⟩
      · have h0 := htp j t a w b' h1 h2 h3
        rw [upd_ne (ne_of h0 a1 (fun z => nomatch z))]; exact h0
      · have hne : a ≠ ai := fun z => by
          subst z
          obtain ⟨h3, e3⟩ := List.getElem?_eq_some_iff.mp hai
          obtain ⟨h4, e4⟩ := List.getElem?_eq_some_iff.mp h1
          have := (List.getElem_inj hnd.2).mp (e3.trans e4.symm)
          omega
        rw [upd_ne hne]; exact hrw j a w b' (by omega) h1 h2
    · obtain ⟨hs, hfl, htp, hrw, k4, rfl⟩ := pp
      repeat walk_at "sx"
      refine ⟨.inl ⟨rfl, _, SqL.of hfl⟩, ?_⟩
      repeat walk_at "sx"
      refine ⟨fl, _, _, rfl, rfl, hfl, small1000 (by rw [List.length_map]; omega), ?_⟩
      repeat walk_at "sx"
      exact q _ (hs.upd_fresh (S.new fl List.mem_cons_self))
/-! #### law -/
theorem sc_law : FnScope ["script", "counts", "books", "rows", "cell", "which", "size", "word", "lit", "due", "handed", "told", "other", "short"] ["script"] (defScope s_law) := ⟨rfl, rfl, rfl, by decide +kernel, rfl, by decide +kernel, by decide +kernel⟩
def sp_law (K : PySem.W.Frag) : Sp := fun vs H Q _ => ∃ (a : Addr) (ns : List Int), vs = [.ref a] ∧ SqL K H a (ns.map V.int) ∧ ns.length ≤ 63 ∧ ∀ H', Q (.bl true) H'
def upF {α : Type} (f : Nat → α) (w : Nat) (a : α) : Nat → α := fun v => if v = w then a else f v
theorem upF_same {α : Type} (f : Nat → α) (w : Nat) (a : α) : upF f w a w = a := if_pos rfl
theorem upF_ne {α : Type} (f : Nat → α) {v w : Nat} (h : v ≠ w) (a : α) : upF f w a v = f v := if_neg h
structure F4 (C : Addr) (Hs : Hp) (ca ba ra : Addr) (P NB L : Nat → Addr) (D : Nat → Int) : Prop where
  nl : L 0 ≠ L 1
  nn : NB 0 ≠ NB 1
  out : ∀ v, v < 2 → L v ≠ ca ∧ L v ≠ ba ∧ L v ≠ ra
  hl : ∀ v, v < 2 → ∃ xs, Hs (L v) = some (.lst xs)
  hn : ∀ v, v < 2 → ∃ kvs, Hs (NB v) = some (.dT kvs)
  hp : ∀ v, v < 2 → ∃ dx fs, Hs (P v) = some (.ins C dx fs)
  hc : ∃ xs, Hs ca = some (.lst xs)
  hb : ∃ xs, Hs ba = some (.lst xs)
  hr : ∃ xs, Hs ra = some (.lst xs)
  d1 : ∀ v, v < 2 → 1 ≤ D v
  d6 : ∀ v, v < 2 → D v ≤ 6
structure S4 (C : Addr) (Hs H : Hp) (ca ba ra : Addr) (P NB L : Nat → Addr) (D : Nat → Int) (RS WS : Nat → List Addr) (KV : Nat → List (List Int × Bool)) (n : Nat) : Prop where
  cs : H ca = some (.lst [.int (D 0), .int (D 1)])
  bs : H ba = some (.lst [.ref (P 0), .ref (P 1)])
  rws : H ra = some (.lst [.ref (L 0), .ref (L 1)])
  book : ∀ v, v < 2 → BookAt C H (P v) (D v) (NB v) (KV v)
  rows : ∀ v, v < 2 → RowsAt H (L v) (RS v) (WS v) (KV v)
  ok : ∀ v, v < 2 → ∀ (i : Nat) x b, (KV v)[i]? = some (x, b) → WordOk (D v) x ∧ x.length ≤ 900
  len : ∀ v, v < 2 → (KV v).length ≤ n
  new : ∀ v, v < 2 → ∀ x ∈ RS v ++ WS v, Hs x = none
theorem S4.same {C : Addr} {Hs H H' : Hp} {ca ba ra : Addr} {P NB L : Nat → Addr} {D : Nat → Int} {RS WS : Nat → List Addr} {KV : Nat → List (List Int × Bool)} {n : Nat} (S : S4 C Hs H ca ba ra P NB L D RS WS KV n) (e : Same H H') : S4 C Hs H' ca ba ra P NB L D RS WS KV n :=
  ⟨e _ _ S.cs, e _ _ S.bs, e _ _ S.rws, fun v hv => (S.book v hv).same e, fun v hv => (S.rows v hv).same e, S.ok, S.len, S.new⟩
theorem S4.more {C : Addr} {Hs H : Hp} {ca ba ra : Addr} {P NB L : Nat → Addr} {D : Nat → Int} {RS WS : Nat → List Addr} {KV : Nat → List (List Int × Bool)} {n m : Nat} (S : S4 C Hs H ca ba ra P NB L D RS WS KV n) (h : n ≤ m) : S4 C Hs H ca ba ra P NB L D RS WS KV m :=
  ⟨S.cs, S.bs, S.rws, S.book, S.rows, S.ok, fun v hv => Nat.le_trans (S.len v hv) h, S.new⟩
theorem S4.add {C : Addr} {Hs H H7 : Hp} {ca ba ra : Addr} {P NB L : Nat → Addr} {D : Nat → Int} {RS WS : Nat → List Addr} {KV : Nat → List (List Int × Bool)} {n : Nat} (S : S4 C Hs H ca ba ra P NB L D RS WS KV n) (F : F4 C Hs ca ba ra P NB L D) {w : Nat} (hw : w < 2) {x : List Int} {lit : Bool} {r2 wd : Addr}
    (k : ∀ y o, y ≠ NB w → y ≠ L w → H y = some o → H7 y = some o) (bk : BookAt C H7 (P w) (D w) (NB w) (KV w ++ [(x, lit)])) (tp : H7 (L w) = some (.lst ((RS w).map V.ref ++ [.ref r2]))) (hr : H7 r2 = some (.lst [.ref wd, .bl lit])) (hwd : H7 wd = some (.lst (x.map V.int))) (n1 : Hs r2 = none) (n2 : Hs wd = none) (okx : WordOk (D w) x ∧ x.length ≤ 900) :
    S4 C Hs H7 ca ba ra P NB L D (upF RS w (RS w ++ [r2])) (upF WS w (WS w ++ [wd])) (upF KV w (KV w ++ [(x, lit)])) (n + 1) := by
  obtain ⟨xl, hl⟩ := F.hl w hw
  obtain ⟨xn, hn⟩ := F.hn w hw
  have nlst : ∀ {y xs}, Hs y = some (.lst xs) → y ≠ NB w := fun e => ne_of e hn (fun z => nomatch z)
  have nins : ∀ {y dx fs}, Hs y = some (.ins C dx fs) → y ≠ NB w ∧ y ≠ L w := fun e => ⟨ne_of e hn (fun z => nomatch z), ne_of e hl (fun z => nomatch z)⟩
  have nfr : ∀ {y}, Hs y = none → y ≠ NB w ∧ y ≠ L w := fun e => ⟨fun z => (by rw [z, hn] at e; cases e), fun z => (by rw [z, hl] at e; cases e)⟩
  obtain ⟨o1, o2, o3⟩ := F.out w hw
  obtain ⟨_, hc⟩ := F.hc
  obtain ⟨_, hb⟩ := F.hb
  obtain ⟨_, hr'⟩ := F.hr
  refine ⟨k _ _ (nlst hc) (Ne.symm o1) S.cs, k _ _ (nlst hb) (Ne.symm o2) S.bs, k _ _ (nlst hr') (Ne.symm o3) S.rws, fun v hv => ?_, fun v hv => ?_, fun v hv i x' b' e => ?_, fun v hv => ?_, fun v hv y hy => ?_⟩
  · by_cases e : v = w
    · subst e; rw [upF_same]; exact bk
    · rw [upF_ne _ e]
      obtain ⟨dx0, fs0, hp⟩ := F.hp v hv
      obtain ⟨xn', hn'⟩ := F.hn v hv
      have B := S.book v hv
      obtain ⟨dx, ob⟩ := B.ob
      refine ⟨⟨dx, k _ _ (nins hp).1 (nins hp).2 ob⟩, k _ _ (fun z => ?_) (ne_of hn' hl (fun z => nomatch z)) B.noted, B.nd⟩
      have := F.nn
      have h1 : (v = 0 ∧ w = 1) ∨ (v = 1 ∧ w = 0) := by omega
      rcases h1 with ⟨rfl, rfl⟩ | ⟨rfl, rfl⟩
      · exact this z
      · exact this z.symm
  · by_cases e : v = w
    · subst e
      rw [upF_same, upF_same, upF_same]
      have R := S.rows v hv
      refine ⟨by rw [List.map_append]; exact tp, by simp [R.lr], by simp [R.lw], fun i r w' x' b' h1 h2 h3 => ?_, fun i w' x' b' h1 h2 => ?_⟩
      · rcases getElem?_snoc h3 with ⟨hl', h3⟩ | ⟨hl', h3⟩
        · rw [List.getElem?_append_left (by rw [R.lr]; exact hl')] at h1
          rw [List.getElem?_append_left (by rw [R.lw]; exact hl')] at h2
          have q := nfr (S.new v hv r (List.mem_append_left _ (List.mem_of_getElem? h1)))
          exact k _ _ q.1 q.2 (R.row i r w' x' b' h1 h2 h3)
        · cases h3
          rcases getElem?_snoc h1 with ⟨h, _⟩ | ⟨_, rfl⟩
          · rw [R.lr] at h; omega
          · rcases getElem?_snoc h2 with ⟨h, _⟩ | ⟨_, rfl⟩
            · rw [R.lw] at h; omega
            · exact hr
      · rcases getElem?_snoc h2 with ⟨hl', h2⟩ | ⟨hl', h2⟩
        · rw [List.getElem?_append_left (by rw [R.lw]; exact hl')] at h1
          have q := nfr (S.new v hv w' (List.mem_append_right _ (List.mem_of_getElem? h1)))
          exact k _ _ q.1 q.2 (R.word i w' x' b' h1 h2)
        · cases h2
          rcases getElem?_snoc h1 with ⟨h, _⟩ | ⟨_, rfl⟩
          · rw [R.lw] at h; omega
          · exact hwd
    · rw [upF_ne _ e, upF_ne _ e, upF_ne _ e]
      have R := S.rows v hv
      obtain ⟨xl', hl'⟩ := F.hl v hv
      have nlv : L v ≠ L w := fun z => by
        have := F.nl
        have h1 : (v = 0 ∧ w = 1) ∨ (v = 1 ∧ w = 0) := by omega
        rcases h1 with ⟨rfl, rfl⟩ | ⟨rfl, rfl⟩
        · exact this z
        · exact this z.symm
      refine ⟨k _ _ (nlst hl') nlv R.top, R.lr, R.lw, fun i r w' x' b' h1 h2 h3 => ?_, fun i w' x' b' h1 h2 => ?_⟩
      · have q := nfr (S.new v hv r (List.mem_append_left _ (List.mem_of_getElem? h1)))
        exact k _ _ q.1 q.2 (R.row i r w' x' b' h1 h2 h3)
      · have q := nfr (S.new v hv w' (List.mem_append_right _ (List.mem_of_getElem? h1)))
        exact k _ _ q.1 q.2 (R.word i w' x' b' h1 h2)
  · by_cases e' : v = w
    · subst e'; rw [upF_same] at e
      rcases getElem?_snoc e with ⟨_, h⟩ | ⟨_, h⟩
      · exact S.ok v hv i x' b' h
      · cases h; exact okx
    · rw [upF_ne _ e'] at e; exact S.ok v hv i x' b' e
  · by_cases e : v = w
    · subst e; rw [upF_same]; have := S.len v hv; simp; omega
    · rw [upF_ne _ e]; exact Nat.le_succ_of_le (S.len v hv)
  · by_cases e : v = w
    · subst e; rw [upF_same, upF_same] at hy
      have hn0 := S.new v hv y
      simp only [List.mem_append, List.mem_singleton] at hy hn0
      rcases hy with (h | rfl) | (h | rfl)
      · exact hn0 (.inl h)
      · exact n1
      · exact hn0 (.inr h)
      · exact n2
    · rw [upF_ne _ e, upF_ne _ e] at hy; exact S.new v hv y hy
theorem two_get {α : Type} (f : Nat → α) {w : Nat} (hw : w < 2) : ([f 0, f 1] : List α)[w]? = some (f w) := by
  have : w = 0 ∨ w = 1 := by omega
  rcases this with rfl | rfl <;> rfl
theorem ok_law (T : Txt K mg t) : FnOk P w K mg base CX0 6 t.f_law t.fd_law ["script"] (sp_law K) := by
  refine T.F_law.ok sc_law (fun vs H Q E h => ?_) (fun cdv A outer s H vs Q E hr h => ?_)
  · obtain ⟨a, ns, rfl, _⟩ := h
    rfl
  · obtain ⟨a, ns, rfl, hS, hlen, q⟩ := h
    refine ⟨_, pss_cons (ps_set (i := 1) sc_law.nd rfl (Or.inr rfl) (pe_lst (pa_cons (pe_op op_add (pe_int) (pe_op op_mod (pe_call (ok_l_cell_at T) (hr.mono (by decide)) rfl T.mg_l_cell_at T.F_l_cell_at.kp (b_l_cell_at T) .nil pass0 (pa_cons (pv 0) (pa_cons (pe_int) (pa_nil)))) (pe_int))) (pa_cons (pe_op op_add (pe_int) (pe_op op_mod (pe_call (ok_l_cell_at T) (hr.mono (by decide)) rfl T.mg_l_cell_at T.F_l_cell_at.kp (b_l_cell_at T) .nil pass0 (pa_cons (pv 0) (pa_cons (pe_int) (pa_nil)))) (pe_int))) (pa_nil)))))
 (pss_cons (ps_set (i := 2) sc_law.nd rfl (Or.inl rfl) (pe_lst (pa_cons (pe_make T.mk_Book (ok_Book_init T) (hr.mono (by decide)) rfl T.mg_Book (b_Book_init T) .nil pass0 (pa_cons (pe_ix (ix_listK K) (pv 1) (pe_int) (fun _ _ => rfl)) (pa_nil))) (pa_cons (pe_make T.mk_Book (ok_Book_init T) (hr.mono (by decide)) rfl T.mg_Book (b_Book_init T) .nil pass0 (pa_cons (pe_ix (ix_listK K) (pv 1) (pe_int) (fun _ _ => rfl)) (pa_nil))) (pa_nil)))))
 (pss_cons (ps_set (i := 3) sc_law.nd rfl (Or.inl rfl) (pe_lst (pa_cons (pe_lst (pa_nil)) (pa_cons (pe_lst (pa_nil)) (pa_nil)))))
 (pss_cons (ps_for PassesOwn.never rfl (pi_listK K (pe_slice (sl_listK K) (pv 0) (po_some (pe_int)) (po_some (pe_int)))) (pg_name (i := 4) sc_law.nd rfl (Or.inl rfl))
 (pss_cons (ps_set (i := 5) sc_law.nd rfl (Or.inl rfl) (pe_op op_mod (pe_op op_fdiv (pv 4) (pe_int)) (pe_int)))
 (pss_cons (ps_set (i := 6) sc_law.nd rfl (Or.inl rfl) (pe_op op_mod (pe_op op_fdiv (pv 4) (pe_int)) (pe_int)))
 (pss_cons (ps_join (ps_if (pt_cmpR op_eq (pe_op op_mod (pe_op op_fdiv (pv 4) (pe_int)) (pe_int)) (pe_int) (nomark _))
 (pss_one (ps_set (i := 6) sc_law.nd rfl (Or.inl rfl) (pe_int)))
 (pss_nil)))
 (pss_cons (ps_set (i := 7) sc_law.nd rfl (Or.inl rfl) (pe_call (ok_l_word_by T) (hr.mono (by decide)) rfl T.mg_l_word_by T.F_l_word_by.kp (b_l_word_by T) .nil pass0 (pa_cons (pe_op op_mod (pe_op op_fdiv (pv 4) (pe_int)) (pe_int)) (pa_cons (pe_ix (ix_listK K) (pv 1) (pv 5) (fun _ _ => rfl)) (pa_cons (pv 6) (pa_nil))))))
 (pss_cons (ps_set (i := 8) sc_law.nd rfl (Or.inl rfl) (pe_cmpR op_eq (pe_op op_mod (pv 4) (pe_int)) (pe_int) (nomark _)))
 (pss_cons (ps_set (i := 9) sc_law.nd rfl (Or.inl rfl) (pe_call (ok_l_found T) (hr.mono (by decide)) rfl T.mg_l_found T.F_l_found.kp (b_l_found T) .nil pass0 (pa_cons (pe_ix (ix_listK K) (pv 3) (pv 5) (fun _ _ => rfl)) (pa_cons (pv 7) (pa_nil)))))
 (pss_cons (ps_if (pt_not (pt_val (pe_call (ok_l_said_is T) (hr.mono (by decide)) rfl T.mg_l_said_is T.F_l_said_is.kp (b_l_said_is T) .nil pass0 (pa_cons (pe_ix (ix_listK K) (pv 2) (pv 5) (fun _ _ => rfl)) (pa_cons (pv 7) (pa_cons (pv 9) (pa_nil)))))))
 (pss_one (ps_ret (pe_bl)))
 (pss_nil))
 (pss_cons (ps_set (i := 10) sc_law.nd rfl (Or.inl rfl) (pe_callTy (call_list_ofK K) rfl T.m_list boot_list (pa_cons (pv 7) (pa_nil))))
 (pss_cons (ps_join (ps_set (i := 11) sc_law.nd rfl (Or.inl rfl) (pe_call (ok_l_told T) (hr.mono (by decide)) rfl T.mg_l_told T.F_l_told.kp (b_l_told T) .nil pass0 (pa_cons (pe_ix (ix_listK K) (pv 2) (pv 5) (fun _ _ => rfl)) (pa_cons (pv 10) (pa_cons (pv 8) (pa_nil)))))))
 (pss_cons (ps_if (pt_cmpR (op_neIK K hr.units) (pv 10) (pv 7) (nomark _))
 (pss_one (ps_ret (pe_bl)))
 (pss_nil))
 (pss_cons (ps_expr (pe_bmK K PySem.F.plainAttrs_list PySem.F.slot_list_append PySem.F.type_list_append mt_append (pv 10) (pa_cons (pe_int) (pa_nil))))
 (pss_cons (ps_join (ps_if (pt_cmpR op_isN (pv 9) (pe_non) (nomark _))
 (pss_one (ps_expr (pe_bmK K PySem.F.plainAttrs_list PySem.F.slot_list_append PySem.F.type_list_append mt_append (pe_ix (ix_listK K) (pv 3) (pv 5) (fun _ _ => rfl)) (pa_cons (pe_lst (pa_cons (pv 7) (pa_cons (pv 8) (pa_nil)))) (pa_nil)))))
 (pss_nil)))
 (pss_cons (ps_if (pt_cmpR op_ne (pv 11) (pe_ix (ix_listK K) (pe_lst (pa_cons (pe_str) (pa_cons (pe_str) (pa_nil)))) (pe_callTy call_int1 rfl T.m_int boot_int (pa_cons (pe_and (pe_cmpR op_notN (pv 9) (pe_non) (nomark _)) (pe_one (pe_cmpR op_ne (pv 9) (pv 8) (nomark _)))) (pa_nil))) (fun _ _ => rfl)) (nomark _))
 (pss_one (ps_ret (pe_bl)))
 (pss_nil))
 (pss_one (ps_for PassesOwn.never rfl (pi_range1 rfl T.m_range (pa_cons (pe_int) (pa_nil))) (pg_name (i := 12) sc_law.nd rfl (Or.inr rfl))
 (pss_cons (ps_setCI (i := 13) (N := ["script", "counts", "books", "rows", "cell", "which", "size", "word", "lit", "due", "handed", "told", "other", "short"]) (sc0 := (defScope s_law)) (N' := ["door", "counts", "other"]) (caps := [none, some 1, some 12]) (by exact ⟨rfl, by decide +kernel, by decide +kernel, by decide +kernel, rfl, rfl, by decide +kernel⟩) rfl sc_law.nd rfl (Or.inl rfl) (pi_listK K (pv 7)) (fun _ _ _ _ _ _ => pg_name (i := 0) (show List.Nodup (["door", "counts", "other"] : List Str) from by decide +kernel) rfl (Or.inl rfl)) (fun _ _ _ _ _ _ => pt_cmpR op_lt (pv 0) (pe_ix (ix_listK K) (pv 1) (pv 2) (fun _ _ => rfl)) (nomark _)) (fun _ _ _ _ _ _ => pv 0))
 (pss_one (ps_if (pt_not (pt_val (pe_call (ok_l_said_is T) (hr.mono (by decide)) rfl T.mg_l_said_is T.F_l_said_is.kp (b_l_said_is T) .nil pass0 (pa_cons (pe_ix (ix_listK K) (pv 2) (pv 12) (fun _ _ => rfl)) (pa_cons (pv 13) (pa_cons (pe_call (ok_l_found T) (hr.mono (by decide)) rfl T.mg_l_found T.F_l_found.kp (b_l_found T) .nil pass0 (pa_cons (pe_ix (ix_listK K) (pv 3) (pv 12) (fun _ _ => rfl)) (pa_cons (pv 13) (pa_nil)))) (pa_nil)))))))
 (pss_one (ps_ret (pe_bl)))
 (pss_nil))))))))))))))))))))
 (pss_cons (ps_for PassesOwn.never rfl (pi_range1 rfl T.m_range (pa_cons (pe_int) (pa_nil))) (pg_name (i := 5) sc_law.nd rfl (Or.inl rfl))
 (pss_one (ps_if (pt_not (pt_val (pe_call (ok_l_all_is T) (hr.mono (by decide)) rfl T.mg_l_all_is T.F_l_all_is.kp (b_l_all_is T) .nil pass0 (pa_cons (pe_ix (ix_listK K) (pv 2) (pv 5) (fun _ _ => rfl)) (pa_cons (pe_ix (ix_listK K) (pv 3) (pv 5) (fun _ _ => rfl)) (pa_cons (pe_ix (ix_listK K) (pv 1) (pv 5) (fun _ _ => rfl)) (pa_nil)))))))
 (pss_one (ps_ret (pe_bl)))
 (pss_nil))))
 (pss_one (ps_ret (pe_and (pe_call (ok_l_all_is T) (hr.mono (by decide)) rfl T.mg_l_all_is T.F_l_all_is.kp (b_l_all_is T) .nil pass0 (pa_cons (pe_ix (ix_listK K) (pv 2) (pe_int) (fun _ _ => rfl)) (pa_cons (pe_ix (ix_listK K) (pv 3) (pe_int) (fun _ _ => rfl)) (pa_cons (pe_ix (ix_listK K) (pv 1) (pe_int) (fun _ _ => rfl)) (pa_nil))))) (pe_and (pe_call (ok_l_whole T) (hr.mono (by decide)) rfl T.mg_l_whole T.F_l_whole.kp (b_l_whole T) .nil pass0 (pa_cons (pe_fldK K (pe_ix (ix_listK K) (pv 2) (pe_int) (fun _ _ => rfl)) rfl) (pa_nil))) (pe_one (pe_cmpR op_eq (pe_fldK K (pe_ix (ix_listK K) (pv 2) (pe_int) (fun _ _ => rfl)) rfl) (pe_ix (ix_listK K) (pv 1) (pe_int) (fun _ _ => rfl)) (nomark _))))))))))), ?_⟩
    repeat walk_at "sx"
    refine ⟨a, ns, 0, rfl, hS, by decide, ?_⟩
    repeat walk_at "sx"
    refine ⟨a, ns, 1, rfl, hS, by decide, ?_⟩
    repeat walk_at "sx"
    obtain ⟨d0, hd0⟩ : ∃ d, d = 1 + cellv ns 0 % 6 := ⟨_, rfl⟩
    obtain ⟨d1, hd1⟩ : ∃ d, d = 1 + cellv ns 1 % 6 := ⟨_, rfl⟩
    rw [← hd0, ← hd1]
    have hd01 : 1 ≤ d0 := by omega
    have hd06 : d0 ≤ 6 := by omega
    have hd11 : 1 ≤ d1 := by omega
    have hd16 : d1 ≤ 6 := by omega
    clear hd0 hd1
    refine ⟨by show 2 ≤ sizeLine; decide, fun ca hca => ?_⟩
    have s1 : Same H (upd H ca (.lst [.int d0, .int d1])) := Same.upd_new hca
    have ca1 : (upd H ca (.lst [.int d0, .int d1])) ca = some (.lst [.int d0, .int d1]) := upd_same
    generalize upd H ca (.lst [.int d0, .int d1]) = H1 at s1 ca1 ⊢
    repeat walk_at "sx"
    refine r_ixL (SqL.of ca1) (atI_nat (j := 0) rfl) ?_
    repeat walk_at "sx"
    intro p0 x0 e1 e2 e3
    have sm : Same H1 (upd (upd H1 x0 (.own p0)) p0 (.ins t.C_Book x0 [])) := (Same.upd_new e2).trans (Same.upd_new (by rw [upd_ne (Ne.symm e3)]; exact e1))
    refine ⟨p0, x0, d0, rfl, upd_same, hd01, hd06, fun H2 nb0 bk0 keep2 hnb0 => ⟨rfl, ?_⟩⟩
    have s2 : Same H1 H2 := fun b o e => keep2 b o (sm b o e) (ne_of_none e e1)
    have fnb0 : H1 nb0 = none := sm.free hnb0
    clear keep2 sm e2 e3 hnb0
    repeat walk_at "sx"
    refine r_ixL (SqL.of (s2 _ _ ca1)) (atI_nat (j := 1) rfl) ?_
    repeat walk_at "sx"
    intro p1 x1 e1' e2 e3
    have sm : Same H2 (upd (upd H2 x1 (.own p1)) p1 (.ins t.C_Book x1 [])) := (Same.upd_new e2).trans (Same.upd_new (by rw [upd_ne (Ne.symm e3)]; exact e1'))
    refine ⟨p1, x1, d1, rfl, upd_same, hd11, hd16, fun H3 nb1 bk1 keep3 hnb1 => ⟨rfl, ?_⟩⟩
    have s3 : Same H2 H3 := fun b o e => keep3 b o (sm b o e) (ne_of_none e e1')
    have fnb1 : H2 nb1 = none := sm.free hnb1
    clear keep3 sm e2 e3 hnb1
    have nnb : nb0 ≠ nb1 := fun z => by have := bk0.noted; rw [z, fnb1] at this; cases this
    have bk0' := bk0.same s3
    have ca3 := s3 _ _ (s2 _ _ ca1)
    repeat walk_at "sx"
    refine ⟨by show 2 ≤ sizeLine; decide, fun ba hba => ?_⟩
    have s4 : Same H3 (upd H3 ba (.lst [.ref p0, .ref p1])) := Same.upd_new hba
    have ba4 : (upd H3 ba (.lst [.ref p0, .ref p1])) ba = some (.lst [.ref p0, .ref p1]) := upd_same
    generalize upd H3 ba (.lst [.ref p0, .ref p1]) = H4 at s4 ba4 ⊢
    repeat walk_at "sx"
    refine ⟨Nat.zero_le _, fun l0 hl0 => ?_⟩
    have s5 : Same H4 (upd H4 l0 (.lst [])) := Same.upd_new hl0
    have l05 : (upd H4 l0 (.lst [])) l0 = some (.lst []) := upd_same
    generalize upd H4 l0 (.lst []) = H5 at s5 l05 ⊢
    repeat walk_at "sx"
    refine ⟨Nat.zero_le _, fun l1 hl1 => ?_⟩
    have s6 : Same H5 (upd H5 l1 (.lst [])) := Same.upd_new hl1
    have l16 : (upd H5 l1 (.lst [])) l1 = some (.lst []) := upd_same
    have nl : l0 ≠ l1 := fun z => by rw [z, hl1] at l05; cases l05
    generalize upd H5 l1 (.lst []) = H6 at s6 l16 ⊢
    repeat walk_at "sx"
    refine ⟨by show 2 ≤ sizeLine; decide, fun ra hra => ?_⟩
    have s7 : Same H6 (upd H6 ra (.lst [.ref l0, .ref l1])) := Same.upd_new hra
    have ra7 : (upd H6 ra (.lst [.ref l0, .ref l1])) ra = some (.lst [.ref l0, .ref l1]) := upd_same
    generalize upd H6 ra (.lst [.ref l0, .ref l1]) = Hs at s7 ra7 ⊢
    have s37 : Same H3 Hs := ((s4.trans s5).trans s6).trans s7
    have s07 : Same H Hs := (s1.trans (s2.trans s3)).trans s37
    have hSs := sqL_same s07 hS
    have ba7 := s7 _ _ (s6 _ _ (s5 _ _ ba4))
    have ca7 := s37 _ _ ca3
    have l07 := s7 _ _ (s6 _ _ l05)
    have l17 := s7 _ _ l16
    have n1 : l0 ≠ ca := fun z => by rw [z, s4 _ _ ca3] at hl0; cases hl0
    have n2 : l0 ≠ ba := fun z => by rw [z, ba4] at hl0; cases hl0
    have n3 : l0 ≠ ra := fun z => by rw [← z, s6 _ _ l05] at hra; cases hra
    have n4 : l1 ≠ ca := fun z => by rw [z, s5 _ _ (s4 _ _ ca3)] at hl1; cases hl1
    have n5 : l1 ≠ ba := fun z => by rw [z, s5 _ _ ba4] at hl1; cases hl1
    have n6 : l1 ≠ ra := fun z => by rw [← z, l16] at hra; cases hra
    have bk07 := bk0'.same s37
    have bk17 := bk1.same s37
    obtain ⟨P, eP0, eP1⟩ : ∃ P : Nat → Addr, P 0 = p0 ∧ P 1 = p1 := ⟨fun v => if v = 0 then p0 else p1, rfl, rfl⟩
    obtain ⟨NB, eN0, eN1⟩ : ∃ P : Nat → Addr, P 0 = nb0 ∧ P 1 = nb1 := ⟨fun v => if v = 0 then nb0 else nb1, rfl, rfl⟩
    obtain ⟨L, eL0, eL1⟩ : ∃ P : Nat → Addr, P 0 = l0 ∧ P 1 = l1 := ⟨fun v => if v = 0 then l0 else l1, rfl, rfl⟩
    obtain ⟨D, eD0, eD1⟩ : ∃ P : Nat → Int, P 0 = d0 ∧ P 1 = d1 := ⟨fun v => if v = 0 then d0 else d1, rfl, rfl⟩
    subst eP0 eP1 eN0 eN1 eL0 eL1 eD0 eD1
    have ev : ∀ {X : Nat → Prop}, X 0 → X 1 → ∀ v, v < 2 → X v := fun {X} h0 h1 v hv => by
      have : v = 0 ∨ v = 1 := by omega
      rcases this with rfl | rfl
      · exact h0
      · exact h1
    have F : F4 t.C_Book Hs ca ba ra P NB L D := by
      obtain ⟨da, oa⟩ := bk07.ob
      obtain ⟨db, ob⟩ := bk17.ob
      exact ⟨nl, nnb, ev ⟨n1, n2, n3⟩ ⟨n4, n5, n6⟩, ev ⟨_, l07⟩ ⟨_, l17⟩, ev ⟨_, bk07.noted⟩ ⟨_, bk17.noted⟩, ev ⟨_, _, oa⟩ ⟨_, _, ob⟩, ⟨_, ca7⟩, ⟨_, ba7⟩, ⟨_, ra7⟩, ev hd01 hd11, ev hd06 hd16⟩
    have R0 : ∀ {l : Addr}, Hs l = some (.lst []) → RowsAt Hs l [] [] [] := fun e => ⟨e, rfl, rfl, fun i r w x b h => by simp at h, fun i w x b h => by simp at h⟩
    have S0 : S4 t.C_Book Hs Hs ca ba ra P NB L D (fun _ => []) (fun _ => []) (fun _ => []) 0 :=
      ⟨ca7, ba7, ra7, ev bk07 bk17, ev (R0 l07) (R0 l17), fun v _ i x b e => by simp at e, fun v _ => Nat.le_refl _, fun v _ x hx => by simp at hx⟩
    clear bk07 bk17 n1 n2 n3 n4 n5 n6 bk0 bk0' bk1 fnb0 fnb1 l05 l16 nl nnb l07 l17 hl0 hl1 hra ra7 ba7 ca7 ca3 ba4 hba e1 e1'
    repeat walk_at "sx"
    refine ⟨_, rfl, ?_⟩
    repeat walk_at "sx"
    refine ⟨_, rfl, ?_⟩
    refine ⟨a, _, rfl, hSs, fun sc hsc => ?_⟩
    obtain ⟨cs, hcs, hcl⟩ : ∃ cs : List Int, cutV (ns.map V.int) (some 2) (some 62) = cs.map V.int ∧ cs.length ≤ 63 := by
      unfold cutV
      rw [← List.map_drop, ← List.map_take]
      exact ⟨_, rfl, by simp; omega⟩
    rw [hcs]
    have sA : Same Hs (upd Hs sc (.lst (cs.map V.int))) := Same.upd_new hsc
    have scA : (upd Hs sc (.lst (cs.map V.int))) sc = some (.lst (cs.map V.int)) := upd_same
    have SA := S0.same sA
    generalize upd Hs sc (.lst (cs.map V.int)) = HA at sA scA SA ⊢
    repeat walk_at "sx"
    refine ⟨sc, rfl, ⟨_, SqL.of scA⟩, ?_⟩
    refine for_list (xs := cs.map V.int) (fun i σ H' => ∃ (RS WS : Nat → List Addr) (KV : Nat → List (List Int × Bool)) (k4 k5 k6 k7 k8 k9 k10 k11 k12 k13 : Option V), S4 t.C_Book Hs H' ca ba ra P NB L D RS WS KV i ∧ H' sc = some (.lst (cs.map V.int)) ∧ (∀ y, H' y = none → Hs y = none) ∧
        σ = [some (.ref a), some (.ref ca), some (.ref ba), some (.ref ra), k4, k5, k6, k7, k8, k9, k10, k11, k12, k13])
      ⟨_, _, _, none, none, none, none, none, none, none, none, none, none, SA, scA, fun y e => sA.free e, rfl⟩ (fun i σ H' _ p => by obtain ⟨_, _, _, _, _, _, _, _, _, _, _, _, _, _, h, _⟩ := p; exact SqL.of h) (fun i v σ HB hv p => ?_) (fun σ HB p => ?_)
    · obtain ⟨RS, WS, KV, k4, k5, k6, k7, k8, k9, k10, k11, k12, k13, SB, scB, frB, rfl⟩ := p
      have hv0 := int_map_inv hv
      clear hv
      obtain ⟨c, rfl, hci⟩ := hv0
      have hi : i < 63 := by have := (List.getElem?_eq_some_iff.mp hci).1; omega
      repeat walk_at "sx"
      obtain ⟨w, hw, ew⟩ : ∃ w : Nat, w < 2 ∧ c / 2 % 2 = (w : Int) := ⟨(c / 2 % 2).toNat, by omega, by omega⟩
      rw [ew]
      refine r_join (fun σ' H' => HB = H' ∧ ∃ n : Int, 0 ≤ n ∧ n ≤ 400 ∧ σ' = [some (.ref a), some (.ref ca), some (.ref ba), some (.ref ra), some (.int c), some (.int (w : Int)), some (.int n), k7, k8, k9, k10, k11, k12, k13]) ?_ ?_
      · repeat walk_at "sx"
        refine r_eq rfl ?_
        repeat walk_at "sx"
        refine r_ite (fun hc => ?_) (fun hc => ?_)
        · repeat walk_at "sx"
          exact ⟨rfl, _, by omega, by omega, rfl⟩
        · repeat walk_at "sx"
          exact ⟨rfl, _, by omega, by omega, rfl⟩
      rintro σ' H' ⟨rfl, n, hn0, hn4, rfl⟩
      have hD1 := F.d1 w hw
      have hD6 := F.d6 w hw
      repeat walk_at "sx"
      refine r_ixL (SqL.of SB.cs) (atI_nat (j := w) (two_get (fun v => V.int (D v)) hw)) ?_
      repeat walk_at "sx"
      refine ⟨_, D w, n, rfl, by omega, by omega, by omega, fun wd hwd => ?_⟩
      have hok : WordOk (D w) (wordBy (c / 240 % 40) (D w) n) := wordBy_ok _ _ (by omega)
      have hxl : (wordBy (c / 240 % 40) (D w) n).length = n.toNat := wordBy_len _ _ _
      generalize wordBy (c / 240 % 40) (D w) n = x at hok hxl ⊢
      have hsmx : SmallW x := fun y hy => by have := hok y hy; omega
      have sC : Same HB (upd HB wd (.lst (x.map V.int))) := Same.upd_new hwd
      have wdC : (upd HB wd (.lst (x.map V.int))) wd = some (.lst (x.map V.int)) := upd_same
      have wdS : Hs wd = none := frB _ hwd
      generalize upd HB wd (.lst (x.map V.int)) = HC at sC wdC ⊢
      have SC := SB.same sC
      have scC := sC _ _ scB
      have frC : ∀ y, HC y = none → Hs y = none := fun y e => frB y (sC.free e)
      clear SB scB frB hwd sC
      repeat walk_at "sx"
      refine r_eq rfl ?_
      obtain ⟨lit, hlit⟩ : ∃ lit, lit = decide ((V.int (c % 2)) = V.int 1) := ⟨_, rfl⟩
      rw [← hlit]
      clear hlit
      repeat walk_at "sx"
      refine r_ixL (SqL.of SC.rws) (atI_nat (j := w) (two_get (fun v => V.ref (L v)) hw)) ?_
      repeat walk_at "sx"
      refine ⟨L w, RS w, WS w, KV w, wd, x, rfl, SC.rows w hw, SqL.of wdC, ?_⟩
      repeat walk_at "sx"
      refine r_ixL (SqL.of SC.bs) (atI_nat (j := w) (two_get (fun v => V.ref (P v)) hw)) ?_
      repeat walk_at "sx"
      refine ⟨P w, D w, NB w, KV w, wd, x, rfl, SC.book w hw, SqL.of wdC, hsmx, hok, fun HD sD => ?_⟩
      repeat walk_at "sx"
      refine r_iteN rfl ?_
      repeat walk_at "sx"
      refine ⟨wd, _, rfl, .inl (SqL.of (sD _ _ wdC)), fun cp hcp => ?_⟩
      have sE : Same HC (upd HD cp (.lst (x.map V.int))) := sD.trans (Same.upd_new hcp)
      have cpE : (upd HD cp (.lst (x.map V.int))) cp = some (.lst (x.map V.int)) := upd_same
      have cpC : HC cp = none := sD.free hcp
      generalize upd HD cp (.lst (x.map V.int)) = HE at sE cpE ⊢
      have SE := SC.same sE
      have scE := sE _ _ scC
      have wdE := sE _ _ wdC
      have frE : ∀ y, HE y = none → Hs y = none := fun y e => frC y (sE.free e)
      have cpS : Hs cp = none := frC _ cpC
      have ncw : cp ≠ wd := fun z => by rw [z, wdC] at cpC; cases cpC
      have ncs : cp ≠ sc := fun z => by rw [z, scC] at cpC; cases cpC
      clear scC sD frC hcp
      repeat walk_at "sx"
      -- told
      refine r_join (fun σ' H' => BookAt t.C_Book H' (P w) (D w) (NB w) (if saidO (KV w) x = none then KV w ++ [(x, lit)] else KV w) ∧ (∀ y o, y ≠ NB w → HE y = some o → H' y = some o) ∧ (saidO (KV w) x ≠ none → Same HE H') ∧
        σ' = [some (.ref a), some (.ref ca), some (.ref ba), some (.ref ra), some (.int c), some (.int (w : Int)), some (.int n), some (.ref wd), some (.bl lit), some (saidV (KV w) x), some (.ref cp), some (.str (if saidO (KV w) x = some (!lit) then "refused" else "noted")), k12, k13]) ?_ ?_
      · repeat walk_at "sx"
        refine r_ixL (SqL.of SE.bs) (atI_nat (j := w) (two_get (fun v => V.ref (P v)) hw)) ?_
        repeat walk_at "sx"
        have hlenw := SE.len w hw
        refine ⟨P w, D w, NB w, KV w, cp, x, lit, rfl, SE.book w hw, SqL.of cpE, hsmx, by omega, hok, fun hn H' h1 h2 => ?_, fun hn H' h1 => ?_, fun hn H' h1 => ?_⟩
        · repeat walk_at "sx"
          rw [hn]
          exact ⟨h1, h2, fun z => absurd rfl z, rfl⟩
        · repeat walk_at "sx"
          rw [hn]
          refine ⟨(SE.book w hw).same h1, fun y o _ e => h1 _ _ e, fun _ => h1, ?_⟩
          cases lit <;> rfl
        · repeat walk_at "sx"
          rw [hn]
          exact ⟨(SE.book w hw).same h1, fun y o _ e => h1 _ _ e, fun _ => h1, by rw [if_pos rfl]; rfl⟩
      rintro σ' HF ⟨bkF, kF, sF, rfl⟩
      obtain ⟨xn, hnbs⟩ := F.hn w hw
      obtain ⟨xl, hls⟩ := F.hl w hw
      have nfr : ∀ {y}, Hs y = none → y ≠ NB w ∧ y ≠ L w := fun e => ⟨fun z => (by rw [z, hnbs] at e; cases e), fun z => (by rw [z, hls] at e; cases e)⟩
      have cpF := kF _ _ (nfr cpS).1 cpE
      have wdF := kF _ _ (nfr wdS).1 wdE
      have scS : sc ≠ NB w ∧ sc ≠ L w := nfr hsc
      have scF := kF _ _ scS.1 scE
      have frF : ∀ y, HF y = none → Hs y = none := fun y e => by
        cases e' : HE y with
        | none => exact frE y e'
        | some o =>
          exfalso
          by_cases hy : y = NB w
          · rw [hy, bkF.noted] at e; cases e
          · rw [kF y o hy e'] at e; cases e
      repeat walk_at "sx"
      refine ⟨cp, wd, x, x, rfl, rfl, SqL.of cpF, SqL.of wdF, ?_⟩
      repeat walk_at "sx"
      refine r_iteN (by simp) ?_
      repeat walk_at "sx"
      refine ⟨.inl ⟨rfl, _, SqL.of cpF⟩, ?_⟩
      repeat walk_at "sx"
      refine ⟨cp, _, _, rfl, rfl, cpF, small1000 (by rw [List.length_map]; omega), ?_⟩
      have kG : ∀ y o, y ≠ cp → HF y = some o → (upd HF cp (.lst (x.map V.int ++ [.int 0]))) y = some o := fun y o hy e => by rw [upd_ne hy]; exact e
      have frG : ∀ y, (upd HF cp (.lst (x.map V.int ++ [.int 0]))) y = none → HF y = none := fun y e => by
        by_cases hy : y = cp
        · subst hy; rw [upd_same] at e; cases e
        · rw [upd_ne hy] at e; exact e
      generalize upd HF cp (.lst (x.map V.int ++ [.int 0])) = HG at kG frG ⊢
      have wdG := kG _ _ (Ne.symm ncw) wdF
      have scG := kG _ _ (Ne.symm ncs) scF
      have bkG : BookAt t.C_Book HG (P w) (D w) (NB w) (if saidO (KV w) x = none then KV w ++ [(x, lit)] else KV w) := by
        obtain ⟨dxF, obF⟩ := bkF.ob
        exact ⟨⟨dxF, kG _ _ (ne_of obF cpF (fun z => nomatch z)) obF⟩, kG _ _ (ne_of bkF.noted cpF (fun z => nomatch z)) bkF.noted, bkF.nd⟩
      have kEG : ∀ y o, y ≠ NB w → HC y = some o → HG y = some o := fun y o hy e => kG _ _ (ne_of_none e cpC) (kF _ _ hy (sE _ _ e))
      repeat walk_at "sx"
      -- the law's own row
      refine r_join (fun σ' H' => (∃ (RS' WS' : Nat → List Addr) (KV' : Nat → List (List Int × Bool)), S4 t.C_Book Hs H' ca ba ra P NB L D RS' WS' KV' (i + 1)) ∧ H' sc = some (.lst (cs.map V.int)) ∧ H' wd = some (.lst (x.map V.int)) ∧ (∀ y, H' y = none → Hs y = none) ∧
        σ' = [some (.ref a), some (.ref ca), some (.ref ba), some (.ref ra), some (.int c), some (.int (w : Int)), some (.int n), some (.ref wd), some (.bl lit), some (saidV (KV w) x), some (.ref cp), some (.str (if saidO (KV w) x = some (!lit) then "refused" else "noted")), k12, k13]) ?_ ?_
      · repeat walk_at "sx"
        refine ⟨rfl, ?_⟩
        repeat walk_at "sx"
        cases hsaid : saidO (KV w) x with
        | none =>
          rw [hsaid, if_pos rfl] at bkG
          have hv : saidV (KV w) x = .non := by simp [saidV, hsaid]
          rw [hv]
          refine r_iteP (by simp) ?_
          repeat walk_at "sx"
          obtain ⟨_, hrs⟩ := F.hr
          have raG : HG ra = some (.lst [.ref (L 0), .ref (L 1)]) := kEG _ _ (ne_of hrs hnbs (fun z => nomatch z)) SC.rws
          have nLN : L w ≠ NB w := ne_of hls hnbs (fun z => nomatch z)
          have lG : HG (L w) = some (.lst ((RS w).map V.ref)) := kEG _ _ nLN (SC.rows w hw).top
          refine r_ixL (SqL.of raG) (atI_nat (j := w) (two_get (fun v => V.ref (L v)) hw)) ?_
          refine ⟨.inl ⟨rfl, _, SqL.of lG⟩, ?_⟩
          repeat walk_at "sx"
          refine ⟨by show 2 ≤ sizeLine; decide, fun r2 hr2 => ?_⟩
          have sH : Same HG (upd HG r2 (.lst [.ref wd, .bl lit])) := Same.upd_new hr2
          have r2H : (upd HG r2 (.lst [.ref wd, .bl lit])) r2 = some (.lst [.ref wd, .bl lit]) := upd_same
          generalize upd HG r2 (.lst [.ref wd, .bl lit]) = HH at sH r2H ⊢
          have r2S : Hs r2 = none := frF _ (frG _ hr2)
          have hlr := (SC.rows w hw).lr
          have hlenw := SC.len w hw
          repeat walk_at "sx"
          refine ⟨L w, _, _, rfl, rfl, sH _ _ lG, small1000 (by rw [List.length_map]; omega), ?_⟩
          have nwl : wd ≠ L w := (nfr wdS).2
          have nrl : r2 ≠ L w := (nfr r2S).2
          have SI : S4 t.C_Book Hs (upd HH (L w) (.lst ((RS w).map V.ref ++ [.ref r2]))) ca ba ra P NB L D (upF RS w (RS w ++ [r2])) (upF WS w (WS w ++ [wd])) (upF KV w (KV w ++ [(x, lit)])) (i + 1) := by
            refine SC.add F hw (fun y o h1 h2 e => by rw [upd_ne h2]; exact sH _ _ (kEG y o h1 e)) ?_ upd_same (by rw [upd_ne nrl]; exact r2H) (by rw [upd_ne nwl]; exact sH _ _ wdG) r2S wdS ⟨hok, by omega⟩
            obtain ⟨dxG, obG⟩ := bkG.ob
            exact ⟨⟨dxG, by rw [upd_ne (ne_of obG lG (fun z => nomatch z))]; exact sH _ _ obG⟩, by rw [upd_ne (Ne.symm nLN)]; exact sH _ _ bkG.noted, bkG.nd⟩
          refine ⟨⟨_, _, _, SI⟩, ?_, ?_, fun y e => ?_, ?_⟩
          · rw [upd_ne scS.2]; exact sH _ _ scG
          · rw [upd_ne nwl]; exact sH _ _ wdG
          · have : y ≠ L w := fun z => by rw [z, upd_same] at e; cases e
            rw [upd_ne this] at e
            exact frF _ (frG _ (sH.free e))
          · rfl
        | some c' =>
          have hv : saidV (KV w) x = .bl c' := by simp [saidV, hsaid]
          rw [hv]
          refine r_iteN (by simp) ?_
          repeat walk_at "sx"
          have sCG : Same HC HG := fun y o e => kG y o (ne_of_none e cpC) (sF (by rw [hsaid]; simp) _ _ (sE _ _ e))
          refine ⟨⟨RS, WS, KV, (SC.same sCG).more (Nat.le_succ _)⟩, scG, wdG, fun y e => frF _ (frG _ e), ?_⟩
          rfl
      rintro σ' HI ⟨⟨RS', WS', KV', SI⟩, scI, wdI, frI, rfl⟩
      clear bkG kEG kG frG wdG scG bkF kF sF cpF wdF scF frF SE scE wdE frE SC cpE
      repeat walk_at "sx"
      refine ⟨by show 2 ≤ sizeLine; decide, fun li hli => ?_⟩
      have sJ : Same HI (upd HI li (.lst [.str "noted", .str "refused"])) := Same.upd_new hli
      have liJ : (upd HI li (.lst [.str "noted", .str "refused"])) li = some (.lst [.str "noted", .str "refused"]) := upd_same
      generalize upd HI li (.lst [.str "noted", .str "refused"]) = HJ at sJ liJ ⊢
      have SJ := SI.same sJ
      have wdJ := sJ _ _ wdI
      have scJ := sJ _ _ scI
      have frJ : ∀ y, HJ y = none → Hs y = none := fun y e => frI y (sJ.free e)
      clear SI wdI scI frI
      repeat walk_at "sx"
      refine ⟨rfl, ?_⟩
      cases hsaid : saidO (KV w) x with
      | none =>
        have hv : saidV (KV w) x = .non := by simp [saidV, hsaid]
        rw [hv]
        repeat walk_at "sx"
        refine r_iteN (by simp) ?_
        repeat walk_at "sx"
        refine .inr ⟨_, rfl, ?_⟩
        repeat walk_at "sx"
        refine r_ixL (SqL.of liJ) (show _ = some (V.str "noted") from by first | (simp [atI, ixN]; done) | (simp [atI]; rfl)) ?_
        repeat walk_at "sx"
        refine r_ne rfl ?_
        repeat walk_at "sx"
        refine r_iteN (by simp) ?_
        repeat walk_at "sx"
        refine ⟨_, rfl, by decide, by decide, ?_⟩
        refine for_range (fun j σ H' => Same HJ H' ∧ ∃ k9 k12 k13, σ = [some (.ref a), some (.ref ca), some (.ref ba), some (.ref ra), some (.int c), some (.int (w : Int)), some (.int n), some (.ref wd), some (.bl lit), k9, some (.ref cp), some (.str (if saidO (KV w) x = some (!lit) then "refused" else "noted")), k12, k13]) ⟨Same.refl _, _, _, _, by rw [hsaid]⟩ (fun j σ H' hj pp => ?_) (fun σ H' pp => ?_)
        · obtain ⟨hs, k9', k12', k13', rfl⟩ := pp
          have S' := SJ.same hs
          have wd' := hs _ _ wdJ
          have hj2 : j < 2 := by omega
          have e0 : (0 : Int) + (j : Int) = (j : Int) := by omega
          rw [e0]
          repeat walk_at "sx"
          refine ⟨wd, rfl, ⟨_, SqL.of wd'⟩, ?_⟩
          refine compI_list (xs := x.map V.int) (fun acc m ys H2 => ys = ((x.take m).filter fun z => decide (z < D j)).map V.int ∧ H2 = upd H' acc (.lst ys)) (fun acc hacc => ⟨rfl, rfl⟩) (fun acc m ys H2 hacc _ p => by rw [p.2]; exact SqL.of (by rw [upd_ne (ne_of_none wd' hacc)]; exact wd')) (fun acc m v ys H2 hacc hv2 p => ?_) (fun acc ys H2 hacc p => ?_)
          · obtain ⟨rfl, rfl⟩ := p
            have hx0 := int_map_inv hv2
            clear hv2
            obtain ⟨z, rfl, hz⟩ := hx0
            have cs2 : (upd H' acc (.lst (((x.take m).filter fun z => decide (z < D j)).map V.int))) ca = some (.lst [.int (D 0), .int (D 1)]) := by rw [upd_ne (ne_of_none S'.cs hacc)]; exact S'.cs
            have hml : m < x.length := (List.getElem?_eq_some_iff.mp hz).1
            have hfl : ((x.take m).filter fun z => decide (z < D j)).length ≤ 400 := Nat.le_trans (List.length_filter_le _ _) (by rw [List.length_take]; omega)
            repeat walk_at "sx"
            refine ⟨Wk.set rfl, ?_⟩
            repeat walk_at "sx"
            refine r_ixL (SqL.of cs2) (atI_nat (j := j) (two_get (fun v => V.int (D v)) hj2)) ?_
            repeat walk_at "sx"
            refine r_ite (fun hc => ?_) (fun hc => ?_)
            · repeat walk_at "sx"
              refine ⟨upd_same, small1000 (by rw [List.length_map]; omega), ?_, ?_⟩
              · rw [List.take_add_one, hz]; simp at hc; simp [hc]
              · rw [upd_upd]
            · refine ⟨?_, rfl⟩
              rw [List.take_add_one, hz]; simp at hc; simp [hc]
          · obtain ⟨rfl, rfl⟩ := p
            rw [List.length_map, List.take_length]
            have s2 : Same H' (upd H' acc (.lst ((x.filter fun z => decide (z < D j)).map V.int))) := Same.upd_new hacc
            have acv : (upd H' acc (.lst ((x.filter fun z => decide (z < D j)).map V.int))) acc = some (.lst ((x.filter fun z => decide (z < D j)).map V.int)) := upd_same
            generalize upd H' acc (.lst ((x.filter fun z => decide (z < D j)).map V.int)) = H3 at s2 acv ⊢
            have S3 := S'.same s2
            have okf : WordOk (D j) (x.filter fun z => decide (z < D j)) := fun z hz => by
              obtain ⟨h1, h2⟩ := List.mem_filter.mp hz
              have := hok z h1
              exact ⟨this.1, of_decide_eq_true h2⟩
            have smf : SmallW (x.filter fun z => decide (z < D j)) := fun z hz => hsmx z (List.mem_filter.mp hz).1
            generalize (x.filter fun z => decide (z < D j)) = sh at acv okf smf ⊢
            repeat walk_at "sx"
            refine r_ixL (SqL.of S3.bs) (atI_nat (j := j) (two_get (fun v => V.ref (P v)) hj2)) ?_
            repeat walk_at "sx"
            refine r_ixL (SqL.of S3.rws) (atI_nat (j := j) (two_get (fun v => V.ref (L v)) hj2)) ?_
            repeat walk_at "sx"
            refine ⟨L j, RS' j, WS' j, KV' j, acc, sh, rfl, S3.rows j hj2, SqL.of acv, ?_⟩
            repeat walk_at "sx"
            refine ⟨P j, D j, NB j, KV' j, acc, sh, rfl, S3.book j hj2, SqL.of acv, smf, okf, fun H4 hs4 => ?_⟩
            repeat walk_at "sx"
            refine r_iteN rfl ?_
            repeat walk_at "sx"
            exact ⟨hs.trans (s2.trans hs4), _, _, _, rfl⟩
        · obtain ⟨hs, k9', k12', k13', rfl⟩ := pp
          exact ⟨RS', WS', KV', _, _, _, _, _, _, _, _, _, _, SJ.same hs, hs _ _ scJ, fun y e => frJ _ (hs.free e), rfl⟩
      | some c' =>
        have hv : saidV (KV w) x = .bl c' := by simp [saidV, hsaid]
        rw [hv]
        repeat walk_at "sx"
        refine r_iteP (by simp) ?_
        repeat walk_at "sx"
        refine r_ne rfl ?_
        repeat walk_at "sx"
        refine .inr ⟨_, rfl, ?_⟩
        repeat walk_at "sx"
        refine r_ixL (SqL.of liJ) (show _ = some (V.str (if some c' = some (!lit) then "refused" else "noted")) from by cases c' <;> cases lit <;> first | (simp [atI, ixN]; done) | (simp [atI]; rfl)) ?_
        repeat walk_at "sx"
        refine r_ne rfl ?_
        repeat walk_at "sx"
        refine r_iteN (by simp) ?_
        repeat walk_at "sx"
        refine ⟨_, rfl, by decide, by decide, ?_⟩
        refine for_range (fun j σ H' => Same HJ H' ∧ ∃ k9 k12 k13, σ = [some (.ref a), some (.ref ca), some (.ref ba), some (.ref ra), some (.int c), some (.int (w : Int)), some (.int n), some (.ref wd), some (.bl lit), k9, some (.ref cp), some (.str (if saidO (KV w) x = some (!lit) then "refused" else "noted")), k12, k13]) ⟨Same.refl _, _, _, _, by rw [hsaid]⟩ (fun j σ H' hj pp => ?_) (fun σ H' pp => ?_)
        · obtain ⟨hs, k9', k12', k13', rfl⟩ := pp
          have S' := SJ.same hs
          have wd' := hs _ _ wdJ
          have hj2 : j < 2 := by omega
          have e0 : (0 : Int) + (j : Int) = (j : Int) := by omega
          rw [e0]
          repeat walk_at "sx"
          refine ⟨wd, rfl, ⟨_, SqL.of wd'⟩, ?_⟩
          refine compI_list (xs := x.map V.int) (fun acc m ys H2 => ys = ((x.take m).filter fun z => decide (z < D j)).map V.int ∧ H2 = upd H' acc (.lst ys)) (fun acc hacc => ⟨rfl, rfl⟩) (fun acc m ys H2 hacc _ p => by rw [p.2]; exact SqL.of (by rw [upd_ne (ne_of_none wd' hacc)]; exact wd')) (fun acc m v ys H2 hacc hv2 p => ?_) (fun acc ys H2 hacc p => ?_)
          · obtain ⟨rfl, rfl⟩ := p
            have hx0 := int_map_inv hv2
            clear hv2
            obtain ⟨z, rfl, hz⟩ := hx0
            have cs2 : (upd H' acc (.lst (((x.take m).filter fun z => decide (z < D j)).map V.int))) ca = some (.lst [.int (D 0), .int (D 1)]) := by rw [upd_ne (ne_of_none S'.cs hacc)]; exact S'.cs
            have hml : m < x.length := (List.getElem?_eq_some_iff.mp hz).1
            have hfl : ((x.take m).filter fun z => decide (z < D j)).length ≤ 400 := Nat.le_trans (List.length_filter_le _ _) (by rw [List.length_take]; omega)
            repeat walk_at "sx"
            refine ⟨Wk.set rfl, ?_⟩
            repeat walk_at "sx"
            refine r_ixL (SqL.of cs2) (atI_nat (j := j) (two_get (fun v => V.int (D v)) hj2)) ?_
            repeat walk_at "sx"
            refine r_ite (fun hc => ?_) (fun hc => ?_)
            · repeat walk_at "sx"
              refine ⟨upd_same, small1000 (by rw [List.length_map]; omega), ?_, ?_⟩
              · rw [List.take_add_one, hz]; simp at hc; simp [hc]
              · rw [upd_upd]
            · refine ⟨?_, rfl⟩
              rw [List.take_add_one, hz]; simp at hc; simp [hc]
          · obtain ⟨rfl, rfl⟩ := p
            rw [List.length_map, List.take_length]
            have s2 : Same H' (upd H' acc (.lst ((x.filter fun z => decide (z < D j)).map V.int))) := Same.upd_new hacc
            have acv : (upd H' acc (.lst ((x.filter fun z => decide (z < D j)).map V.int))) acc = some (.lst ((x.filter fun z => decide (z < D j)).map V.int)) := upd_same
            generalize upd H' acc (.lst ((x.filter fun z => decide (z < D j)).map V.int)) = H3 at s2 acv ⊢
            have S3 := S'.same s2
            have okf : WordOk (D j) (x.filter fun z => decide (z < D j)) := fun z hz => by
              obtain ⟨h1, h2⟩ := List.mem_filter.mp hz
              have := hok z h1
              exact ⟨this.1, of_decide_eq_true h2⟩
            have smf : SmallW (x.filter fun z => decide (z < D j)) := fun z hz => hsmx z (List.mem_filter.mp hz).1
            generalize (x.filter fun z => decide (z < D j)) = sh at acv okf smf ⊢
            repeat walk_at "sx"
            refine r_ixL (SqL.of S3.bs) (atI_nat (j := j) (two_get (fun v => V.ref (P v)) hj2)) ?_
            repeat walk_at "sx"
            refine r_ixL (SqL.of S3.rws) (atI_nat (j := j) (two_get (fun v => V.ref (L v)) hj2)) ?_
            repeat walk_at "sx"
            refine ⟨L j, RS' j, WS' j, KV' j, acc, sh, rfl, S3.rows j hj2, SqL.of acv, ?_⟩
            repeat walk_at "sx"
            refine ⟨P j, D j, NB j, KV' j, acc, sh, rfl, S3.book j hj2, SqL.of acv, smf, okf, fun H4 hs4 => ?_⟩
            repeat walk_at "sx"
            refine r_iteN rfl ?_
            repeat walk_at "sx"
            exact ⟨hs.trans (s2.trans hs4), _, _, _, rfl⟩
        · obtain ⟨hs, k9', k12', k13', rfl⟩ := pp
          exact ⟨RS', WS', KV', _, _, _, _, _, _, _, _, _, _, SJ.same hs, hs _ _ scJ, fun y e => frJ _ (hs.free e), rfl⟩
    · obtain ⟨RS, WS, KV, k4, k5, k6, k7, k8, k9, k10, k11, k12, k13, SB, scB, frB, rfl⟩ := p
      repeat walk_at "sx"
      refine ⟨_, rfl, by decide, by decide, ?_⟩
      refine for_range (fun j σ H' => Same HB H' ∧ ∃ k4 k5 k6 k7 k8 k9 k10 k11 k12 k13, σ = [some (.ref a), some (.ref ca), some (.ref ba), some (.ref ra), k4, k5, k6, k7, k8, k9, k10, k11, k12, k13]) ⟨Same.refl _, _, _, _, _, _, _, _, _, _, _, rfl⟩ (fun j σ H' hj pp => ?_) (fun σ H' pp => ?_)
      · obtain ⟨hs, k4, k5, k6, k7, k8, k9, k10, k11, k12, k13, rfl⟩ := pp
        have S' := SB.same hs
        have hj2 : j < 2 := by omega
        have e0 : (0 : Int) + (j : Int) = (j : Int) := by omega
        have hlenj := S'.len j hj2
        rw [e0]
        repeat walk_at "sx"
        refine r_ixL (SqL.of S'.bs) (atI_nat (j := j) (two_get (fun v => V.ref (P v)) hj2)) ?_
        repeat walk_at "sx"
        refine r_ixL (SqL.of S'.rws) (atI_nat (j := j) (two_get (fun v => V.ref (L v)) hj2)) ?_
        repeat walk_at "sx"
        refine r_ixL (SqL.of S'.cs) (atI_nat (j := j) (two_get (fun v => V.int (D v)) hj2)) ?_
        repeat walk_at "sx"
        refine ⟨P j, D j, NB j, KV j, L j, RS j, WS j, rfl, S'.book j hj2, S'.rows j hj2, S'.ok j hj2, by have : cs.length ≤ 63 := hcl; simp at hlenj; omega, fun H2 hs2 => ?_⟩
        repeat walk_at "sx"
        refine r_iteN rfl ?_
        repeat walk_at "sx"
        exact ⟨hs.trans hs2, _, _, _, _, _, _, _, _, _, _, rfl⟩
      · obtain ⟨hs, k4, k5, k6, k7, k8, k9, k10, k11, k12, k13, rfl⟩ := pp
        have S' := SB.same hs
        have hlen0 := S'.len 0 (by decide)
        repeat walk_at "sx"
        refine r_ixL (SqL.of S'.bs) (atI_nat (j := 0) rfl) ?_
        repeat walk_at "sx"
        refine r_ixL (SqL.of S'.rws) (atI_nat (j := 0) rfl) ?_
        repeat walk_at "sx"
        refine r_ixL (SqL.of S'.cs) (atI_nat (j := 0) rfl) ?_
        repeat walk_at "sx"
        refine ⟨P 0, D 0, NB 0, KV 0, L 0, RS 0, WS 0, rfl, S'.book 0 (by decide), S'.rows 0 (by decide), S'.ok 0 (by decide), by have : cs.length ≤ 63 := hcl; simp at hlen0; omega, fun H2 hs2 => ?_⟩
        have S2 := S'.same hs2
        obtain ⟨dx2, ob2⟩ := (S2.book 1 (by decide)).ob
        repeat walk_at "sx"
        refine r_iteP rfl ?_
        repeat walk_at "sx"
        refine r_fld (a := 0) ?_
        repeat walk_at "sx"
        refine r_ixL (SqL.of S2.bs) (atI_nat (j := 1) rfl) ?_
        refine ⟨P 1, _, dx2, _, _, rfl, ob2, T.cl_Book, T.na_Book_doors, bkf_doors _ _, ?_⟩
        repeat walk_at "sx"
        refine ⟨_, rfl, ?_⟩
        repeat walk_at "sx"
        refine r_iteP rfl ?_
        repeat walk_at "sx"
        refine r_fld (a := 0) ?_
        repeat walk_at "sx"
        refine r_ixL (SqL.of S2.bs) (atI_nat (j := 1) rfl) ?_
        refine ⟨P 1, _, dx2, _, _, rfl, ob2, T.cl_Book, T.na_Book_doors, bkf_doors _ _, ?_⟩
        repeat walk_at "sx"
        refine r_ixL (SqL.of S2.cs) (atI_nat (j := 1) rfl) ?_
        refine r_eq rfl ?_
        have := q H2
        simpa using this
end
theorem txt_mk {K : PySem.W.Frag} {h : Heap} {mg : Str → Option Value} (X : K.In h) (G : h.Ns mainGlobals mg) {tk_MOST_DOORS : Tok} {C_Book : Addr} {C_HouseError : Addr} {C_BadHouse : Addr} {C_BadWord : Addr} {C_SaidOtherwise : Addr} {C_NotWrong : Addr} {f_check_doors : Addr} {oc_check_doors kV_check_doors dc_check_doors pm_check_doors cd_check_doors ct_check_doors : Value} {od_check_doors an_check_doors : Option Addr} {sl_check_doors : Array (Option Value)} {f_check_word : Addr} {oc_check_word kV_check_word dc_check_word pm_check_word cd_check_word ct_check_word : Value} {od_check_word an_check_word : Option Addr} {sl_check_word : Array (Option Value)} {f_Book_init : Addr} {oc_Book_init kV_Book_init dc_Book_init pm_Book_init cd_Book_init ct_Book_init : Value} {od_Book_init an_Book_init : Option Addr} {sl_Book_init : Array (Option Value)} {f_Book_said : Addr} {oc_Book_said kV_Book_said dc_Book_said pm_Book_said cd_Book_said ct_Book_said : Value} {od_Book_said an_Book_said : Option Addr} {sl_Book_said : Array (Option Value)} {f_Book_check_note : Addr} {oc_Book_check_note kV_Book_check_note dc_Book_check_note pm_Book_check_note cd_Book_check_note ct_Book_check_note : Value} {od_Book_check_note an_Book_check_note : Option Addr} {sl_Book_check_note : Array (Option Value)} {f_Book_note : Addr} {oc_Book_note kV_Book_note dc_Book_note pm_Book_note cd_Book_note ct_Book_note : Value} {od_Book_note an_Book_note : Option Addr} {sl_Book_note : Array (Option Value)} {f_Book_all_said : Addr} {oc_Book_all_said kV_Book_all_said dc_Book_all_said pm_Book_all_said cd_Book_all_said ct_Book_all_said : Value} {od_Book_all_said an_Book_all_said : Option Addr} {sl_Book_all_said : Array (Option Value)} {f_l_cell_at : Addr} {oc_l_cell_at kV_l_cell_at dc_l_cell_at pm_l_cell_at cd_l_cell_at ct_l_cell_at : Value} {od_l_cell_at an_l_cell_at : Option Addr} {sl_l_cell_at : Array (Option Value)} {f_l_draw : Addr} {oc_l_draw kV_l_draw dc_l_draw pm_l_draw cd_l_draw ct_l_draw : Value} {od_l_draw an_l_draw : Option Addr} {sl_l_draw : Array (Option Value)} {f_l_word_by : Addr} {oc_l_word_by kV_l_word_by dc_l_word_by pm_l_word_by cd_l_word_by ct_l_word_by : Value} {od_l_word_by an_l_word_by : Option Addr} {sl_l_word_by : Array (Option Value)} {f_l_whole : Addr} {oc_l_whole kV_l_whole dc_l_whole pm_l_whole cd_l_whole ct_l_whole : Value} {od_l_whole an_l_whole : Option Addr} {sl_l_whole : Array (Option Value)} {f_l_is_word : Addr} {oc_l_is_word kV_l_is_word dc_l_is_word pm_l_is_word cd_l_is_word ct_l_is_word : Value} {od_l_is_word an_l_is_word : Option Addr} {sl_l_is_word : Array (Option Value)} {f_l_stands_under : Addr} {oc_l_stands_under kV_l_stands_under dc_l_stands_under pm_l_stands_under cd_l_stands_under ct_l_stands_under : Value} {od_l_stands_under an_l_stands_under : Option Addr} {sl_l_stands_under : Array (Option Value)} {f_l_found : Addr} {oc_l_found kV_l_found dc_l_found pm_l_found cd_l_found ct_l_found : Value} {od_l_found an_l_found : Option Addr} {sl_l_found : Array (Option Value)} {f_l_told : Addr} {oc_l_told kV_l_told dc_l_told pm_l_told cd_l_told ct_l_told : Value} {od_l_told an_l_told : Option Addr} {sl_l_told : Array (Option Value)} {f_l_said_is : Addr} {oc_l_said_is kV_l_said_is dc_l_said_is pm_l_said_is cd_l_said_is ct_l_said_is : Value} {od_l_said_is an_l_said_is : Option Addr} {sl_l_said_is : Array (Option Value)} {f_l_all_is : Addr} {oc_l_all_is kV_l_all_is dc_l_all_is pm_l_all_is cd_l_all_is ct_l_all_is : Value} {od_l_all_is an_l_all_is : Option Addr} {sl_l_all_is : Array (Option Value)} {f_law : Addr} {oc_law kV_law dc_law pm_law cd_law ct_law : Value} {od_law an_law : Option Addr} {sl_law : Array (Option Value)}
    (z_len : PySem.W.nsIn K mainGlobals "len" = some none)
    (z_range : PySem.W.nsIn K mainGlobals "range" = some none)
    (z_isinstance : PySem.W.nsIn K mainGlobals "isinstance" = some none)
    (z_list : PySem.W.nsIn K mainGlobals "list" = some none)
    (z_int : PySem.W.nsIn K mainGlobals "int" = some none)
    (z_bool : PySem.W.nsIn K mainGlobals "bool" = some none)
    (z_tuple : PySem.W.nsIn K mainGlobals "tuple" = some none)
    (z_ValueError : PySem.W.nsIn K mainGlobals "ValueError" = some none)
    (c_MOST_DOORS : PySem.W.nsIn K mainGlobals "MOST_DOORS" = some (some (.int 6 tk_MOST_DOORS)))
    (a_Book : PySem.W.nsIn K mainGlobals "Book" = some (some (.ref C_Book)))
    (pg_Book : PySem.W.plainGet K C_Book Str.empty = true)
    (hd_Book : PySem.W.hasDictIn K C_Book = true)
    (po_Book : PySem.W.plainOver K C_Book = true)
    (sa_Book : PySem.W.findIn K (.ref C_Book) "__setattr__" = some (some (.builtin "object.__setattr__")))
    (mk_Book : PySem.W.makesIn K C_Book = true)
    (kc_Book : PySem.W.keepIn K (.ref C_Book) = true)
    (tc_Book : PySem.W.findIn K (.ref C_Book) "__class__" = some (some (.builtin "object.__class__")))
    (tm_Book : PySem.W.mroIn K C_Book (.type "object") = some true)
    (n_Book_doors : PySem.W.findIn K (.ref C_Book) "doors" = some none)
    (n_Book_noted : PySem.W.findIn K (.ref C_Book) "noted" = some none)
    (a_HouseError : PySem.W.nsIn K mainGlobals "HouseError" = some (some (.ref C_HouseError)))
    (x_HouseError : PySem.W.excIn K C_HouseError bmV "ValueError.__new__" = true)
    (g1_HouseError : PySem.W.findIn K (.ref C_HouseError) "__getattribute__" = some (some (.builtin "BaseException.__getattribute__")))
    (g2_HouseError : PySem.W.findIn K (.ref C_HouseError) "__getattr__" = some none)
    (g3_HouseError : PySem.W.findIn K (.ref C_HouseError) "__class__" = some (some (.builtin "object.__class__")))
    (g4_HouseError : PySem.W.isClsIn K C_HouseError = true)
    (ty_HouseError : PySem.W.typeIn K (.ref C_HouseError) = some (.type "type"))
    (mv_HouseError : PySem.W.mroIn K C_HouseError (.type "ValueError") = some true)
    (ms_HouseError : PySem.W.mroIn K C_HouseError (.ref C_HouseError) = some true)
    (a_BadHouse : PySem.W.nsIn K mainGlobals "BadHouse" = some (some (.ref C_BadHouse)))
    (x_BadHouse : PySem.W.excIn K C_BadHouse bmV "ValueError.__new__" = true)
    (g1_BadHouse : PySem.W.findIn K (.ref C_BadHouse) "__getattribute__" = some (some (.builtin "BaseException.__getattribute__")))
    (g2_BadHouse : PySem.W.findIn K (.ref C_BadHouse) "__getattr__" = some none)
    (g3_BadHouse : PySem.W.findIn K (.ref C_BadHouse) "__class__" = some (some (.builtin "object.__class__")))
    (g4_BadHouse : PySem.W.isClsIn K C_BadHouse = true)
    (ty_BadHouse : PySem.W.typeIn K (.ref C_BadHouse) = some (.type "type"))
    (mv_BadHouse : PySem.W.mroIn K C_BadHouse (.type "ValueError") = some true)
    (ms_BadHouse : PySem.W.mroIn K C_BadHouse (.ref C_BadHouse) = some true)
    (a_BadWord : PySem.W.nsIn K mainGlobals "BadWord" = some (some (.ref C_BadWord)))
    (x_BadWord : PySem.W.excIn K C_BadWord bmV "ValueError.__new__" = true)
    (g1_BadWord : PySem.W.findIn K (.ref C_BadWord) "__getattribute__" = some (some (.builtin "BaseException.__getattribute__")))
    (g2_BadWord : PySem.W.findIn K (.ref C_BadWord) "__getattr__" = some none)
    (g3_BadWord : PySem.W.findIn K (.ref C_BadWord) "__class__" = some (some (.builtin "object.__class__")))
    (g4_BadWord : PySem.W.isClsIn K C_BadWord = true)
    (ty_BadWord : PySem.W.typeIn K (.ref C_BadWord) = some (.type "type"))
    (mv_BadWord : PySem.W.mroIn K C_BadWord (.type "ValueError") = some true)
    (ms_BadWord : PySem.W.mroIn K C_BadWord (.ref C_BadWord) = some true)
    (a_SaidOtherwise : PySem.W.nsIn K mainGlobals "SaidOtherwise" = some (some (.ref C_SaidOtherwise)))
    (x_SaidOtherwise : PySem.W.excIn K C_SaidOtherwise bmV "ValueError.__new__" = true)
    (g1_SaidOtherwise : PySem.W.findIn K (.ref C_SaidOtherwise) "__getattribute__" = some (some (.builtin "BaseException.__getattribute__")))
    (g2_SaidOtherwise : PySem.W.findIn K (.ref C_SaidOtherwise) "__getattr__" = some none)
    (g3_SaidOtherwise : PySem.W.findIn K (.ref C_SaidOtherwise) "__class__" = some (some (.builtin "object.__class__")))
    (g4_SaidOtherwise : PySem.W.isClsIn K C_SaidOtherwise = true)
    (ty_SaidOtherwise : PySem.W.typeIn K (.ref C_SaidOtherwise) = some (.type "type"))
    (mv_SaidOtherwise : PySem.W.mroIn K C_SaidOtherwise (.type "ValueError") = some true)
    (ms_SaidOtherwise : PySem.W.mroIn K C_SaidOtherwise (.ref C_SaidOtherwise) = some true)
    (a_NotWrong : PySem.W.nsIn K mainGlobals "NotWrong" = some (some (.ref C_NotWrong)))
    (x_NotWrong : PySem.W.excIn K C_NotWrong bmV "ValueError.__new__" = true)
    (g1_NotWrong : PySem.W.findIn K (.ref C_NotWrong) "__getattribute__" = some (some (.builtin "BaseException.__getattribute__")))
    (g2_NotWrong : PySem.W.findIn K (.ref C_NotWrong) "__getattr__" = some none)
    (g3_NotWrong : PySem.W.findIn K (.ref C_NotWrong) "__class__" = some (some (.builtin "object.__class__")))
    (g4_NotWrong : PySem.W.isClsIn K C_NotWrong = true)
    (ty_NotWrong : PySem.W.typeIn K (.ref C_NotWrong) = some (.type "type"))
    (mv_NotWrong : PySem.W.mroIn K C_NotWrong (.type "ValueError") = some true)
    (ms_NotWrong : PySem.W.mroIn K C_NotWrong (.ref C_NotWrong) = some true)
    (mr_HouseError_SaidOtherwise : PySem.W.mroIn K C_HouseError (.ref C_SaidOtherwise) = some false)
    (mr_SaidOtherwise_HouseError : PySem.W.mroIn K C_SaidOtherwise (.ref C_HouseError) = some true)
    (mr_SaidOtherwise_BadWord : PySem.W.mroIn K C_SaidOtherwise (.ref C_BadWord) = some false)
    (mr_SaidOtherwise_NotWrong : PySem.W.mroIn K C_SaidOtherwise (.ref C_NotWrong) = some false)
    (tg : PySem.W.specialIn K (.builtin "object.__class__") "__get__" = some (some (.builtin "getset_descriptor.__get__")))
    (tt : PySem.W.takesIn K (.builtin "object.__class__") = some true)
    (a_check_doors : PySem.W.nsIn K mainGlobals "check_doors" = some (some (.ref f_check_doors)))
    (l_check_doors : K.lookup f_check_doors = some ⟨oc_check_doors, od_check_doors, .func (PySem.W.fnOf "check_doors" "check_doors" (defArgs s_check_doors) (defBody s_check_doors) (defScope s_check_doors) .none kV_check_doors dc_check_doors pm_check_doors an_check_doors cd_check_doors ct_check_doors), sl_check_doors⟩)
    (c_check_doors : PySem.W.codeIn K cd_check_doors "check_doors" = true)
    (k_check_doors : PySem.W.keepIn K (.ref f_check_doors) = true)
    (a_check_word : PySem.W.nsIn K mainGlobals "check_word" = some (some (.ref f_check_word)))
    (l_check_word : K.lookup f_check_word = some ⟨oc_check_word, od_check_word, .func (PySem.W.fnOf "check_word" "check_word" (defArgs s_check_word) (defBody s_check_word) (defScope s_check_word) .none kV_check_word dc_check_word pm_check_word an_check_word cd_check_word ct_check_word), sl_check_word⟩)
    (c_check_word : PySem.W.codeIn K cd_check_word "check_word" = true)
    (k_check_word : PySem.W.keepIn K (.ref f_check_word) = true)
    (a_Book_init : PySem.W.findIn K (.ref C_Book) "__init__" = some (some (.ref f_Book_init)))
    (i_Book_init : PySem.W.isFn K (.ref f_Book_init) = true)
    (l_Book_init : K.lookup f_Book_init = some ⟨oc_Book_init, od_Book_init, .func (PySem.W.fnOf "__init__" "Book.__init__" (defArgs s_Book_init) (defBody s_Book_init) (defScope s_Book_init) .none kV_Book_init dc_Book_init pm_Book_init an_Book_init cd_Book_init ct_Book_init), sl_Book_init⟩)
    (c_Book_init : PySem.W.codeIn K cd_Book_init "Book.__init__" = true)
    (k_Book_init : PySem.W.keepIn K (.ref f_Book_init) = true)
    (a_Book_said : PySem.W.findIn K (.ref C_Book) "said" = some (some (.ref f_Book_said)))
    (i_Book_said : PySem.W.isFn K (.ref f_Book_said) = true)
    (l_Book_said : K.lookup f_Book_said = some ⟨oc_Book_said, od_Book_said, .func (PySem.W.fnOf "said" "Book.said" (defArgs s_Book_said) (defBody s_Book_said) (defScope s_Book_said) .none kV_Book_said dc_Book_said pm_Book_said an_Book_said cd_Book_said ct_Book_said), sl_Book_said⟩)
    (c_Book_said : PySem.W.codeIn K cd_Book_said "Book.said" = true)
    (k_Book_said : PySem.W.keepIn K (.ref f_Book_said) = true)
    (a_Book_check_note : PySem.W.findIn K (.ref C_Book) "check_note" = some (some (.ref f_Book_check_note)))
    (i_Book_check_note : PySem.W.isFn K (.ref f_Book_check_note) = true)
    (l_Book_check_note : K.lookup f_Book_check_note = some ⟨oc_Book_check_note, od_Book_check_note, .func (PySem.W.fnOf "check_note" "Book.check_note" (defArgs s_Book_check_note) (defBody s_Book_check_note) (defScope s_Book_check_note) .none kV_Book_check_note dc_Book_check_note pm_Book_check_note an_Book_check_note cd_Book_check_note ct_Book_check_note), sl_Book_check_note⟩)
    (c_Book_check_note : PySem.W.codeIn K cd_Book_check_note "Book.check_note" = true)
    (k_Book_check_note : PySem.W.keepIn K (.ref f_Book_check_note) = true)
    (a_Book_note : PySem.W.findIn K (.ref C_Book) "note" = some (some (.ref f_Book_note)))
    (i_Book_note : PySem.W.isFn K (.ref f_Book_note) = true)
    (l_Book_note : K.lookup f_Book_note = some ⟨oc_Book_note, od_Book_note, .func (PySem.W.fnOf "note" "Book.note" (defArgs s_Book_note) (defBody s_Book_note) (defScope s_Book_note) .none kV_Book_note dc_Book_note pm_Book_note an_Book_note cd_Book_note ct_Book_note), sl_Book_note⟩)
    (c_Book_note : PySem.W.codeIn K cd_Book_note "Book.note" = true)
    (k_Book_note : PySem.W.keepIn K (.ref f_Book_note) = true)
    (a_Book_all_said : PySem.W.findIn K (.ref C_Book) "all_said" = some (some (.ref f_Book_all_said)))
    (i_Book_all_said : PySem.W.isFn K (.ref f_Book_all_said) = true)
    (l_Book_all_said : K.lookup f_Book_all_said = some ⟨oc_Book_all_said, od_Book_all_said, .func (PySem.W.fnOf "all_said" "Book.all_said" (defArgs s_Book_all_said) (defBody s_Book_all_said) (defScope s_Book_all_said) .none kV_Book_all_said dc_Book_all_said pm_Book_all_said an_Book_all_said cd_Book_all_said ct_Book_all_said), sl_Book_all_said⟩)
    (c_Book_all_said : PySem.W.codeIn K cd_Book_all_said "Book.all_said" = true)
    (k_Book_all_said : PySem.W.keepIn K (.ref f_Book_all_said) = true)
    (a_l_cell_at : PySem.W.nsIn K mainGlobals "_law_cell_at" = some (some (.ref f_l_cell_at)))
    (l_l_cell_at : K.lookup f_l_cell_at = some ⟨oc_l_cell_at, od_l_cell_at, .func (PySem.W.fnOf "_law_cell_at" "_law_cell_at" (defArgs s_l_cell_at) (defBody s_l_cell_at) (defScope s_l_cell_at) .none kV_l_cell_at dc_l_cell_at pm_l_cell_at an_l_cell_at cd_l_cell_at ct_l_cell_at), sl_l_cell_at⟩)
    (c_l_cell_at : PySem.W.codeIn K cd_l_cell_at "_law_cell_at" = true)
    (k_l_cell_at : PySem.W.keepIn K (.ref f_l_cell_at) = true)
    (a_l_draw : PySem.W.nsIn K mainGlobals "_law_draw" = some (some (.ref f_l_draw)))
    (l_l_draw : K.lookup f_l_draw = some ⟨oc_l_draw, od_l_draw, .func (PySem.W.fnOf "_law_draw" "_law_draw" (defArgs s_l_draw) (defBody s_l_draw) (defScope s_l_draw) .none kV_l_draw dc_l_draw pm_l_draw an_l_draw cd_l_draw ct_l_draw), sl_l_draw⟩)
    (c_l_draw : PySem.W.codeIn K cd_l_draw "_law_draw" = true)
    (k_l_draw : PySem.W.keepIn K (.ref f_l_draw) = true)
    (a_l_word_by : PySem.W.nsIn K mainGlobals "_law_word_by" = some (some (.ref f_l_word_by)))
    (l_l_word_by : K.lookup f_l_word_by = some ⟨oc_l_word_by, od_l_word_by, .func (PySem.W.fnOf "_law_word_by" "_law_word_by" (defArgs s_l_word_by) (defBody s_l_word_by) (defScope s_l_word_by) .none kV_l_word_by dc_l_word_by pm_l_word_by an_l_word_by cd_l_word_by ct_l_word_by), sl_l_word_by⟩)
    (c_l_word_by : PySem.W.codeIn K cd_l_word_by "_law_word_by" = true)
    (k_l_word_by : PySem.W.keepIn K (.ref f_l_word_by) = true)
    (a_l_whole : PySem.W.nsIn K mainGlobals "_law_whole" = some (some (.ref f_l_whole)))
    (l_l_whole : K.lookup f_l_whole = some ⟨oc_l_whole, od_l_whole, .func (PySem.W.fnOf "_law_whole" "_law_whole" (defArgs s_l_whole) (defBody s_l_whole) (defScope s_l_whole) .none kV_l_whole dc_l_whole pm_l_whole an_l_whole cd_l_whole ct_l_whole), sl_l_whole⟩)
    (c_l_whole : PySem.W.codeIn K cd_l_whole "_law_whole" = true)
    (k_l_whole : PySem.W.keepIn K (.ref f_l_whole) = true)
    (a_l_is_word : PySem.W.nsIn K mainGlobals "_law_is_word" = some (some (.ref f_l_is_word)))
    (l_l_is_word : K.lookup f_l_is_word = some ⟨oc_l_is_word, od_l_is_word, .func (PySem.W.fnOf "_law_is_word" "_law_is_word" (defArgs s_l_is_word) (defBody s_l_is_word) (defScope s_l_is_word) .none kV_l_is_word dc_l_is_word pm_l_is_word an_l_is_word cd_l_is_word ct_l_is_word), sl_l_is_word⟩)
    (c_l_is_word : PySem.W.codeIn K cd_l_is_word "_law_is_word" = true)
    (k_l_is_word : PySem.W.keepIn K (.ref f_l_is_word) = true)
    (a_l_stands_under : PySem.W.nsIn K mainGlobals "_law_stands_under" = some (some (.ref f_l_stands_under)))
    (l_l_stands_under : K.lookup f_l_stands_under = some ⟨oc_l_stands_under, od_l_stands_under, .func (PySem.W.fnOf "_law_stands_under" "_law_stands_under" (defArgs s_l_stands_under) (defBody s_l_stands_under) (defScope s_l_stands_under) .none kV_l_stands_under dc_l_stands_under pm_l_stands_under an_l_stands_under cd_l_stands_under ct_l_stands_under), sl_l_stands_under⟩)
    (c_l_stands_under : PySem.W.codeIn K cd_l_stands_under "_law_stands_under" = true)
    (k_l_stands_under : PySem.W.keepIn K (.ref f_l_stands_under) = true)
    (a_l_found : PySem.W.nsIn K mainGlobals "_law_found" = some (some (.ref f_l_found)))
    (l_l_found : K.lookup f_l_found = some ⟨oc_l_found, od_l_found, .func (PySem.W.fnOf "_law_found" "_law_found" (defArgs s_l_found) (defBody s_l_found) (defScope s_l_found) .none kV_l_found dc_l_found pm_l_found an_l_found cd_l_found ct_l_found), sl_l_found⟩)
    (c_l_found : PySem.W.codeIn K cd_l_found "_law_found" = true)
    (k_l_found : PySem.W.keepIn K (.ref f_l_found) = true)
    (a_l_told : PySem.W.nsIn K mainGlobals "_law_told" = some (some (.ref f_l_told)))
    (l_l_told : K.lookup f_l_told = some ⟨oc_l_told, od_l_told, .func (PySem.W.fnOf "_law_told" "_law_told" (defArgs s_l_told) (defBody s_l_told) (defScope s_l_told) .none kV_l_told dc_l_told pm_l_told an_l_told cd_l_told ct_l_told), sl_l_told⟩)
    (c_l_told : PySem.W.codeIn K cd_l_told "_law_told" = true)
    (k_l_told : PySem.W.keepIn K (.ref f_l_told) = true)
    (a_l_said_is : PySem.W.nsIn K mainGlobals "_law_said_is" = some (some (.ref f_l_said_is)))
    (l_l_said_is : K.lookup f_l_said_is = some ⟨oc_l_said_is, od_l_said_is, .func (PySem.W.fnOf "_law_said_is" "_law_said_is" (defArgs s_l_said_is) (defBody s_l_said_is) (defScope s_l_said_is) .none kV_l_said_is dc_l_said_is pm_l_said_is an_l_said_is cd_l_said_is ct_l_said_is), sl_l_said_is⟩)
    (c_l_said_is : PySem.W.codeIn K cd_l_said_is "_law_said_is" = true)
    (k_l_said_is : PySem.W.keepIn K (.ref f_l_said_is) = true)
    (a_l_all_is : PySem.W.nsIn K mainGlobals "_law_all_is" = some (some (.ref f_l_all_is)))
    (l_l_all_is : K.lookup f_l_all_is = some ⟨oc_l_all_is, od_l_all_is, .func (PySem.W.fnOf "_law_all_is" "_law_all_is" (defArgs s_l_all_is) (defBody s_l_all_is) (defScope s_l_all_is) .none kV_l_all_is dc_l_all_is pm_l_all_is an_l_all_is cd_l_all_is ct_l_all_is), sl_l_all_is⟩)
    (c_l_all_is : PySem.W.codeIn K cd_l_all_is "_law_all_is" = true)
    (k_l_all_is : PySem.W.keepIn K (.ref f_l_all_is) = true)
    (a_law : PySem.W.nsIn K mainGlobals "law" = some (some (.ref f_law)))
    (l_law : K.lookup f_law = some ⟨oc_law, od_law, .func (PySem.W.fnOf "law" "law" (defArgs s_law) (defBody s_law) (defScope s_law) .none kV_law dc_law pm_law an_law cd_law ct_law), sl_law⟩)
    (c_law : PySem.W.codeIn K cd_law "law" = true)
    (k_law : PySem.W.keepIn K (.ref f_law) = true)
    : ∃ t, Txt K mg t :=
  ⟨{ C_Book := C_Book, C_HouseError := C_HouseError, C_BadHouse := C_BadHouse, C_BadWord := C_BadWord, C_SaidOtherwise := C_SaidOtherwise, C_NotWrong := C_NotWrong, f_check_doors := f_check_doors, fd_check_doors := PySem.W.fnOf "check_doors" "check_doors" (defArgs s_check_doors) (defBody s_check_doors) (defScope s_check_doors) .none kV_check_doors dc_check_doors pm_check_doors an_check_doors cd_check_doors ct_check_doors, f_check_word := f_check_word, fd_check_word := PySem.W.fnOf "check_word" "check_word" (defArgs s_check_word) (defBody s_check_word) (defScope s_check_word) .none kV_check_word dc_check_word pm_check_word an_check_word cd_check_word ct_check_word, f_Book_init := f_Book_init, fd_Book_init := PySem.W.fnOf "__init__" "Book.__init__" (defArgs s_Book_init) (defBody s_Book_init) (defScope s_Book_init) .none kV_Book_init dc_Book_init pm_Book_init an_Book_init cd_Book_init ct_Book_init, f_Book_said := f_Book_said, fd_Book_said := PySem.W.fnOf "said" "Book.said" (defArgs s_Book_said) (defBody s_Book_said) (defScope s_Book_said) .none kV_Book_said dc_Book_said pm_Book_said an_Book_said cd_Book_said ct_Book_said, f_Book_check_note := f_Book_check_note, fd_Book_check_note := PySem.W.fnOf "check_note" "Book.check_note" (defArgs s_Book_check_note) (defBody s_Book_check_note) (defScope s_Book_check_note) .none kV_Book_check_note dc_Book_check_note pm_Book_check_note an_Book_check_note cd_Book_check_note ct_Book_check_note, f_Book_note := f_Book_note, fd_Book_note := PySem.W.fnOf "note" "Book.note" (defArgs s_Book_note) (defBody s_Book_note) (defScope s_Book_note) .none kV_Book_note dc_Book_note pm_Book_note an_Book_note cd_Book_note ct_Book_note, f_Book_all_said := f_Book_all_said, fd_Book_all_said := PySem.W.fnOf "all_said" "Book.all_said" (defArgs s_Book_all_said) (defBody s_Book_all_said) (defScope s_Book_all_said) .none kV_Book_all_said dc_Book_all_said pm_Book_all_said an_Book_all_said cd_Book_all_said ct_Book_all_said, f_l_cell_at := f_l_cell_at, fd_l_cell_at := PySem.W.fnOf "_law_cell_at" "_law_cell_at" (defArgs s_l_cell_at) (defBody s_l_cell_at) (defScope s_l_cell_at) .none kV_l_cell_at dc_l_cell_at pm_l_cell_at an_l_cell_at cd_l_cell_at ct_l_cell_at, f_l_draw := f_l_draw, fd_l_draw := PySem.W.fnOf "_law_draw" "_law_draw" (defArgs s_l_draw) (defBody s_l_draw) (defScope s_l_draw) .none kV_l_draw dc_l_draw pm_l_draw an_l_draw cd_l_draw ct_l_draw, f_l_word_by := f_l_word_by, fd_l_word_by := PySem.W.fnOf "_law_word_by" "_law_word_by" (defArgs s_l_word_by) (defBody s_l_word_by) (defScope s_l_word_by) .none kV_l_word_by dc_l_word_by pm_l_word_by an_l_word_by cd_l_word_by ct_l_word_by, f_l_whole := f_l_whole, fd_l_whole := PySem.W.fnOf "_law_whole" "_law_whole" (defArgs s_l_whole) (defBody s_l_whole) (defScope s_l_whole) .none kV_l_whole dc_l_whole pm_l_whole an_l_whole cd_l_whole ct_l_whole, f_l_is_word := f_l_is_word, fd_l_is_word := PySem.W.fnOf "_law_is_word" "_law_is_word" (defArgs s_l_is_word) (defBody s_l_is_word) (defScope s_l_is_word) .none kV_l_is_word dc_l_is_word pm_l_is_word an_l_is_word cd_l_is_word ct_l_is_word, f_l_stands_under := f_l_stands_under, fd_l_stands_under := PySem.W.fnOf "_law_stands_under" "_law_stands_under" (defArgs s_l_stands_under) (defBody s_l_stands_under) (defScope s_l_stands_under) .none kV_l_stands_under dc_l_stands_under pm_l_stands_under an_l_stands_under cd_l_stands_under ct_l_stands_under, f_l_found := f_l_found, fd_l_found := PySem.W.fnOf "_law_found" "_law_found" (defArgs s_l_found) (defBody s_l_found) (defScope s_l_found) .none kV_l_found dc_l_found pm_l_found an_l_found cd_l_found ct_l_found, f_l_told := f_l_told, fd_l_told := PySem.W.fnOf "_law_told" "_law_told" (defArgs s_l_told) (defBody s_l_told) (defScope s_l_told) .none kV_l_told dc_l_told pm_l_told an_l_told cd_l_told ct_l_told, f_l_said_is := f_l_said_is, fd_l_said_is := PySem.W.fnOf "_law_said_is" "_law_said_is" (defArgs s_l_said_is) (defBody s_l_said_is) (defScope s_l_said_is) .none kV_l_said_is dc_l_said_is pm_l_said_is an_l_said_is cd_l_said_is ct_l_said_is, f_l_all_is := f_l_all_is, fd_l_all_is := PySem.W.fnOf "_law_all_is" "_law_all_is" (defArgs s_l_all_is) (defBody s_l_all_is) (defScope s_l_all_is) .none kV_l_all_is dc_l_all_is pm_l_all_is an_l_all_is cd_l_all_is ct_l_all_is, f_law := f_law, fd_law := PySem.W.fnOf "law" "law" (defArgs s_law) (defBody s_law) (defScope s_law) .none kV_law dc_law pm_law an_law cd_law ct_law },
   ⟨PySem.W.mg_none_of X G z_len, PySem.W.mg_none_of X G z_range, PySem.W.mg_none_of X G z_isinstance, PySem.W.mg_none_of X G z_list, PySem.W.mg_none_of X G z_int, PySem.W.mg_none_of X G z_bool, PySem.W.mg_none_of X G z_tuple, PySem.W.mg_none_of X G z_ValueError, ⟨_, PySem.W.mg_of X G c_MOST_DOORS⟩, PySem.W.mg_of X G a_Book, ⟨pg_Book, hd_Book, po_Book, sa_Book⟩, tc_Book, tm_Book, n_Book_doors, n_Book_noted, PySem.W.mg_of X G a_HouseError, ⟨⟨a_HouseError, x_HouseError⟩, g1_HouseError, g2_HouseError, g3_HouseError, g4_HouseError⟩, g4_HouseError, ty_HouseError, mv_HouseError, ms_HouseError, PySem.W.mg_of X G a_BadHouse, ⟨⟨a_BadHouse, x_BadHouse⟩, g1_BadHouse, g2_BadHouse, g3_BadHouse, g4_BadHouse⟩, g4_BadHouse, ty_BadHouse, mv_BadHouse, ms_BadHouse, PySem.W.mg_of X G a_BadWord, ⟨⟨a_BadWord, x_BadWord⟩, g1_BadWord, g2_BadWord, g3_BadWord, g4_BadWord⟩, g4_BadWord, ty_BadWord, mv_BadWord, ms_BadWord, PySem.W.mg_of X G a_SaidOtherwise, ⟨⟨a_SaidOtherwise, x_SaidOtherwise⟩, g1_SaidOtherwise, g2_SaidOtherwise, g3_SaidOtherwise, g4_SaidOtherwise⟩, g4_SaidOtherwise, ty_SaidOtherwise, mv_SaidOtherwise, ms_SaidOtherwise, PySem.W.mg_of X G a_NotWrong, ⟨⟨a_NotWrong, x_NotWrong⟩, g1_NotWrong, g2_NotWrong, g3_NotWrong, g4_NotWrong⟩, g4_NotWrong, ty_NotWrong, mv_NotWrong, ms_NotWrong, mr_HouseError_SaidOtherwise, mr_SaidOtherwise_HouseError, mr_SaidOtherwise_BadWord, mr_SaidOtherwise_NotWrong, tg, tt, PySem.W.mg_of X G a_check_doors, fun_mk (st := s_check_doors) l_check_doors c_check_doors k_check_doors, PySem.W.mg_of X G a_check_word, fun_mk (st := s_check_word) l_check_word c_check_word k_check_word, fun_mk (st := s_Book_init) l_Book_init c_Book_init k_Book_init, ⟨mk_Book, a_Book_init, i_Book_init, kc_Book⟩, fun_mk (st := s_Book_said) l_Book_said c_Book_said k_Book_said, ⟨a_Book_said, i_Book_said, k_Book_said⟩, fun_mk (st := s_Book_check_note) l_Book_check_note c_Book_check_note k_Book_check_note, ⟨a_Book_check_note, i_Book_check_note, k_Book_check_note⟩, fun_mk (st := s_Book_note) l_Book_note c_Book_note k_Book_note, ⟨a_Book_note, i_Book_note, k_Book_note⟩, fun_mk (st := s_Book_all_said) l_Book_all_said c_Book_all_said k_Book_all_said, ⟨a_Book_all_said, i_Book_all_said, k_Book_all_said⟩, PySem.W.mg_of X G a_l_cell_at, fun_mk (st := s_l_cell_at) l_l_cell_at c_l_cell_at k_l_cell_at, PySem.W.mg_of X G a_l_draw, fun_mk (st := s_l_draw) l_l_draw c_l_draw k_l_draw, PySem.W.mg_of X G a_l_word_by, fun_mk (st := s_l_word_by) l_l_word_by c_l_word_by k_l_word_by, PySem.W.mg_of X G a_l_whole, fun_mk (st := s_l_whole) l_l_whole c_l_whole k_l_whole, PySem.W.mg_of X G a_l_is_word, fun_mk (st := s_l_is_word) l_l_is_word c_l_is_word k_l_is_word, PySem.W.mg_of X G a_l_stands_under, fun_mk (st := s_l_stands_under) l_l_stands_under c_l_stands_under k_l_stands_under, PySem.W.mg_of X G a_l_found, fun_mk (st := s_l_found) l_l_found c_l_found k_l_found, PySem.W.mg_of X G a_l_told, fun_mk (st := s_l_told) l_l_told c_l_told k_l_told, PySem.W.mg_of X G a_l_said_is, fun_mk (st := s_l_said_is) l_l_said_is c_l_said_is k_l_said_is, PySem.W.mg_of X G a_l_all_is, fun_mk (st := s_l_all_is) l_l_all_is c_l_all_is k_l_all_is, PySem.W.mg_of X G a_law, fun_mk (st := s_law) l_law c_law k_law⟩⟩
end My
open PySem PySem.W PyProof.Rows
set_option maxRecDepth 100000 in
set_option maxHeartbeats 0 in
theorem PySem.Challenge.cw_askhouse_k04_books_holds : PySem.Challenge.rw_askhouse_k04_books.Holds := by
  w_on; o_law; k_head; (case hw => w_witness2)
  k_fill
  refine L2.walk_ofK (l := PySem.Challenge.rw_askhouse_k04_books) (n := 63) (k := 6) (x := "script") (CX := L2.CX0) (sp := fun K => My.sp_law K) rfl (by decide) rfl ⟨rfl, by decide, by decide⟩ (fun w h Y => PySem.W.kIn_of Y) ?F ?S ?C
  case F =>
    intro w mg fa h KX G hmg
    have T : ∃ t, My.Txt (L2.KOf KX) mg t := by
      dsimp only [L2.KOf]
      refine' My.txt_mk KX G ?z_len ?z_range ?z_isinstance ?z_list ?z_int ?z_bool ?z_tuple ?z_ValueError ?c_MOST_DOORS ?a_Book ?pg_Book ?hd_Book ?po_Book ?sa_Book ?mk_Book ?kc_Book ?tc_Book ?tm_Book ?n_Book_doors ?n_Book_noted ?a_HouseError ?x_HouseError ?g1_HouseError ?g2_HouseError ?g3_HouseError ?g4_HouseError ?ty_HouseError ?mv_HouseError ?ms_HouseError ?a_BadHouse ?x_BadHouse ?g1_BadHouse ?g2_BadHouse ?g3_BadHouse ?g4_BadHouse ?ty_BadHouse ?mv_BadHouse ?ms_BadHouse ?a_BadWord ?x_BadWord ?g1_BadWord ?g2_BadWord ?g3_BadWord ?g4_BadWord ?ty_BadWord ?mv_BadWord ?ms_BadWord ?a_SaidOtherwise ?x_SaidOtherwise ?g1_SaidOtherwise ?g2_SaidOtherwise ?g3_SaidOtherwise ?g4_SaidOtherwise ?ty_SaidOtherwise ?mv_SaidOtherwise ?ms_SaidOtherwise ?a_NotWrong ?x_NotWrong ?g1_NotWrong ?g2_NotWrong ?g3_NotWrong ?g4_NotWrong ?ty_NotWrong ?mv_NotWrong ?ms_NotWrong ?mr_HouseError_SaidOtherwise ?mr_SaidOtherwise_HouseError ?mr_SaidOtherwise_BadWord ?mr_SaidOtherwise_NotWrong ?tg ?tt ?a_check_doors ?l_check_doors ?c_check_doors ?k_check_doors ?a_check_word ?l_check_word ?c_check_word ?k_check_word ?a_Book_init ?i_Book_init ?l_Book_init ?c_Book_init ?k_Book_init ?a_Book_said ?i_Book_said ?l_Book_said ?c_Book_said ?k_Book_said ?a_Book_check_note ?i_Book_check_note ?l_Book_check_note ?c_Book_check_note ?k_Book_check_note ?a_Book_note ?i_Book_note ?l_Book_note ?c_Book_note ?k_Book_note ?a_Book_all_said ?i_Book_all_said ?l_Book_all_said ?c_Book_all_said ?k_Book_all_said ?a_l_cell_at ?l_l_cell_at ?c_l_cell_at ?k_l_cell_at ?a_l_draw ?l_l_draw ?c_l_draw ?k_l_draw ?a_l_word_by ?l_l_word_by ?c_l_word_by ?k_l_word_by ?a_l_whole ?l_l_whole ?c_l_whole ?k_l_whole ?a_l_is_word ?l_l_is_word ?c_l_is_word ?k_l_is_word ?a_l_stands_under ?l_l_stands_under ?c_l_stands_under ?k_l_stands_under ?a_l_found ?l_l_found ?c_l_found ?k_l_found ?a_l_told ?l_l_told ?c_l_told ?k_l_told ?a_l_said_is ?l_l_said_is ?c_l_said_is ?k_l_said_is ?a_l_all_is ?l_l_all_is ?c_l_all_is ?k_l_all_is ?a_law ?l_law ?c_law ?k_law
      (case z_len => k_is)
      (case z_range => k_is)
      (case z_isinstance => k_is)
      (case z_list => k_is)
      (case z_int => k_is)
      (case z_bool => k_is)
      (case z_tuple => k_is)
      (case z_ValueError => k_is)
      (case c_MOST_DOORS => k_is)
      (case a_Book => k_is)
      (case pg_Book => k_is)
      (case hd_Book => k_is)
      (case po_Book => k_is)
      (case sa_Book => k_is)
      (case mk_Book => k_is)
      (case kc_Book => k_is)
      (case tc_Book => k_is)
      (case tm_Book => k_is)
      (case n_Book_doors => k_is)
      (case n_Book_noted => k_is)
      (case a_HouseError => k_is)
      (case x_HouseError => k_exc)
      (case g1_HouseError => k_is)
      (case g2_HouseError => k_is)
      (case g3_HouseError => k_is)
      (case g4_HouseError => k_is)
      (case ty_HouseError => k_is)
      (case mv_HouseError => k_is)
      (case ms_HouseError => k_is)
      (case a_BadHouse => k_is)
      (case x_BadHouse => k_exc)
      (case g1_BadHouse => k_is)
      (case g2_BadHouse => k_is)
      (case g3_BadHouse => k_is)
      (case g4_BadHouse => k_is)
      (case ty_BadHouse => k_is)
      (case mv_BadHouse => k_is)
      (case ms_BadHouse => k_is)
      (case a_BadWord => k_is)
      (case x_BadWord => k_exc)
      (case g1_BadWord => k_is)
      (case g2_BadWord => k_is)
      (case g3_BadWord => k_is)
      (case g4_BadWord => k_is)
      (case ty_BadWord => k_is)
      (case mv_BadWord => k_is)
      (case ms_BadWord => k_is)
      (case a_SaidOtherwise => k_is)
      (case x_SaidOtherwise => k_exc)
      (case g1_SaidOtherwise => k_is)
      (case g2_SaidOtherwise => k_is)
      (case g3_SaidOtherwise => k_is)
      (case g4_SaidOtherwise => k_is)
      (case ty_SaidOtherwise => k_is)
      (case mv_SaidOtherwise => k_is)
      (case ms_SaidOtherwise => k_is)
      (case a_NotWrong => k_is)
      (case x_NotWrong => k_exc)
      (case g1_NotWrong => k_is)
      (case g2_NotWrong => k_is)
      (case g3_NotWrong => k_is)
      (case g4_NotWrong => k_is)
      (case ty_NotWrong => k_is)
      (case mv_NotWrong => k_is)
      (case ms_NotWrong => k_is)
      (case mr_HouseError_SaidOtherwise => k_is)
      (case mr_SaidOtherwise_HouseError => k_is)
      (case mr_SaidOtherwise_BadWord => k_is)
      (case mr_SaidOtherwise_NotWrong => k_is)
      (case tg => k_is)
      (case tt => k_is)
      (case a_check_doors => k_is)
      (case l_check_doors => k_is)
      (case c_check_doors => k_is)
      (case k_check_doors => k_is)
      (case a_check_word => k_is)
      (case l_check_word => k_is)
      (case c_check_word => k_is)
      (case k_check_word => k_is)
      (case a_Book_init => k_is)
      (case i_Book_init => k_is)
      (case l_Book_init => k_is)
      (case c_Book_init => k_is)
      (case k_Book_init => k_is)
      (case a_Book_said => k_is)
      (case i_Book_said => k_is)
      (case l_Book_said => k_is)
      (case c_Book_said => k_is)
      (case k_Book_said => k_is)
      (case a_Book_check_note => k_is)
      (case i_Book_check_note => k_is)
      (case l_Book_check_note => k_is)
      (case c_Book_check_note => k_is)
      (case k_Book_check_note => k_is)
      (case a_Book_note => k_is)
      (case i_Book_note => k_is)
      (case l_Book_note => k_is)
      (case c_Book_note => k_is)
      (case k_Book_note => k_is)
      (case a_Book_all_said => k_is)
      (case i_Book_all_said => k_is)
      (case l_Book_all_said => k_is)
      (case c_Book_all_said => k_is)
      (case k_Book_all_said => k_is)
      (case a_l_cell_at => k_is)
      (case l_l_cell_at => k_is)
      (case c_l_cell_at => k_is)
      (case k_l_cell_at => k_is)
      (case a_l_draw => k_is)
      (case l_l_draw => k_is)
      (case c_l_draw => k_is)
      (case k_l_draw => k_is)
      (case a_l_word_by => k_is)
      (case l_l_word_by => k_is)
      (case c_l_word_by => k_is)
      (case k_l_word_by => k_is)
      (case a_l_whole => k_is)
      (case l_l_whole => k_is)
      (case c_l_whole => k_is)
      (case k_l_whole => k_is)
      (case a_l_is_word => k_is)
      (case l_l_is_word => k_is)
      (case c_l_is_word => k_is)
      (case k_l_is_word => k_is)
      (case a_l_stands_under => k_is)
      (case l_l_stands_under => k_is)
      (case c_l_stands_under => k_is)
      (case k_l_stands_under => k_is)
      (case a_l_found => k_is)
      (case l_l_found => k_is)
      (case c_l_found => k_is)
      (case k_l_found => k_is)
      (case a_l_told => k_is)
      (case l_l_told => k_is)
      (case c_l_told => k_is)
      (case k_l_told => k_is)
      (case a_l_said_is => k_is)
      (case l_l_said_is => k_is)
      (case c_l_said_is => k_is)
      (case k_l_said_is => k_is)
      (case a_l_all_is => k_is)
      (case l_l_all_is => k_is)
      (case c_l_all_is => k_is)
      (case k_l_all_is => k_is)
      (case a_law => k_is)
      (case l_law => k_is)
      (case c_law => k_is)
      (case k_law => k_is)
    obtain ⟨t, T⟩ := T
    have e0 := hmg.symm.trans T.mg_law
    cases e0
    refine' ⟨t.fd_law, ?b, fun base kb nb => My.ok_law T⟩
    obtain ⟨oc, od, kV, doc, pm, an, cdv, ct, osl, e, _, _⟩ := T.F_law.ex
    rw [e]
    exact fun s u => .of_eq rfl
  case S => exact fun K H a ns hl hO hS => ⟨a, ns, rfl, hS, hl, fun _ => rfl⟩
  case C => exact fun _ _ _ _ h => h
#print axioms PySem.Challenge.cw_askhouse_k04_books_holds
